import PyProof.Rows.All
import Wide.All
import OpenK.AllK
import Wide.FinOn
import HandS.ForMost
import HandS.Strs
import HandS.SetFor
import HandS.SetKeys
import HandS.Walk
import HandS.NoneIn
import HandS.Conv
import HandS.TupAny
import HandS.FStr
import HandS.Deep
import KE.KDictItemsList
import KE.KDictList
import KE.KItemsList
import KE.KDictSum
import HandS.ListItems
import PyProof.ListStr
import HandS.IsInst
import PyProof.Rows.TmSorted
import PyProof.Rows.StrMeet
import HandS.OwnEq
import KE.KWords
import PyProof.Rows.StrCut
import HandS.Text
import HandS.Ends
import HandS.MakeKw
import HandS.MakeKwOnly
import PyProof.ReprRoads
import PySem.Challenge.RW_fewgoings_k09_what_a_program_tells
set_option Elab.async false
set_option linter.all false
set_option maxRecDepth 100000
namespace Fg
open PySem L2
def top (i : Nat) : Stmt := PySem.Challenge.pw_fewgoings_k09_what_a_program_tells.main.body.getD i (.Pass ⟨0, 0, 0, 0⟩)
/-- a def of the text that stands ready to be called -/
structure Callee (P : Program) (w : World) (K : PySem.W.Frag) (mg : Str → Option Value) (base : Heap) (k : Nat) (x : Str) (ps : List Str) (sp : Sp) where
  f : Addr
  fd : FuncData
  ok : FnOk P w K mg base CX0 k f fd ps sp
  mg : mg x = some (.ref f)
  kp : PySem.W.keepIn K (.ref f) = true
  b : Binds K fd ps []
/-- the built-in names that are nobody's -/
structure Bare (mg : Str → Option Value) : Prop where
  len : mg "len" = none
  int : mg "int" = none
  abs : mg "abs" = none
  str : mg "str" = none
  list : mg "list" = none
  tuple : mg "tuple" = none
  range : mg "range" = none
theorem same_new {H : Hp} {p : Addr} (h : H p = none) (o : HO) : Same H (upd H p o) := fun b u q => by rw [upd_ne (ne_of_none q h)]; exact q
/-- all but what stands at p is as it was -/
def But (p : Addr) (H H' : Hp) : Prop := ∀ b o, H b = some o → b ≠ p → H' b = some o
theorem But.refl (p : Addr) (H : Hp) : But p H H := fun _ _ h _ => h
theorem But.trans {p : Addr} {H H1 H2 : Hp} (a : But p H H1) (b : But p H1 H2) : But p H H2 := fun c o h n => b c o (a c o h n) n
theorem But.of_same {p : Addr} {H H' : Hp} (s : Same H H') : But p H H' := fun b o h _ => s b o h
theorem But.upd {p : Addr} {H : Hp} {o : HO} : But p H (L2.upd H p o) := fun b u q n => by rw [upd_ne n]; exact q
theorem small {n : Nat} (h : n ≤ 1000) : n ≤ sizeLine := Nat.le_of_lt (small1000 h)
end Fg
set_option Elab.async false
set_option linter.all false
set_option maxRecDepth 100000
set_option maxHeartbeats 2000000
namespace Fg
open PySem L2
abbrev s__law_take : Stmt := top 26
abbrev sc__law_takeN : List Str := ["_law_pot", "_law_upto", "_law_digit", "_law_prime", "_law_mixed"]
theorem sc__law_take : FnScope sc__law_takeN ["_law_pot", "_law_upto"] (defScope s__law_take) := ⟨rfl, rfl, rfl, by decide +kernel, rfl, by decide +kernel, by decide +kernel⟩
/-- a pot: what is left of the cell, a number, how many were taken -/
structure Pot (H : Hp) (p : Addr) (n : Nat) : Prop where
  at_ : ∃ o b c : Int, H p = some (.lst [.int o, .int b, .int c]) ∧ 0 ≤ o ∧ 0 ≤ b ∧ b < 2305843009213693952 ∧ 0 ≤ c ∧ c ≤ (n : Int)
theorem Pot.more {H : Hp} {p : Addr} {n m : Nat} (h : Pot H p n) (l : n ≤ m) : Pot H p m := by
  obtain ⟨o, b, c, e, h1, h2, h3, h4, h5⟩ := h
  exact ⟨o, b, c, e, h1, h2, h3, h4, by omega⟩
theorem Pot.same {H H' : Hp} {p : Addr} {n : Nat} (h : Pot H p n) (s : Same H H') : Pot H' p n := by
  obtain ⟨o, b, c, e, r⟩ := h
  exact ⟨o, b, c, s _ _ e, r⟩
def spTake : Sp := fun vs H Q _ => ∃ (p : Addr) (u : Int) (n : Nat), vs = [.ref p, .int u] ∧ Pot H p n ∧ n < 100000 ∧ 0 < u ∧ u < 1000 ∧
  ∀ (d : Int) (H' : Hp), 0 ≤ d → d < u → Pot H' p (n + 1) → But p H H' → Q (.int d) H'
theorem at3_0 (x y z : V) : atI [x, y, z] 0 = some x := rfl
theorem at3_1 (x y z : V) : atI [x, y, z] 1 = some y := rfl
theorem at3_2 (x y z : V) : atI [x, y, z] 2 = some z := rfl
theorem five {i : Int} (h0 : 0 ≤ i) (h1 : i < 5) : ∃ v : Int, atI ([.int 2147483647, .int 2147483629, .int 2147483587, .int 2147483579, .int 2147483563] : List V) i = some (.int v) ∧ 0 < v ∧ v ≤ 2147483647 := by
  have h : i = 0 ∨ i = 1 ∨ i = 2 ∨ i = 3 ∨ i = 4 := by omega
  rcases h with rfl | rfl | rfl | rfl | rfl
  · exact ⟨2147483647, rfl, by decide, by decide⟩
  · exact ⟨2147483629, rfl, by decide, by decide⟩
  · exact ⟨2147483587, rfl, by decide, by decide⟩
  · exact ⟨2147483579, rfl, by decide, by decide⟩
  · exact ⟨2147483563, rfl, by decide, by decide⟩
abbrev s__law_of : Stmt := top 27
abbrev sc__law_ofN : List Str := ["_law_pot", "_law_some"]
theorem sc__law_of : FnScope sc__law_ofN ["_law_pot", "_law_some"] (defScope s__law_of) := ⟨rfl, rfl, rfl, by decide +kernel, rfl, by decide +kernel, by decide +kernel⟩
abbrev s__law_pot_of : Stmt := top 25
abbrev sc__law_pot_ofN : List Str := ["_law_script", "_law_k", "_law_cell", "_law_own"]
theorem sc__law_pot_of : FnScope sc__law_pot_ofN ["_law_script", "_law_k"] (defScope s__law_pot_of) := ⟨rfl, rfl, rfl, by decide +kernel, rfl, by decide +kernel, by decide +kernel⟩
section
variable {P : Program} {w : World} {K : PySem.W.Frag} {mg : Str → Option Value} {base : Heap}
theorem ok_take {f : Addr} {fd : FuncData} (F : Fun K "_law_take" "_law_take" s__law_take f fd) (T : Bare mg) : FnOk P w K mg base CX0 1 f fd ["_law_pot", "_law_upto"] spTake := by
  refine F.ok sc__law_take (fun vs H Q E h => ?_) (fun cdv A outer s H vs Q E hr h => ?_)
  · obtain ⟨p, u, n, rfl, _⟩ := h
    rfl
  obtain ⟨p, u, n, rfl, ⟨o, b, c, hp, o0, b0, b1, c0, c1⟩, hn, u0, u1, q⟩ := h
  refine ⟨_, (pss_cons (ps_if (pt_cmpR op_gt (pe_ix ix_list (pv 0) pe_int (fun _ _ => rfl)) pe_int (nomark _))
(pss_cons (ps_set (i := 2) sc__law_take.nd rfl (Or.inl rfl) (pe_op op_mod (pe_callTy call_int1 (by rfl) T.int (by decide +kernel) (pa_cons (pe_ix ix_list (pv 0) pe_int (fun _ _ => rfl)) pa_nil)) (pv 1)))
(pss_cons (ps_asg (pe_op op_fdiv (pe_ix ix_list (pv 0) pe_int (fun _ _ => rfl)) (pv 1)) (pg_sub (pv 0) pe_int set_list))
(pss_one (ps_ret (pv 2)))))
pss_nil)
(pss_cons (ps_asg (pe_op op_add (pe_ix ix_list (pv 0) pe_int (fun _ _ => rfl)) pe_int) (pg_sub (pv 0) pe_int set_list))
(pss_cons (ps_set (i := 3) sc__law_take.nd rfl (Or.inl rfl) (pe_ix ix_list (pe_lst (pa_cons pe_int (pa_cons pe_int (pa_cons pe_int (pa_cons pe_int (pa_cons pe_int pa_nil)))))) (pe_op op_mod (pe_callTy call_int1 (by rfl) T.int (by decide +kernel) (pa_cons (pe_ix ix_list (pv 0) pe_int (fun _ _ => rfl)) pa_nil)) pe_int) (fun _ _ => rfl)))
(pss_cons (ps_set (i := 4) sc__law_take.nd rfl (Or.inl rfl) (pe_op op_mod (pe_callTy call_int1 (by rfl) T.int (by decide +kernel) (pa_cons (pe_op op_pow (pe_op op_add (pe_op op_add (pe_ix ix_list (pv 0) pe_int (fun _ _ => rfl)) (pe_op op_mul (pe_op op_mul pe_int (pe_ix ix_list (pv 0) pe_int (fun _ _ => rfl))) (pe_ix ix_list (pv 0) pe_int (fun _ _ => rfl)))) pe_int) pe_int) pa_nil)) (pv 3)))
(pss_one (ps_ret (pe_op op_mod (pe_callTy call_int1 (by rfl) T.int (by decide +kernel) (pa_cons (pe_op op_fdiv (pe_op op_mul (pv 4) (pe_op op_add (pe_op op_mod (pe_callTy call_int1 (by rfl) T.int (by decide +kernel) (pa_cons (pv 4) pa_nil)) pe_int) (pe_op op_mul pe_int (pe_ix ix_list (pv 0) pe_int (fun _ _ => rfl))))) pe_int) pa_nil)) (pv 1)))))))), ?_⟩
  have hS : SqL K H p [.int o, .int b, .int c] := .inl (.inl hp)
  -- if pot[0] > 0
  refine ⟨.ref p, rfl, p, _, 0, _, rfl, rfl, hS, rfl, o, 0, rfl, rfl, _, rfl, ?_⟩
  refine ite2 (fun h => ?_) (fun h => ?_)
  · have ho : (0 : Int) < o := of_decide_eq_true h
    -- digit = int(pot[0]) % upto
    refine ⟨.ref p, rfl, p, _, 0, _, rfl, rfl, hS, rfl, .inl ⟨o, rfl, ?_⟩⟩
    refine ⟨.int u, rfl, o, u, rfl, rfl, u0, ?_⟩
    -- pot[0] = pot[0] // upto
    refine ⟨.ref p, rfl, p, _, 0, _, rfl, rfl, hS, rfl, .int u, rfl, o, u, rfl, rfl, ⟨u0, by omega⟩, ?_⟩
    refine ⟨.ref p, rfl, p, _, 0, 0, rfl, rfl, hp, rfl, ?_⟩
    refine ⟨_, rfl, ?_⟩
    refine q (o % u) _ (Int.emod_nonneg _ (by omega)) (Int.emod_lt_of_pos _ u0) ⟨o / u, b, c, upd_same, Int.ediv_nonneg (by omega) (by omega), b0, b1, c0, by omega⟩ But.upd
  · -- pot[2] = pot[2] + 1
    refine ⟨.ref p, rfl, p, _, 2, _, rfl, rfl, hS, rfl, c, 1, rfl, rfl, .ref p, rfl, p, _, 2, 2, rfl, rfl, hp, rfl, ?_⟩
    have hp2 : (upd H p (.lst [.int o, .int b, .int (c + 1)])) p = some (.lst [.int o, .int b, .int (c + 1)]) := upd_same
    have hS2 : SqL K (upd H p (.lst [.int o, .int b, .int (c + 1)])) p [.int o, .int b, .int (c + 1)] := .inl (.inl hp2)
    -- prime = [..][int(pot[2]) % 5]
    refine ⟨small (by show 5 ≤ 1000; decide), fun l hl => ?_⟩
    have npl : p ≠ l := ne_of_none hp2 hl
    have e1 : ∀ o', upd (upd H p (.lst [.int o, .int b, .int (c + 1)])) l o' p = some (.lst [.int o, .int b, .int (c + 1)]) := fun o' => by rw [upd_ne npl]; exact hp2
    obtain ⟨v, hv, v0, v1⟩ := five (i := (c + 1) % 5) (Int.emod_nonneg _ (by decide)) (Int.emod_lt_of_pos _ (by decide))
    refine ⟨.ref p, rfl, p, _, 2, _, rfl, rfl, .inl (.inl (e1 _)), rfl, .inl ⟨c + 1, rfl, ?_⟩⟩
    refine ⟨c + 1, 5, rfl, rfl, (by show (0 : Int) < 5; decide), l, _, _, _, rfl, rfl, .inl (.inl upd_same), hv, ?_⟩
    -- mixed
    have sz : (70001 * (c + 1)) * (c + 1) ≤ 70001 * 100001 * 100001 := by
      have a1 : 0 ≤ c + 1 := by omega
      have a2 : c + 1 ≤ 100001 := by omega
      have a3 : 70001 * (c + 1) ≤ 70001 * 100001 := by omega
      exact Int.mul_le_mul a3 a2 a1 (by decide)
    have sz0 : 0 ≤ (70001 * (c + 1)) * (c + 1) := Int.mul_nonneg (by omega) (by omega)
    refine ⟨.ref p, rfl, p, _, 1, _, rfl, rfl, .inl (.inl (e1 _)), rfl, ?_⟩
    refine ⟨.ref p, rfl, p, _, 2, _, rfl, rfl, .inl (.inl (e1 _)), rfl, 70001, c + 1, rfl, rfl, .inl ⟨by decide, by decide⟩, ?_⟩
    refine ⟨.ref p, rfl, p, _, 2, _, rfl, rfl, .inl (.inl (e1 _)), rfl, 70001 * (c + 1), c + 1, rfl, rfl, .inl ⟨by omega, by omega⟩, ?_⟩
    refine ⟨b, 70001 * (c + 1) * (c + 1), rfl, rfl, b + 70001 * (c + 1) * (c + 1), 53, rfl, rfl, ?_⟩
    refine ⟨b + 70001 * (c + 1) * (c + 1) + 53, 3, rfl, rfl, ⟨by decide, by decide, by omega⟩, .inl ⟨_, rfl, ?_⟩⟩
    refine ⟨.int v, rfl, _, v, rfl, rfl, v0, ?_⟩
    dsimp only
    generalize em : (b + 70001 * (c + 1) * (c + 1) + 53) ^ (3 : Int).toNat % v = m
    have m0 : 0 ≤ m := by rw [← em]; exact Int.emod_nonneg _ (by omega)
    have m1 : m < 2147483647 := by
      have := Int.emod_lt_of_pos ((b + 70001 * (c + 1) * (c + 1) + 53) ^ (3 : Int).toNat) v0
      omega
    -- return
    refine ⟨.int m, rfl, .int m, rfl, .inl ⟨m, rfl, m, 10007, rfl, rfl, (by show (0 : Int) < 10007; decide), ?_⟩⟩
    refine ⟨.ref p, rfl, p, _, 2, _, rfl, rfl, .inl (.inl (e1 _)), rfl, 83, c + 1, rfl, rfl, .inl ⟨by decide, by decide⟩, ?_⟩
    refine ⟨m % 10007, 83 * (c + 1), rfl, rfl, m, m % 10007 + 83 * (c + 1), rfl, rfl, .inl ⟨by omega, by omega⟩, ?_⟩
    refine ⟨_, 101, rfl, rfl, ⟨by decide, by decide⟩, .inl ⟨_, rfl, ?_⟩⟩
    refine ⟨.int u, rfl, _, u, rfl, rfl, u0, ?_⟩
    refine q _ _ (Int.emod_nonneg _ (by omega)) (Int.emod_lt_of_pos _ u0) ⟨o, b, c + 1, e1 _, o0, b0, b1, by omega, by omega⟩ ?_
    exact But.trans But.upd (But.of_same (same_new hl _))
/-! ### _law_of -/
theorem But.seq {p : Addr} {H H' : Hp} {a : Addr} {xs : List V} (e : But p H H') (n : a ≠ p) (h : SqL K H a xs) : SqL K H' a xs := by
  rcases h with (h | ⟨o, h⟩) | h
  · exact .inl (.inl (e _ _ h n))
  · exact .inl (.inr ⟨o, e _ _ h n⟩)
  · exact .inr h
def spOf (K : PySem.W.Frag) : Sp := fun vs H Q _ => ∃ (p l : Addr) (xs : List V) (n : Nat), vs = [.ref p, .ref l] ∧ Pot H p n ∧ n < 100000 ∧ SqL K H l xs ∧ l ≠ p ∧ 0 < xs.length ∧ xs.length < 1000 ∧
  ∀ (i : Nat) (v : V) (H' : Hp), xs[i]? = some v → Pot H' p (n + 1) → But p H H' → Q v H'
theorem ok_of {f : Addr} {fd : FuncData} (F : Fun K "_law_of" "_law_of" s__law_of f fd) (T : Bare mg) (C : Callee P w K mg base 1 "_law_take" ["_law_pot", "_law_upto"] spTake) : FnOk P w K mg base CX0 2 f fd ["_law_pot", "_law_some"] (spOf K) := by
  refine F.ok sc__law_of (fun vs H Q E h => ?_) (fun cdv A outer s H vs Q E hr h => ?_)
  · obtain ⟨p, l, xs, n, rfl, _⟩ := h
    rfl
  obtain ⟨p, l, xs, n, rfl, hp, hn, hS, npl, l0, l1, q⟩ := h
  refine ⟨_, (pss_one (ps_ret (pe_ix ix_list (pv 1) (pe_call C.ok hr rfl C.mg C.kp C.b .nil pass0 (pa_cons (pv 0) (pa_cons (pe_callB call_len_seq (by rfl) T.len PySem.boot_len (pa_cons (pv 1) pa_nil)) pa_nil))) (fun _ _ => rfl)))), ?_⟩
  refine ⟨.ref l, rfl, .ref p, rfl, .ref l, rfl, l, xs, rfl, .inl hS, p, (xs.length : Int), n, rfl, hp, hn, by omega, by omega, fun d H' d0 d1 hp' b => ?_⟩
  have hd : d.toNat < xs.length := by omega
  refine ⟨l, xs, d, xs[d.toNat], rfl, rfl, b.seq npl hS, ?_, ?_⟩
  · exact at_of (j := d.toNat) (by omega) (List.getElem?_eq_getElem hd)
  · exact q d.toNat _ H' (List.getElem?_eq_getElem hd) hp' b
/-! ### _law_pot_of -/
theorem op_powB {X : Cx} : OpR X (binaryOp .Pow) (rI (fun i j => 0 ≤ j ∧ (Builtin.Int.intBits i : Int) * j ≤ 2 ^ 27) fun i j => .int (i ^ j.toNat)) := opI fun _ _ _ _ _ _ _ hc q => PyProof.Rows.pow_int hc.1 hc.2 q
def spPotOf (K : PySem.W.Frag) : Sp := fun vs H Q _ => ∃ (a : Addr) (ns : List Int) (j : Nat), vs = [.ref a, .int (j : Int)] ∧ SqL K H a (ns.map V.int) ∧ j ≤ 100 ∧
  ∀ (p : Addr) (H' : Hp), H p = none → Same H H' → Pot H' p 0 → Q (.ref p) H'
theorem ok_pot_of {f : Addr} {fd : FuncData} (F : Fun K "_law_pot_of" "_law_pot_of" s__law_pot_of f fd) (T : Bare mg) : FnOk P w K mg base CX0 1 f fd ["_law_script", "_law_k"] (spPotOf K) := by
  refine F.ok sc__law_pot_of (fun vs H Q E h => ?_) (fun cdv A outer s H vs Q E hr h => ?_)
  · obtain ⟨a, ns, j, rfl, _⟩ := h
    rfl
  obtain ⟨a, ns, j, rfl, hS, hj, q⟩ := h
  refine ⟨_, (pss_cons (ps_set (i := 2) sc__law_pot_of.nd rfl (Or.inl rfl) (pe_ifExp (pt_cmpR op_lt (pv 1) (pe_callB call_len_seq (by rfl) T.len PySem.boot_len (pa_cons (pv 0) pa_nil)) (nomark _)) (pe_ix ix_list (pv 0) (pv 1) (fun _ _ => rfl)) (pe_op op_add (pe_op op_mul pe_int (pv 1)) pe_int)))
(pss_cons (ps_set (i := 3) sc__law_pot_of.nd rfl (Or.inl rfl) (pe_op op_mul (pe_op op_mod (pe_callTy call_int1 (by rfl) T.int (by decide +kernel) (pa_cons (pe_callB call_abs (by rfl) T.abs (by decide +kernel) (pa_cons (pv 2) pa_nil)) pa_nil)) (pe_op op_powB (pe_op op_pow pe_int pe_int) pe_int)) (pe_callTy call_int1 (by rfl) T.int (by decide +kernel) (pa_cons (pe_cmpR op_ge (pe_callB call_abs (by rfl) T.abs (by decide +kernel) (pa_cons (pv 2) pa_nil)) (pe_op op_pow pe_int pe_int) (nomark _)) pa_nil))))
(pss_one (ps_ret (pe_lst (pa_cons (pv 3) (pa_cons (pe_op op_mod (pe_op op_add (pe_op op_add (pe_op op_mul (pe_op op_mod (pe_callTy call_int1 (by rfl) T.int (by decide +kernel) (pa_cons (pv 2) pa_nil)) pe_int) pe_int) (pe_op op_mul (pe_op op_mul pe_int (pv 1)) (pv 1))) pe_int) pe_int) (pa_cons pe_int pa_nil)))))))), ?_⟩
  have hl : (ns.map V.int).length = ns.length := List.length_map _
  refine ⟨_, rfl, _, rfl, a, _, rfl, .inl hS, _, _, rfl, rfl, _, rfl, ?_⟩
  refine ite2 (fun h => ?_) (fun h => ?_)
  rotate_left
  refine ⟨_, rfl, 47, _, rfl, rfl, .inl ⟨by decide, by decide⟩, _, 17, rfl, rfl, ?_⟩
  dsimp only
  generalize (47 * (j : Int) + 17) = c
  rotate_left
  have hlt : j < ns.length := by
    have := of_decide_eq_true h
    rw [hl] at this
    omega
  refine ⟨_, rfl, _, rfl, a, _, _, _, rfl, rfl, hS, atI_nat (by rw [List.getElem?_map, List.getElem?_eq_getElem hlt] <;> rfl), ?_⟩
  generalize ns[j] = c
  all_goals
    refine ⟨.int c, rfl, c, rfl, .inl ⟨_, rfl, ?_⟩⟩
    refine ⟨10, 60, rfl, rfl, ⟨by decide, by decide, by decide⟩, 10 ^ 60, 5, rfl, rfl, ⟨by decide, by decide +kernel⟩, _, _, rfl, rfl, (by show (0 : Int) < (10 ^ 60) ^ 5; decide +kernel), ?_⟩
    refine ⟨.int c, rfl, c, rfl, 10, 18, rfl, rfl, ⟨by decide, by decide, by decide⟩, _, _, rfl, rfl, .inr ⟨_, rfl, ?_⟩⟩
    generalize ha : (if c < 0 then -c else c) = a0
    have ha0 : 0 ≤ a0 := by rw [← ha]; split <;> omega
    refine ⟨_, _, rfl, rfl, .inr (by split <;> decide), ?_⟩
    have own0 : 0 ≤ a0 % (10 ^ (60 : Int).toNat) ^ (5 : Int).toNat * (if decide ((10 : Int) ^ (18 : Int).toNat ≤ a0) = true then 1 else 0) := by
      refine Int.mul_nonneg (Int.emod_nonneg _ (by decide +kernel)) ?_
      split <;> decide
    -- return
    refine ⟨_, rfl, .int c, rfl, .inl ⟨c, rfl, c, _, rfl, rfl, (by show (0 : Int) < 2305843009213693951; decide), _, _, rfl, rfl, .inr ⟨by decide, by decide⟩, ?_⟩⟩
    refine ⟨.int (j : Int), rfl, 8111, j, rfl, rfl, .inl ⟨by decide, by decide⟩, .int (j : Int), rfl, _, j, rfl, rfl, .inr ⟨by omega, by omega⟩, ?_⟩
    refine ⟨_, _, rfl, rfl, _, 41, rfl, rfl, _, _, rfl, rfl, (by show (0 : Int) < 2305843009213693921; decide), small (by show 3 ≤ 1000; decide), fun p hp => ?_⟩
    refine q p _ hp (same_new hp _) ⟨_, _, 0, upd_same, own0, Int.emod_nonneg _ (by decide), ?_, by decide, by decide⟩
    exact Int.lt_trans (Int.emod_lt_of_pos _ (by decide)) (by decide)
end
end Fg
set_option Elab.async false
set_option linter.all false
set_option maxRecDepth 100000
set_option maxHeartbeats 2000000
namespace Fg
open PySem L2 TL
/-! ### rows of a text: so deep, these words -/
def ind (d : Nat) : Str := ⟨(List.replicate (2 * d) 32).toArray⟩
abbrev blank : Str := " "
abbrev Row := Nat × List Str
def lineOf (r : Row) : Str := ind r.1 ++ Txt.join blank r.2
/-- no blank of any kind within -/
def noSp (x : Str) : Bool := (tl x).all fun c => !Unicode.isSpace c
/-- words as they stand in a line -/
structure GoodWs (ws : List Str) : Prop where
  ne : ws ≠ []
  w : ∀ x ∈ ws, tl x ≠ [] ∧ 32 ∉ tl x
  ok : ∀ x ∈ ws, PyData.strOk x = true
  sp : ∀ x ∈ ws, noSp x = true
theorem tl_ind (d : Nat) : tl (ind d) = List.replicate (2 * d) 32 := rfl
theorem tl_blank : tl blank = [32] := by decide +kernel
theorem tl_line (r : Row) : tl (lineOf r) = List.replicate (2 * r.1) 32 ++ joinL [32] (r.2.map tl) := by
  unfold lineOf
  rw [tl_append, join_eq, tl_join, tl_blank, tl_ind]
theorem joinL_head {ws : List Str} (g : GoodWs ws) : ∃ c r, joinL [32] (ws.map tl) = c :: r ∧ c ≠ 32 := by
  match ws, g with
  | [], g => exact absurd rfl g.ne
  | x :: t, g =>
    obtain ⟨h1, h2⟩ := g.w x List.mem_cons_self
    cases e : tl x with
    | nil => exact absurd e h1
    | cons c r =>
      have hc : c ≠ 32 := fun z => h2 (by rw [e, z]; exact List.mem_cons_self)
      cases t with
      | nil => exact ⟨c, r, by show joinL [32] [tl x] = _; rw [e]; rfl, hc⟩
      | cons y u => exact ⟨c, r ++ ([32] ++ joinL [32] ((y :: u).map tl)), by show tl x ++ ([32] ++ joinL [32] ((y :: u).map tl)) = _; rw [e]; rfl, hc⟩
theorem split_ws {ws : List Str} (g : GoodWs ws) : Txt.split (Txt.join blank ws) blank = ws :=
  split_join tl_blank (by decide +kernel) g.ne fun p hp => (g.w p hp).2
/-- what words_at finds in a line at a depth -/
def wordsOf (z : Str) (d : Nat) : List Str :=
  if Txt.startswith z (ind d) = false then [] else
    let ws := Txt.split (cutS z (some ((ind d).length : Nat)) none) blank
    if ("" : Str) ∈ ws then [] else ws
theorem len_ind (d : Nat) : (ind d).length = 2 * d := by rw [len_tl, tl_ind, List.length_replicate]
theorem starts_iff (x y : Str) : Txt.startswith x y = true ↔ (tl x).take (tl y).length = tl y := by
  unfold Txt.startswith
  rw [Bool.and_eq_true, decide_eq_true_eq, PySem.StrLaws.subAt_eq, ← len_tl y]
  constructor
  · rintro ⟨_, h⟩
    have := eq_of_beq h
    rw [List.drop_zero] at this
    exact this
  · intro h
    refine ⟨?_, ?_⟩
    · have := congrArg List.length h
      rw [List.length_take, ← len_tl y, ← len_tl x] at this
      omega
    · rw [List.drop_zero]
      exact beq_iff_eq.mpr h
theorem tl_cut (z : Str) (k : Nat) : tl (cutS z (some (k : Int)) none) = (tl z).drop k := by
  unfold cutS
  rw [HT.sIx_none, HT.sIx_nat]
  show ((z.cps.toList.drop (min k z.length)).take _) = _
  have hz := len_tl z
  by_cases h : k ≤ z.length
  · rw [Nat.min_eq_left h, List.take_of_length_le (by rw [List.length_drop]; show (tl z).length - k ≤ _; omega)]
  · rw [Nat.min_eq_right (by omega), List.drop_eq_nil_of_le (by show (tl z).length ≤ _; omega), List.drop_eq_nil_of_le (by omega)]
    exact List.take_nil
theorem empty_tl {x : Str} (h : tl x = []) : x = ("" : Str) := ext_tl (by rw [h]; decide +kernel)
theorem words_here {d : Nat} {ws : List Str} (g : GoodWs ws) : wordsOf (lineOf (d, ws)) d = ws := by
  unfold wordsOf
  have hs : Txt.startswith (lineOf (d, ws)) (ind d) = true := by
    rw [starts_iff, tl_line, tl_ind]
    exact List.take_left
  rw [if_neg (by rw [hs]; exact Bool.false_ne_true.symm)]
  have hc : cutS (lineOf (d, ws)) (some ((ind d).length : Nat)) none = Txt.join blank ws := ext_tl (by
    rw [tl_cut, tl_line, len_ind, join_eq, tl_join, tl_blank]
    exact List.drop_left' List.length_replicate)
  dsimp only
  rw [hc, split_ws g]
  rw [if_neg fun hm => (g.w _ hm).1 (by decide +kernel)]
theorem words_deeper {d e : Nat} {ws : List Str} (g : GoodWs ws) (h : d < e) : wordsOf (lineOf (d, ws)) e = [] := by
  unfold wordsOf
  have hs : Txt.startswith (lineOf (d, ws)) (ind e) = false := by
    cases q : Txt.startswith (lineOf (d, ws)) (ind e) with
    | false => rfl
    | true =>
      rw [starts_iff, tl_line, tl_ind, List.length_replicate] at q
      obtain ⟨c, r, ej, hc⟩ := joinL_head g
      have z := congrArg (fun l : List Nat => l[2 * d]?) q
      dsimp only at z
      rw [ej, List.getElem?_take_of_lt (by omega), List.getElem?_append_right (by rw [List.length_replicate]; exact Nat.le_refl _), List.length_replicate, Nat.sub_self, List.getElem?_cons_zero, List.getElem?_replicate, if_pos (by omega)] at z
      exact absurd (Option.some.inj z) hc
  rw [if_pos hs]
theorem words_outer {d e : Nat} {ws : List Str} (g : GoodWs ws) (h : e < d) : wordsOf (lineOf (d, ws)) e = [] := by
  unfold wordsOf
  split
  · rfl
  dsimp only
  rw [if_pos]
  have hx : (Txt.split (cutS (lineOf (d, ws)) (some ((ind e).length : Nat)) none) blank).map tl = spl [32] 0 [] ((List.replicate (2 * d) 32 ++ joinL [32] (ws.map tl)).drop (2 * e)) := by
    rw [split_spl _ _ (by rw [tl_blank]; simp) (kind_ok (by decide +kernel)), tl_cut, tl_line, len_ind, tl_blank]
  have h1 : (List.replicate (2 * d) 32 ++ joinL [32] (ws.map tl)).drop (2 * e) = [] ++ ([32] ++ (List.replicate (2 * d - 2 * e - 1) 32 ++ joinL [32] (ws.map tl))) := by
    rw [List.drop_append_of_le_length (by rw [List.length_replicate]; omega), List.drop_replicate]
    have : 2 * d - 2 * e = (2 * d - 2 * e - 1) + 1 := by omega
    rw [this, List.replicate_succ]
    rfl
  rw [h1, spl_part1 (s := 32) (S := []) (p := []) (by simp)] at hx
  cases hs : Txt.split (cutS (lineOf (d, ws)) (some ((ind e).length : Nat)) none) blank with
  | nil => rw [hs] at hx; cases hx
  | cons y r =>
    rw [hs, List.map_cons] at hx
    have e1 : tl y = [] := (List.cons.inj hx).1
    rw [empty_tl e1]
    exact List.mem_cons_self
/-! ### two blanks, so often -/
theorem op_mulS {X : Cx} : OpR X (binaryOp .Mult) (fun x y H Q => ∃ d : Nat, x = .str "  " ∧ y = .int (d : Int) ∧ d ≤ 5 ∧ Q (.str (ind d)) H) := by
  intro pins s σ H x y v u Q I rx ry h
  obtain ⟨d, rfl, rfl, hd, q⟩ := h
  obtain ⟨t, rfl⟩ := rx
  obtain ⟨t', rfl⟩ := ry
  have hcases : d = 0 ∨ d = 1 ∨ d = 2 ∨ d = 3 ∨ d = 4 ∨ d = 5 := by omega
  rcases hcases with rfl | rfl | rfl | rfl | rfl | rfl
  · refine P.mul_str_none (by decide) (by decide) ⟨.str (ind 0), H, I.tok _, ⟨s.toks, congrArg (fun z => Value.str z s.toks) ?_⟩, q⟩
    decide +kernel
  all_goals
    refine P.mul_str (by decide) (by decide +kernel) (by decide +kernel) ?_
    rw [if_neg (by decide)]
  · rw [if_pos (by decide)]
    exact ⟨.str (ind 1), H, I, ⟨t, congrArg (fun z => Value.str z t) (by decide +kernel)⟩, q⟩
  all_goals
    rw [if_neg (by decide +kernel)]
    refine ⟨by decide +kernel, .str (ind _), H, I.tok _, ⟨s.toks, congrArg (fun z => Value.str z s.toks) ?_⟩, q⟩
    decide +kernel
end Fg
set_option Elab.async false
set_option linter.all false
set_option maxRecDepth 100000
set_option maxHeartbeats 2000000
namespace Fg
open PySem L2 TL
/-! ### the parser between two calls -/
def pf (l : Addr) (n : Int) (sy : Str) (m s t : Addr) (fi : Int) : List (Str × V) :=
  [("lines", .ref l), ("number", .int n), ("symbols", .str sy), ("mosts", .ref m), ("starts", .ref s), ("statements", .ref t), ("first", .int fi)]
section
variable {l m s t : Addr} {n fi : Int} {sy : Str}
theorem pf_lines : (pf l n sy m s t fi).lookup ("lines" : Str) = some (V.ref l) := by kernel_rfl
theorem pf_number : (pf l n sy m s t fi).lookup ("number" : Str) = some (V.int n) := by kernel_rfl
theorem pf_symbols : (pf l n sy m s t fi).lookup ("symbols" : Str) = some (V.str sy) := by kernel_rfl
theorem pf_mosts : (pf l n sy m s t fi).lookup ("mosts" : Str) = some (V.ref m) := by kernel_rfl
theorem pf_starts : (pf l n sy m s t fi).lookup ("starts" : Str) = some (V.ref s) := by kernel_rfl
theorem pf_statements : (pf l n sy m s t fi).lookup ("statements" : Str) = some (V.ref t) := by kernel_rfl
theorem pf_first : (pf l n sy m s t fi).lookup ("first" : Str) = some (V.int fi) := by kernel_rfl
theorem put_number {k : Int} : putF "number" (.int k) (pf l n sy m s t fi) = pf l k sy m s t fi := by kernel_rfl
theorem put_symbols {z : Str} : putF "symbols" (.str z) (pf l n sy m s t fi) = pf l n z m s t fi := by kernel_rfl
theorem put_first {k : Int} : putF "first" (.int k) (pf l n sy m s t fi) = pf l n sy m s t k := by kernel_rfl
theorem pf_words_at : (pf l n sy m s t fi).lookup ("words_at" : Str) = none := by kernel_rfl
end
structure PAt (C : Addr) (H : Hp) (p l m s t : Addr) (n : Int) (sy : Str) (fi : Int) : Prop where
  ob : ∃ dx, H p = some (.ins C dx (pf l n sy m s t fi))
/-- what is known of the class Parser -/
structure PTxt (K : PySem.W.Frag) (C : Addr) : Prop where
  cl : Cls K C
  nLines : NoAttr K C "lines"
  nNumber : NoAttr K C "number"
  nSymbols : NoAttr K C "symbols"
  nMosts : NoAttr K C "mosts"
  nStarts : NoAttr K C "starts"
  nStatements : NoAttr K C "statements"
  nFirst : NoAttr K C "first"
/-- a method that stands ready to be called -/
structure Meter (P : Program) (w : World) (K : PySem.W.Frag) (mg : Str → Option Value) (base : Heap) (C : Addr) (k : Nat) (x : Str) (ps : List Str) (sp : Sp) where
  f : Addr
  fd : FuncData
  ok : FnOk P w K mg base CX0 k f fd ps sp
  m : Meth K C x f
  b : Binds K fd ps []
def wordsAt (lines : List Str) (k d : Nat) : List Str := match lines[k]? with
  | none => []
  | some z => wordsOf z d
/-- the lines of the text, not too many, none too long -/
structure Lines (H : Hp) (l : Addr) (lines : List Str) : Prop where
  at_ : H l = some (.lst (lines.map V.str))
  few : lines.length ≤ 1000
  short : ∀ z ∈ lines, z.length ≤ 10000
abbrev s_Parser_words_at : Stmt := inClass (top 20) 1
abbrev sc_Parser_words_atN : List Str := ["self", "depth", "line", "indentation", "words"]
theorem sc_Parser_words_at : FnScope sc_Parser_words_atN ["self", "depth"] (defScope s_Parser_words_at) := ⟨rfl, rfl, rfl, by decide +kernel, rfl, by decide +kernel, by decide +kernel⟩
def spWords (C : Addr) : Sp := fun vs H Q _ => ∃ (p l m s t : Addr) (k d : Nat) (sy : Str) (fi : Int) (lines : List Str), vs = [.ref p, .int (d : Int)] ∧ PAt C H p l m s t ((k : Int) + 1) sy fi ∧ Lines H l lines ∧ d ≤ 5 ∧
  ∀ (a : Addr) (H' : Hp), Same H H' → H a = none → H' a = some (.lst ((wordsAt lines k d).map V.str)) → Q (.ref a) H'
theorem inV_str (x : Str) (xs : List Str) : inV (.str x) (xs.map V.str) = decide (x ∈ xs) := by
  unfold inV
  rw [List.any_map]
  induction xs with
  | nil => rfl
  | cons y r ih =>
    rw [List.any_cons, ih]
    show ((y == x) || decide (x ∈ r)) = decide (x ∈ y :: r)
    by_cases e : x = y
    · subst e
      simp
    · have e' : (y == x) = false := beq_eq_false_iff_ne.mpr (Ne.symm e)
      rw [e', Bool.false_or]
      simp [e]
theorem flats (xs : List Str) : (xs.map V.str).all flatV = true := by
  induction xs with
  | nil => rfl
  | cons y r ih => exact ih
theorem sizeLine_big {n : Nat} (h : n ≤ 20000) : n ≤ sizeLine := by rw [sizeLine_eq]; omega
section
variable {P : Program} {w : World} {K : PySem.W.Frag} {mg : Str → Option Value} {base : Heap}
theorem ok_words_at {f C : Addr} {fd : FuncData} (F : Fun K "words_at" "Parser.words_at" s_Parser_words_at f fd) (T : Bare mg) (TP : PTxt K C) : FnOk P w K mg base CX0 1 f fd ["self", "depth"] (spWords C) := by
  refine F.ok sc_Parser_words_at (fun vs H Q E h => ?_) (fun cdv A outer st H vs Q E hr h => ?_)
  · obtain ⟨p, l, m, s, t, k, d, sy, fi, lines, rfl, _⟩ := h
    rfl
  obtain ⟨p, l, m, s, t, k, d, sy, fi, lines, rfl, ⟨dx, hp⟩, L, hd, q⟩ := h
  refine ⟨_, (pss_cons (ps_if (pt_cmpR op_gt (pe_fld (pv 0) rfl) (pe_callB call_len_seq (by rfl) T.len PySem.boot_len (pa_cons (pe_fld (pv 0) rfl) pa_nil)) (nomark _))
(pss_one (ps_ret (pe_lst pa_nil)))
pss_nil)
(pss_cons (ps_set (i := 2) sc_Parser_words_at.nd rfl (Or.inl rfl) (pe_ix ix_list (pe_fld (pv 0) rfl) (pe_op op_sub (pe_fld (pv 0) rfl) pe_int) (fun _ _ => rfl)))
(pss_cons (ps_set (i := 3) sc_Parser_words_at.nd rfl (Or.inl rfl) (pe_op op_mulS pe_str (pv 1)))
(pss_cons (ps_if (pt_not (pt_val (pe_m1 PySem.F.slot_str_startswith PySem.F.type_str_startswith mt_startswith (pv 2) (pv 3))))
(pss_one (ps_ret (pe_lst pa_nil)))
pss_nil)
(pss_cons (ps_set (i := 4) sc_Parser_words_at.nd rfl (Or.inl rfl) (pe_split (pe_slice sl_str (pv 2) (po_some (pe_callB call_len_str (by rfl) T.len PySem.boot_len (pa_cons (pv 3) pa_nil))) po_none) pe_str))
(pss_one (ps_ret (pe_ifExp (pt_cmpR op_in_seq pe_str (pv 4) (by rfl)) (pe_lst pa_nil) (pv 4))))))))), ?_⟩
  have hS : SqL K H l (lines.map V.str) := .inl (.inl L.at_)
  have hl : (lines.map V.str).length = lines.length := List.length_map _
  refine ⟨_, rfl, p, C, dx, _, _, rfl, hp, TP.cl, TP.nNumber, pf_number, _, rfl, p, C, dx, _, _, rfl, hp, TP.cl, TP.nLines, pf_lines, l, _, rfl, .inl hS, _, _, rfl, rfl, _, rfl, ?_⟩
  refine ite2 (fun h => ?_) (fun h => ?_)
  · have hk : lines.length ≤ k := by
      have z : ((lines.map V.str).length : Int) < (k : Int) + 1 := of_decide_eq_true h
      rw [hl] at z
      omega
    refine ⟨small (by show 0 ≤ 1000; decide), fun a ha => ?_⟩
    refine q a _ (same_new ha _) ha ?_
    unfold wordsAt
    rw [List.getElem?_eq_none hk]
    exact upd_same
  · have hk : k < lines.length := by
      have z : ¬ ((lines.map V.str).length : Int) < (k : Int) + 1 := fun z => h (decide_eq_true z)
      rw [hl] at z
      omega
    have hz := L.short lines[k] (List.getElem_mem hk)
    refine ⟨_, rfl, p, C, dx, _, _, rfl, hp, TP.cl, TP.nLines, pf_lines, _, rfl, p, C, dx, _, _, rfl, hp, TP.cl, TP.nNumber, pf_number, _, _, rfl, rfl, l, _, _, _, rfl, rfl, hS, at_of (j := k) (by omega) (by rw [List.getElem?_map, List.getElem?_eq_getElem hk] <;> rfl), ?_⟩
    refine ⟨_, rfl, d, rfl, rfl, hd, ?_⟩
    have hli : (ind d).length ≤ sizeLine := sizeLine_big (by rw [len_ind]; omega)
    refine ⟨_, rfl, ⟨_, rfl⟩, _, rfl, _, _, rfl, rfl, _, rfl, ?_⟩
    refine ite2 (fun h2 => ?_) (fun h2 => ?_)
    · have hs : Txt.startswith lines[k] (ind d) = false := by
        have : (!Txt.startswith lines[k] (ind d)) = true := h2
        simpa using this
      refine ⟨small (by show 0 ≤ 1000; decide), fun a ha => ?_⟩
      refine q a _ (same_new ha _) ha ?_
      unfold wordsAt
      rw [List.getElem?_eq_getElem hk]
      show _ = some (HO.lst ((wordsOf lines[k] d).map V.str))
      unfold wordsOf
      rw [if_pos hs]
      exact upd_same
    · have hs : ¬ Txt.startswith lines[k] (ind d) = false := by
        intro z
        exact h2 (by show (!Txt.startswith lines[k] (ind d)) = true; rw [z]; rfl)
      have hc : (cutS lines[k] (some ((ind d).length : Nat)) none).length ≤ 10000 := Nat.le_trans (cutS_length _ _ _) hz
      refine ⟨_, rfl, _, rfl, _, rfl, hli, _, rfl, _, rfl, sizeLine_big (by omega), ⟨_, rfl⟩, _, _, rfl, rfl, by decide +kernel, sizeLine_big (by omega), fun a ha => ?_⟩
      have hSa : SqL K (upd H a (.lst ((Txt.split (cutS lines[k] (some ((ind d).length : Nat)) none) " ").map V.str))) a ((Txt.split (cutS lines[k] (some ((ind d).length : Nat)) none) " ").map V.str) := .inl (.inl upd_same)
      refine ⟨_, rfl, a, _, rfl, .inl hSa, rfl, flats _, _, rfl, ?_⟩
      have e : wordsAt lines k d = (if ("" : Str) ∈ Txt.split (cutS lines[k] (some ((ind d).length : Nat)) none) " " then [] else Txt.split (cutS lines[k] (some ((ind d).length : Nat)) none) " ") := by
        unfold wordsAt
        rw [List.getElem?_eq_getElem hk]
        show wordsOf lines[k] d = _
        unfold wordsOf
        rw [if_neg hs]
      dsimp only
      rw [inV_str]
      refine ite2 (fun h3 => ?_) (fun h3 => ?_)
      · refine ⟨small (by show 0 ≤ 1000; decide), fun b hb => ?_⟩
        have s1 : Same H (upd H a (.lst ((Txt.split (cutS lines[k] (some ((ind d).length : Nat)) none) " ").map V.str))) := same_new ha _
        refine q b _ (s1.trans (same_new hb _)) (s1.free hb) ?_
        rw [e, if_pos (of_decide_eq_true h3)]
        exact upd_same
      · refine ⟨_, rfl, q a _ (same_new ha _) ha ?_⟩
        rw [e, if_neg (fun z => h3 (decide_eq_true z))]
        exact upd_same
end
end Fg
set_option Elab.async false
set_option linter.all false
set_option maxRecDepth 100000
set_option maxHeartbeats 4000000
/-! sorted(set(xs)), xs a list of ints or of texts -/
namespace Fg
open PySem PySem.Spec PyProof.Rows L2
/-- a kind of members: what a member is as a value -/
structure Kd (P : Program) (w : World) (κ : Type) [DecidableEq κ] where
  knd : PySem.KeyKind P w κ
  val : κ → Tok → Value
  is_val : ∀ (k j : κ) (t : Tok), knd.is k (val j t) = true ↔ j = k
  sc : ∀ (k : κ) (t : Tok), (val k t).scannable = true
  vv : κ → V
  rel : ∀ (k : κ) (t : Tok), RelV (vv k) (val k t)
  get : ∀ (k : κ) (u : Value), RelV (vv k) u → ∃ t, u = val k t
def kdInt (P : Program) (w : World) : Kd P w Int where
  knd := PySem.intKind P w
  val := fun k t => .int k t
  is_val := fun k j t => by
    show ((j == k) = true) ↔ j = k
    exact beq_iff_eq
  sc := fun _ _ => rfl
  vv := V.int
  rel := fun _ t => ⟨t, rfl⟩
  get := fun _ _ r => r
def kdStr (P : Program) (w : World) : Kd P w Str where
  knd := PySem.strKind P w
  val := fun k t => .str k t
  is_val := fun k j t => by
    show ((j == k) = true) ↔ j = k
    exact beq_iff_eq
  sc := fun _ _ => rfl
  vv := V.str
  rel := fun _ t => ⟨t, rfl⟩
  get := fun _ _ r => r
theorem perm_of_map {α β : Type} (f : α → β) : ∀ {l m : List β}, l.Perm m → ∀ a : List α, m = a.map f → ∃ b : List α, l = b.map f ∧ b.Perm a := by
  intro l m p
  induction p with
  | nil => exact fun a e => ⟨[], rfl, by rw [List.map_eq_nil_iff.mp e.symm]⟩
  | cons x p ih =>
    intro a e
    cases a with
    | nil => cases e
    | cons y r =>
      rw [List.map_cons] at e
      obtain ⟨e1, e2⟩ := List.cons.inj e
      obtain ⟨b, h1, h2⟩ := ih r e2
      exact ⟨y :: b, by rw [List.map_cons, h1, e1], h2.cons y⟩
  | swap x y l =>
    intro a e
    match a, e with
    | [], e => cases e
    | [_], e => simp at e
    | u :: v :: r, e =>
      rw [List.map_cons, List.map_cons] at e
      obtain ⟨e1, e2⟩ := List.cons.inj e
      obtain ⟨e3, e4⟩ := List.cons.inj e2
      exact ⟨v :: u :: r, by rw [List.map_cons, List.map_cons, ← e1, ← e3, ← e4], List.Perm.swap u v r⟩
  | trans p q ih1 ih2 =>
    intro a e
    obtain ⟨b, h1, h2⟩ := ih2 a e
    obtain ⟨c, h3, h4⟩ := ih1 b h1
    exact ⟨c, h3, h4.trans h2⟩
section
variable {P : Program} {w : World} {κ : Type} [DecidableEq κ]
/-- a member in the table -/
def Kd.ent (D : Kd P w κ) (p : κ × Tok) : Int × Value := (D.knd.hash p.1, D.val p.1 p.2)
/-- the set at a holds kt, no member twice; its table can be walked -/
structure SetG (D : Kd P w κ) (h : Heap) (a : Addr) (kt : List (κ × Tok)) : Prop where
  ex : ∃ o es ep t, h.get? a = some o ∧ o.ExactSet ∧ o.data = .set es ep t ∧ es.toList = kt.map D.ent ∧ t.fits es.size = true ∧ Ris t.place.toList ∧ (w.params.followText "set-order" = true ∨ t.led = true)
  nd : (kt.map (·.1)).Nodup
  few : kt.length < scanBound
variable {D : Kd P w κ} {h h' : Heap} {a : Addr} {kt : List (κ × Tok)}
theorem SetG.moved (R : SetG D h a kt) (k : ∀ o, h.get? a = some o → h'.get? a = some o) : SetG D h' a kt := by
  obtain ⟨⟨o, es, ep, t, ho, r⟩, n, f⟩ := R
  exact ⟨⟨o, es, ep, t, k o ho, r⟩, n, f⟩
theorem ents_ok (l : List (κ × Tok)) : ElemsOf D.knd (l.map D.ent) := fun e he => by
  obtain ⟨p, _, rfl⟩ := List.mem_map.mp he
  exact ⟨⟨p.1, (D.is_val _ _ _).mpr rfl, rfl⟩, D.sc _ _⟩
theorem ents_mem {k : κ} (l : List (κ × Tok)) : (∃ e ∈ l.map D.ent, D.knd.is k e.2 = true) ↔ k ∈ l.map (·.1) := by
  constructor
  · rintro ⟨e, he, q⟩
    obtain ⟨p, hp, rfl⟩ := List.mem_map.mp he
    exact List.mem_map.mpr ⟨p, hp, (D.is_val _ _ _).mp q⟩
  · intro m
    obtain ⟨p, hp, e⟩ := List.mem_map.mp m
    exact ⟨D.ent p, List.mem_map.mpr ⟨p, hp, rfl⟩, (D.is_val _ _ _).mpr e⟩
variable {A : Around} {E : Value → Shared → Prop} {s : Shared}
theorem put_at {h : Heap} {a : Addr} {o : Obj} {es es' : Array (Int × Value)} {ep : Nat} {t t' : SetTable} (ho : h.get? a = some o) (hd : o.data = .set es ep t) :
    (h.update a (Obj.putSet es' t')).get? a = some { o with data := .set es' (ep + 1) t' } := store_at ho hd
theorem size_of {es : Array (Int × Value)} {l : List (κ × Tok)} (e : es.toList = l.map D.ent) : es.size = l.length := by
  rw [← Array.length_toList, e, List.length_map]
theorem addG_tail {g : Bool → Sem Unit} (hg : ∀ (b : Bool) (u : Shared) (Z : Unit → Shared → Prop), Z () u → wpAny (model P w) A (g b) Z E u)
    {o : Obj} {es : Array (Int × Value)} {ep : Nat} {t : SetTable} (ho : s.heap.get? a = some o) (hex : o.ExactSet) (hd : o.data = .set es ep t)
    {e1 : Array (Int × Value)} {t2 : SetTable} {k1 : List (κ × Tok)} (he1 : e1.toList = k1.map D.ent) (nd1 : (k1.map (·.1)).Nodup) (hb1 : k1.length < scanBound)
    (hf2 : t2.fits e1.size = true) (hr : Ris t2.place.toList) (hl : w.params.followText "set-order" = true ∨ t2.led = true) {dm : Bool} {R : Option Bool → Shared → Prop}
    (hR : ∀ h2 k2, Heap.SameBut a s.heap h2 → k2.Perm k1 → SetG D h2 a k2 → R (some true) { s with heap := h2 }) :
    wpAny (model P w) A (do
        storeSet a e1 t2
        if (!dm && t2.tooFull) = true then do
            g (relayAll t2 e1 (SetTable.grown e1.size)).2.2
            storeSet a (relayAll t2 e1 (SetTable.grown e1.size)).1 (relayAll t2 e1 (SetTable.grown e1.size)).2.1
            pure (some true)
          else pure (some true)) R E s := by
  have z1 : e1.size < scanBound := by rw [size_of he1]; exact hb1
  refine wpAny_bind (wpAny_storeSet_of ho hd ?_ (fits_of_scanBound z1))
  have p1 := put_at (es' := e1) (t' := t2) ho hd
  have b1 := Heap.SameBut.update s.heap a (Obj.putSet e1 t2)
  split
  · have m1 := relayAll_perm t2 e1 (SetTable.grown e1.size)
    have m2 := relayAll_fits t2 e1 (SetTable.grown e1.size)
    have m3 := relayAll_ris t2 e1 (SetTable.grown e1.size)
    have m4 := relayAll_led t2 e1 (SetTable.grown e1.size)
    generalize relayAll t2 e1 (SetTable.grown e1.size) = Y at m1 m2 m3 m4 ⊢
    obtain ⟨e2, t3, gv⟩ := Y
    dsimp only at m1 m2 m3 m4 ⊢
    obtain ⟨k2, hk2, hp2⟩ := perm_of_map D.ent m1 k1 he1
    have z2 : e2.size < scanBound := by rw [size_of hk2, hp2.length_eq]; exact hb1
    refine wpAny_bind (hg _ _ _ (wpAny_bind (wpAny_storeSet_of p1 rfl ?_ (fits_of_scanBound z2))))
    refine wpAny_pure (hR _ k2 (b1.trans (Heap.SameBut.update _ a _)) hp2 ⟨⟨_, e2, _, t3, put_at (es' := e2) (t' := t3) p1 rfl, hex, rfl, hk2, m2, m3, ?_⟩, ?_, ?_⟩)
    · rcases hl with q | q
      · exact .inl q
      · exact .inr (by rw [m4]; exact q)
    · exact (hp2.map _).nodup_iff.mpr nd1
    · rw [hp2.length_eq]; exact hb1
  · exact wpAny_pure (hR _ k1 b1 (List.Perm.refl _) ⟨⟨_, e1, _, t2, p1, hex, rfl, he1, hf2, hr, hl⟩, nd1, hb1⟩)
theorem addG {k : κ} {tk : Tok} {Q : Bool → Shared → Prop} (R : SetG D s.heap a kt) (room : kt.length + 1 < scanBound)
    (hQ : ∀ b h2 k2, Heap.SameBut a s.heap h2 → SetG D h2 a k2 → (∀ j, j ∈ k2.map (·.1) ↔ j ∈ kt.map (·.1) ∨ j = k) → k2.length ≤ kt.length + 1 → Q b { s with heap := h2 }) :
    wpAny (model P w) A (setAddHashed a (D.val k tk) (D.knd.hash k)) Q E s := by
  obtain ⟨⟨o, es, ep, t, ho, hex, hd, hes, hf, hr, hl⟩, nd, few⟩ := id R
  have hkey : D.knd.is k (D.val k tk) = true := (D.is_val _ _ _).mpr rfl
  have hsc := D.sc k tk
  have hb : es.size < scanBound := by rw [size_of hes]; exact few
  have hel : ElemsOf D.knd es.toList := by rw [hes]; exact ents_ok kt
  unfold setAddHashed setAddHashedIn
  refine wpAny_holding (wpAny_bind (wpAny_setState_of ho hd hf ?_))
  dsimp only
  rw [byScan_of hsc hb hel, if_pos rfl]
  unfold setAddByScan
  refine wpAny_bind (wpAny_bind (wpAny_rule (wpAny_bind (wpAny_setScan_of hkey ho hd hf hel ?_))))
  cases hfi : List.findIdx? (fun e => D.knd.is k e.2) es.toList with
  | some j =>
    dsimp only
    obtain ⟨hj, pj, _⟩ := List.findIdx?_eq_some_iff_getElem.mp hfi
    have hmem : k ∈ kt.map (·.1) := (ents_mem (D := D) kt).mp ⟨es.toList[j], by rw [← hes]; exact List.getElem_mem hj, pj⟩
    refine wpAny_pure (wpAny_pure (hQ _ s.heap kt (Heap.SameBut.refl a s.heap) R (fun i => ⟨.inl, fun z => z.elim id fun e => e ▸ hmem⟩) (Nat.le_succ _)))
  | none =>
    dsimp only
    have hnk : k ∉ kt.map (·.1) := fun z => by
      obtain ⟨e, he, q⟩ := (ents_mem (D := D) kt).mpr z
      have c := List.findIdx?_eq_none_iff.mp hfi e (by rw [hes]; exact he)
      rw [q] at c
      cases c
    have hgw : ∀ (b : Bool) {u : Shared} {Z : Unit → Shared → Prop}, Z () u → wpAny (model P w) A (match b with | true => rule "set.scan.the-table-gave-way" | false => pure ()) Z E u :=
      fun b u Z q => by
        cases b
        · exact wpAny_pure q
        · exact wpAny_rule q
    have m1 := layNew_perm t es (D.knd.hash k) (D.val k tk)
    have m2 := layNew_fits t es (D.knd.hash k) (D.val k tk)
    have m3 := layNew_ris t es (D.knd.hash k) (D.val k tk) hr
    have m4 := layNew_led t es (D.knd.hash k) (D.val k tk)
    generalize layNew t es (D.knd.hash k) (D.val k tk) = Y at m1 m2 m3 m4 ⊢
    obtain ⟨e1, t1, dm, gv⟩ := Y
    dsimp only at m1 m2 m3 m4 ⊢
    rw [Array.toList_push, hes] at m1
    obtain ⟨k1, hk1, hp1⟩ := perm_of_map D.ent m1 (kt ++ [(k, tk)]) (by rw [List.map_append]; rfl)
    have pk : ∀ j, j ∈ k1.map (·.1) ↔ j ∈ kt.map (·.1) ∨ j = k := fun j => by
      rw [(hp1.map _).mem_iff, List.map_append, List.mem_append]
      simp
    have nd1 : (k1.map (·.1)).Nodup := by
      refine (hp1.map _).nodup_iff.mpr ?_
      rw [List.map_append]
      refine List.nodup_append.mpr ⟨nd, by simp, fun x hx y hy e => ?_⟩
      have hy2 : y = k := by simpa using hy
      exact hnk (by rw [← hy2, ← e]; exact hx)
    have ln1 : k1.length = kt.length + 1 := by rw [hp1.length_eq, List.length_append]; rfl
    have hled : w.params.followText "set-order" = true ∨ t1.led = true := hl.elim .inl fun z => .inr (by rw [m4]; exact z)
    have fin : ∀ h2 k2, Heap.SameBut a s.heap h2 → k2.Perm k1 → SetG D h2 a k2 → ∀ b, Q b { s with heap := h2 } := fun h2 k2 sb p r b =>
      hQ b h2 k2 sb r (fun j => by rw [(p.map _).mem_iff, pk]) (by rw [p.length_eq, ln1]; exact Nat.le_refl _)
    refine wpAny_bind (hgw _ ?_)
    split
    · refine wpAny_bind ?_
      rw [hashByValue_scannable 8 hsc]
      refine wpAny_pure ?_
      refine addG_tail ?_ ho hex hd hk1 nd1 (by rw [ln1]; exact room) ?_ ?_ ?_ fun h2 k2 sb p r => wpAny_pure (fin h2 k2 sb p r _)
      · exact fun b u Z q => hgw b q
      · first | (split <;> first | exact m2 | exact SetTable.fits_plain_off m2) | exact m2
      · first | (split <;> exact m3) | exact m3
      · first | (split <;> exact hled) | exact hled
    · refine wpAny_bind (wpAny_pure ?_)
      rw [if_pos rfl]
      exact addG_tail (fun b u Z q => hgw b q) ho hex hd hk1 nd1 (by rw [ln1]; exact room) m2 m3 hled fun h2 k2 sb p r => wpAny_pure (fin h2 k2 sb p r _)

/-! ### all members of a walk put in -/
theorem loopG {I : Addr} {fp wr : List Addr} {G : Array GenState → Array GenState → Prop} {n : Nat} {Pv : Nat → Value → Prop} {St : Nat → Shared → Prop} {R : Result → Shared → Prop}
    (W : WalksS P w A.in1 I fp wr G n Pv St) (S : Addr) (hS : S ∉ fp) (ks : List κ) (hn : n = ks.length) (hb : ks.length + 1 < scanBound) (hval : ∀ i v, Pv i v → ∃ k t, ks[i]? = some k ∧ v = D.val k t) :
    ∀ (r i : Nat) (u : Shared), n - i = r → i ≤ n → St i u → (∃ kt, SetG D u.heap S kt ∧ kt.length ≤ i ∧ ∀ j, j ∈ kt.map (·.1) ↔ j ∈ ks.take i) →
      (∀ u' kt, Moved (S :: wr) G u u' → SetG D u'.heap S kt → kt.length ≤ n → (∀ j, j ∈ kt.map (·.1) ↔ j ∈ ks) → R (.ok (.ret .none)) u') →
      codeAny (model P w) A (.builtin "set.update.loop" ⟨[.ref S, .ref I], []⟩) R u := by
  have hSw : S ∉ wr := fun z => hS (W.sub _ z)
  have hsub : ∀ b ∈ wr, b ∈ S :: wr := fun b z => List.mem_cons_of_mem _ z
  intro r
  induction r with
  | zero =>
    intro i u hr hi hst ⟨kt, g, hc, hm⟩ hR
    have hin : i = n := by omega
    subst hin
    refine codeAny_builtin F.entry_set_update_loop ?_
    rw [Around.under_plainId F.plain_set_update_loop _]
    refine wpAny_bind (m := pyNext (.ref I)) (W.done u _ _ hst fun u' mv => wpAny_pure (hR u' kt (mv.mono hsub) (g.moved fun o e => mv.heap S o hSw e) hc fun j => ?_))
    rw [hm j, List.take_of_length_le (Nat.le_of_eq hn.symm)]
  | succ r ih =>
    intro i u hr hi hst ⟨kt, g, hc, hm⟩ hR
    have hlt : i < n := by omega
    refine codeAny_builtin F.entry_set_update_loop ?_
    rw [Around.under_plainId F.plain_set_update_loop _]
    refine wpAny_bind (m := pyNext (.ref I)) (W.item i u _ _ hlt hst fun v u' hP hst' mv => ?_)
    obtain ⟨k, t, hk, rfl⟩ := hval i v hP
    have g' := g.moved fun o e => mv.heap S o hSw e
    refine wpAny_bind (m := holding [D.val k t] (setAdd S (D.val k t))) (wpAny_holding ?_)
    unfold setAdd
    refine wpAny_holding (wpAny_bind (D.knd.pyHash (k := k) ((D.is_val _ _ _).mpr rfl) ?_))
    refine addG (s := { u' with toks := u'.toks + 1 }) g' (by omega) fun b h2 k2 sb g2 m2 l2 => ?_
    have hm2 : ∀ j, j ∈ k2.map (·.1) ↔ j ∈ ks.take (i + 1) := fun j => by
      rw [m2 j, hm j, List.take_add_one, hk, List.mem_append]
      simp
    refine wpAny_pure ⟨plainId_quiet F.plain_set_update_loop _, ih (i + 1) _ (by omega) hlt (W.frame _ u' _ _ hst' (Nat.le_succ _) fun b hb o e => ?_) ⟨k2, g2, by omega, hm2⟩ fun u'' k3 mv2 g3 c3 m3 => ?_⟩
    · rw [sb.2 b (fun z : b = S => hS (by rw [← z]; exact hb))]; exact e
    · refine hR u'' k3 (Moved.trans W.gtrans ((mv.mono hsub).then_heap (Nat.le_succ _) fun b o hb e => ?_) mv2) g3 c3 m3
      rw [sb.2 b (fun z : b = S => hb (by rw [z]; exact List.mem_cons_self))]; exact e
/-- the empty set, just made -/
theorem freshG {h : Heap} {a : Addr} (ho : h.get? a = some { cls := .type "set", dict := none, data := .set #[] 0 (.fresh 0 0 (!w.params.followText "set-order")) }) : SetG D h a [] :=
  ⟨⟨_, #[], 0, _, ho, ⟨rfl, rfl, rfl⟩, rfl, rfl, (by rfl), List.Pairwise.nil, by
    show _ ∨ (!w.params.followText "set-order") = true
    cases w.params.followText "set-order"
    · exact .inr rfl
    · exact .inl rfl⟩, List.nodup_nil, (by show 0 < scanBound; decide)⟩
end
abbrev newSet (w : World) : Obj := { cls := .type "set", dict := none, data := .set #[] 0 (.fresh 0 0 (!w.params.followText "set-order")) }
section
variable {P : Program} {w : World} {κ : Type} [DecidableEq κ] {D : Kd P w κ} {A : Around} {E : Value → Shared → Prop} {s : Shared}
set_option maxHeartbeats 6400000 in
/-- set(xs), xs a list -/
theorem call_setG {l : Addr} {items : Array Value} (ks : List κ) {Q : Value → Shared → Prop} (hh : A.handled = none) (hl : s.heap.IsList l items) (hsz : items.size = ks.length)
    (hval : ∀ (i : Nat) (v : Value), items[i]? = some v → ∃ k t, ks[i]? = some k ∧ v = D.val k t) (hb : ks.length + 1 < scanBound)
    (h : ∀ (h' : Heap) (tk : Nat) (kt : List (κ × Tok)), SetG D h' s.heap.objs.size kt → kt.length ≤ ks.length → (∀ j, j ∈ kt.map (·.1) ↔ j ∈ ks) → (∀ b o, s.heap.get? b = some o → h'.get? b = some o) → Q (.ref s.heap.objs.size) { s with heap := h', toks := tk }) :
    wpAny (model P w) A (call (.type "set") [.ref l]) Q E s := by
  obtain ⟨c, tl, hmro⟩ := F.called_set.mro
  have k1 := F.called_set.made
  have k2 := F.called_set.sub
  refine wpAny_call (codeAny_of_tree (show wpAny _ _ (callAny (Value.type "set") _) _ _ _ from wpAny_pure ⟨Code.quiet_builtin _ (by decide +kernel), codeAny_builtin F.entry_type_call ?_⟩))
  rw [Around.under_plain (weight_type_call_type "set" [.ref l] []) rfl]
  have k3 := F.called_set.notType
  have k4 := F.called_set.canCreate
  have k5 := F.typeCall_set_1 (.ref l)
  repeat (any_goals (first | assumption | wp_step))
  refine codeAny_mono (code_set_led1 (.ref l) (E := E) (Q₁ := fun ob u => ob = .ref s.heap.objs.size ∧ u = { s with heap := s.heap.push (newSet w) }) ⟨rfl, rfl⟩) fun r u hr => ?_
  cases r with
  | error e => exact hr
  | ok fl =>
    cases fl with
    | ret ob =>
      obtain ⟨rfl, rfl⟩ := hr
      have n1 : (s.heap.push (newSet w)).get? s.heap.objs.size = some (newSet w) := Heap.get?_push_size _ rfl
      have n2 : Shared.TypeIs { s with heap := s.heap.push (newSet w) } (.ref s.heap.objs.size) "set" := ⟨_, n1, rfl⟩
      have n3 := F.called_set.init.lookup
      have n4 := F.called_set.init.bind (.ref s.heap.objs.size)
      repeat (any_goals (first | assumption | wp_step))
      refine codeAny_mono (codeAny_call_builtin (R := wants (fun r v => r = .none ∧ ∃ h' tk kt, v = { s with heap := h', toks := tk } ∧ SetG D h' s.heap.objs.size kt ∧ kt.length ≤ ks.length ∧ (∀ j, j ∈ kt.map (·.1) ↔ j ∈ ks) ∧
          (∀ b o, s.heap.get? b = some o → h'.get? b = some o)) E) F.called_set.init.plain F.entry_set_init (check_set_init_1 n2 ?_)) fun r₂ v hv => ?_
      · obtain ⟨ol, hol, hcl, nl, hdl⟩ := hl
        obtain ⟨oc, od, oda, osl⟩ := ol
        dsimp only at hcl hdl
        subst hcl
        subst hdl
        have hlS : l < s.heap.objs.size := Heap.lt_size hol
        have q1 : (s.heap.push (newSet w)).get? l = some { cls := .type "list", dict := od, data := .seq items nl, slots := osl } := Heap.get?_push_of_some _ hol
        have q2 : (s.heap.push (newSet w)).IsList l items := ⟨_, q1, rfl, nl, rfl⟩
        have q3 := F.sub_list_set
        have q4 := F.sub_list_frozenset
        have q5 : (Value.type "list" == Value.type "dict") = false := by decide
        unfold Builtin.«set.__init__» noKeywords Builtin.Frozenset.updateFrom
        generalize hPI : pyIter = PI
        wp_walk
        subst hPI
        have hz : (s.heap.push (newSet w)).objs.size = s.heap.objs.size + 1 := Heap.size_push ..
        have hne : l ≠ (s.heap.push (newSet w)).objs.size := by rw [hz]; exact Nat.ne_of_lt (Nat.lt_succ_of_lt hlS)
        have hfp : s.heap.objs.size ∉ [(s.heap.push (newSet w)).objs.size, l] := by
          rw [hz]
          intro z
          rcases List.mem_cons.mp z with z | z
          · exact Nat.ne_of_lt (Nat.lt_succ_self _) z
          · exact Nat.ne_of_gt hlS (List.mem_singleton.mp z)
        refine wpAny_pyIter_list q2 (wpAny_bind (wpAny_runValue ?_))
        refine loopG (D := D) ((Walks.list (by simp [hh]) _ l hne items).toS) s.heap.objs.size hfp ks hsz hb hval items.size 0 _ (by omega) (Nat.zero_le _) ⟨⟨_, Heap.get?_push_size _ rfl, rfl, rfl⟩, q2.push _⟩ ⟨[], freshG (Heap.get?_push_of_some _ n1), Nat.zero_le _, fun j => by simp⟩ fun u kt mv g c m => ?_
        obtain ⟨h', g2, d', tk', os'⟩ := u
        have eg : g2 = s.gens := mv.gens
        have ed : d' = s.drawn := mv.drawn
        have eo : os' = s.os := mv.os
        subst eg
        subst ed
        subst eo
        show wpAny _ _ _ _ _ _
        refine wpAny_pure (show wpAny _ _ (ret Value.none) _ _ _ from wpAny_pure ⟨rfl, h', tk', kt, rfl, g, by rw [← hsz]; exact c, m, fun b o e => ?_⟩)
        have hb0 : b < s.heap.objs.size := Heap.lt_size e
        refine mv.heap b o (fun z => ?_) (Heap.get?_push_of_some _ (Heap.get?_push_of_some _ e))
        rcases List.mem_cons.mp z with z | z
        · exact Nat.ne_of_lt hb0 z
        · have z2 := List.mem_singleton.mp z
          rw [hz] at z2
          exact Nat.ne_of_lt (Nat.lt_succ_of_lt hb0) z2
      · cases r₂ with
        | error e => exact hv
        | ok f2 =>
          cases f2 with
          | ret r =>
            obtain ⟨rfl, h', tk, kt, rfl, g, c, m, hk⟩ := hv
            repeat (any_goals (first | assumption | wp_step))
            exact h _ _ _ g c m hk
          | _ => exact hv.elim
    | _ => exact hr.elim
/-- how a new list of members is sorted in its place -/
def SortsBy (D : Kd P w κ) (ord : List κ → Prop) : Prop := ∀ {A : Around} {E : Value → Shared → Prop} {u : Shared} {l : Addr} {vs : List Value} {ks : List κ} {Q : Value → Shared → Prop},
  u.heap.get? l = some (seqObj "list" vs.toArray 0) → Vals (ks.map D.vv) vs → vs.length < 64 →
  (∀ (out : Array Value) (ys : List κ), Vals (ys.map D.vv) out.toList → ys.Perm ks → ord ys → Q .none { u with heap := sortedHeap u.heap l vs out }) →
  wpAny (model P w) A (call (.builtin "list.sort") [.ref l]) Q E u
theorem vals_ents (l : List (κ × Tok)) : Vals ((l.map (·.1)).map D.vv) (l.map fun p => D.val p.1 p.2) := by
  induction l with
  | nil => exact .nil
  | cons p r ih => exact .cons (D.rel _ _) ih
theorem perm_fst {l m : List (κ × Tok)} (p : l.Perm m) : (l.map (·.1)).Perm (m.map (·.1)) := p.map _
/-- sorted(a set) -/
theorem call_sortedG {a : Addr} {kt : List (κ × Tok)} {ord : List κ → Prop} {Q : Value → Shared → Prop} (srt : SortsBy D ord) (g : SetG D s.heap a kt) (hh : A.handled = none) (h64 : kt.length < 64)
    (hQ : ∀ s' p (out : Array Value) (c : Nat) (ys : List κ), (∀ b o, s.heap.get? b = some o → s'.heap.get? b = some o) → s'.gens = s.gens → s'.os = s.os → s.heap.objs.size ≤ p →
      s'.heap.get? p = some (seqObj "list" out c) → Vals (ys.map D.vv) out.toList → ys.Perm (kt.map (·.1)) → ord ys → Q (.ref p) s') :
    wpAny (model P w) A (call (.builtin "sorted") [.ref a]) Q E s := by
  obtain ⟨⟨o, es, ep, t, ho, hex, hd, hes, hf, hr, hl⟩, nd, few⟩ := g
  have hb : es.size < scanBound := by rw [size_of hes]; exact few
  refine Calls.call_function_entry kind_sorted plain_sorted entry_sorted (args_sorted1 _) ?_
  unfold Builtin.«sorted»
  refine wpAny_bind (m := checkCount "sorted" 1 1 _) (wpAny_pure (wpAny_bind (collect_set (A := A.in1) hh ⟨o, ho, hex.1, hd⟩ hf hb hr hl fun s1 vs k1 hz g1 o1 pm => ?_)))
  have pm2 : vs.Perm (kt.map fun p => D.val p.1 p.2) := by
    rw [hes, List.map_map] at pm
    exact pm
  obtain ⟨kv, e1, p1⟩ := perm_of_map _ pm2 kt rfl
  have hvl : vs.length = kt.length := by rw [pm2.length_eq, List.length_map]
  have hv : Vals ((kv.map (·.1)).map D.vv) vs := by rw [e1]; exact vals_ents kv
  refine wpAny_bind (wpAny_newList ?_ (by rw [hvl, sizeLine_eq]; omega))
  have n1 : (s1.heap.push (seqObj "list" vs.toArray 0)).get? s1.heap.objs.size = some (seqObj "list" vs.toArray 0) := Heap.get?_push_size _ rfl
  refine wpAny_bind (wpAny_holding (srt n1 hv (by rw [hvl]; exact h64) fun out ys a1 a2 a3 => ?_))
  obtain ⟨c, hc⟩ := sortedHeap_at (vs := vs) (out := out) n1
  refine wpAny_pure ⟨_, rfl, hQ _ s1.heap.objs.size out c ys (fun b u e => ?_) g1 o1 hz hc a1 (a2.trans (perm_fst p1)) a3⟩
  have q := k1 b u e
  have hlt := Heap.lt_size q
  refine Eq.trans (sortedHeap_old (Nat.ne_of_lt hlt) (by rw [size_push']; exact Nat.lt_succ_of_lt hlt)) (Heap.get?_push_of_some _ q)
theorem sorts_int : SortsBy (kdInt P w) (fun ns => ns.Pairwise (· ≤ ·)) := by
  intro A E u l vs ks Q ho hv h64 h
  have hi : IntsAre vs ks := hv.ints
  exact wpAny_call_entry slot_list_sort ⟨_, ho, rfl⟩ entry_list_sort (list_sort_tree ho hi h64 fun out ns' a1 a2 a3 => ⟨_, rfl, h out ns' (vals_of_ints a1) a2 a3⟩) (args_list_sort _)
theorem sorts_str : SortsBy (kdStr P w) (fun zs => sortedS zs = true) := by
  intro A E u l vs ks Q ho hv h64 h
  have hS : StrsAre vs ks := hv.strs
  refine wpAny_call_entry slot_list_sort ⟨_, ho, rfl⟩ entry_list_sort (list_sort_treeK strKind_oneLt ho hS.keysOf (fun a b r e => keyKind_strs (by rw [← e]; exact hS)) h64 fun st hp hs => ?_) (args_list_sort _)
  obtain ⟨ys, g1, g2, g3⟩ := sorted_out_str hS hp hs
  exact ⟨_, rfl, h _ ys (vals_of_strs g1) g2 g3⟩
end
/-! ### over the layer -/
def SetO2 {P : Program} {w : World} {κ : Type} [DecidableEq κ] (D : Kd P w κ) (a : Addr) (kt : List (κ × Tok)) : HO := .ext fun h => SetG D h a kt
section
variable {X : Cx} {κ : Type} [DecidableEq κ]
def rSetOf (K : PySem.W.Frag) {P : Program} {w : World} (D : Kd P w κ) : List V → Hp → VK → Prop := fun xs H Q => ∃ (l : Addr) (ks : List κ), xs = [.ref l] ∧ SqL K H l (ks.map D.vv) ∧ ks.length ≤ 1000 ∧
  ∀ (p : Addr) (kt : List (κ × Tok)), kt.length ≤ ks.length → (∀ j, j ∈ kt.map (·.1) ↔ j ∈ ks) → (kt.map (·.1)).Nodup → H p = none → Q (.ref p) (upd H p (SetO2 D p kt))
theorem cr_setOf (D : Kd X.prog X.w κ) (hc : X.calm = true) : CallR X (.type "set") (rSetOf X.K D) := by
  intro pins s σ H vs us Q I r h
  obtain ⟨l, ks, rfl, hs, hn, q⟩ := h
  obtain ⟨its, rv, hl, _⟩ := I.list hs
  rw [Vals.ref1 r]
  have hlen := rv.length
  rw [List.length_map] at hlen
  refine call_setG (D := D) ks (I.ok.hd hc) hl.isList (by simpa using hlen.symm) (fun i v hv => ?_) (by unfold scanBound; omega) fun h' tk kt g c m k => ?_
  · have hv2 : its[i]? = some v := by simpa using hv
    have hi : i < ks.length := by
      rw [hlen]
      exact (List.getElem?_eq_some_iff.mp hv2).1
    obtain ⟨u, h1, h2⟩ := rv.get (i := i) (x := D.vv ks[i]) (by rw [List.getElem?_map, List.getElem?_eq_getElem hi]; rfl)
    rw [hv2] at h1
    obtain ⟨t, e⟩ := D.get _ _ h2
    exact ⟨ks[i], t, List.getElem?_eq_getElem hi, by rw [Option.some.inj h1]; exact e⟩
  · obtain ⟨o, es, ep, t, ho, _⟩ := g.ex
    have hnew : H s.heap.objs.size = none := I.hok.fresh (Nat.le_refl _)
    refine ⟨.ref s.heap.objs.size, upd H s.heap.objs.size (SetO2 D s.heap.objs.size kt), I.laid (t' := tk) k (Nat.le_refl _) ⟨g, ⟨o, ho⟩, fun h1 h2 r k2 => r.moved k2⟩, rfl, q _ kt c m g.nd hnew⟩
def rSortedG {P : Program} {w : World} (D : Kd P w κ) (ord : List κ → Prop) : List V → Hp → VK → Prop := fun vs H Q => ∃ (a : Addr) (kt : List (κ × Tok)), vs = [.ref a] ∧ H a = some (SetO2 D a kt) ∧ kt.length < 64 ∧
  ∀ (ys : List κ) (p : Addr), ys.Perm (kt.map (·.1)) → ord ys → H p = none → Q (.ref p) (upd H p (.lst (ys.map D.vv)))
theorem cr_sortedG {D : Kd X.prog X.w κ} {ord : List κ → Prop} (srt : SortsBy D ord) (hc : X.calm = true) : CallR X (.builtin "sorted") (rSortedG D ord) := by
  intro pins s σ H vs us Q I r h
  obtain ⟨a, kt, rfl, ha, h64, q⟩ := h
  have g : SetG D s.heap a kt := (I.hok a _ ha).1
  rw [Vals.ref1 r]
  refine call_sortedG srt g (I.ok.hd hc) h64 fun s' p out c ys k eg eo hp hg hv hpm ho => ?_
  have hlen : (ys.map D.vv).length ≤ sizeLine := by
    rw [List.length_map, hpm.length_eq, List.length_map]
    exact small (by omega)
  have hn : H p = none := I.hok.fresh hp
  have J : Inv X pins σ (upd H p (.lst (ys.map D.vv))) { s with heap := s'.heap, gens := s'.gens, drawn := s'.drawn, toks := s'.toks } :=
    I.call (ch := []) (Un.laid k hp hn) (I.hok.laid k hp ⟨hlen, out.toList, c, hv, hg⟩) (by rw [eg]; exact I.bare) (fun _ z => nomatch z)
  have e : s' = { s with heap := s'.heap, gens := s'.gens, drawn := s'.drawn, toks := s'.toks } := by
    cases s'
    cases s
    cases eo
    rfl
  rw [e]
  exact ⟨.ref p, _, J, rfl, q ys p hpm ho hn⟩
end
end Fg
set_option Elab.async false
set_option linter.all false
set_option maxRecDepth 100000
set_option maxHeartbeats 2000000
namespace Fg
open PySem L2 TL
/-- a comprehension whose element leaves the heap as it was -/
theorem lc_pure {J : It} {n s : Nat} {te : TE} {vs : List Nat} {σ : St} {H1 : Hp} {D : Addr} {Qd : Hp → Prop} (x f : Nat → V)
    (w : Walk J n (fun _ => True) (fun i H v H' => H' = H ∧ v = x i)) (hw : ∀ v, wipe ((wipe σ vs).set s (some v)) vs = wipe σ vs) (hn : n ≤ 10000)
    (he : ∀ i (Q : VK), i < n → Q (f i) (upd H1 D (.lst ((List.range i).map f))) → te ((wipe σ vs).set s (some (x i))) (upd H1 D (.lst ((List.range i).map f))) Q)
    (hd : Qd (upd H1 D (.lst ((List.range n).map f)))) :
    ∃ W : Nat → Nat → Hp → Prop, (∃ m, W 0 m (upd H1 D (.lst []))) ∧ ∀ i m H, W i m H →
      (J.stop i H ∧ Qd H) ∨ (J.go i H ∧ ∃ Nx : Hp → Prop, (∀ H', Nx H' → ∃ m', m' < m ∧ W (i + 1) m' H') ∧ ∀ x H', J.yld i H x H' → gName s x (wipe σ vs) H' fun σ2 H2 => wipe σ2 vs = wipe σ vs ∧ tYes σ2 H2 fun b H3 =>
        if b = true then te σ2 H3 fun y H4 => ∃ acc, H4 D = some (.lst acc) ∧ acc.length < sizeLine ∧ Nx (upd H4 D (.lst (acc ++ [y]))) else Nx H3) := by
  refine lc_it w (fun i H => H = upd H1 D (.lst ((List.range i).map f))) rfl (fun _ _ _ _ => trivial) (fun i v H H' hi p y => ?_) (fun H p => by rw [p]; exact hd)
  obtain ⟨rfl, rfl⟩ := y
  subst p
  refine ⟨hw _, ?_⟩
  simp only [tYes, ↓reduceIte]
  refine he i _ hi ⟨_, upd_same, ?_, ?_⟩
  · rw [List.length_map, List.length_range, sizeLine_eq]
    omega
  · rw [upd_upd, List.range_succ, List.map_append] <;> rfl
/-- the i-th sign of a text -/
def signV (z : Str) (i : Nat) : V := .str ⟨#[z.cps.toList.getD i 0]⟩
theorem walk_text {z : Str} : Walk (Its z) z.length (fun _ => True) (fun i H v H' => H' = H ∧ v = signV z i) :=
  ⟨fun _ _ hi _ => hi, fun _ _ => Nat.le_refl _, fun i H v H' hi _ y => by
    obtain ⟨e, c, h1, h2⟩ := y
    refine ⟨e, ?_⟩
    rw [h2]
    unfold signV
    have h3 : z.cps.toList[i]? = some c := by rw [Array.getElem?_toList]; exact h1
    rw [List.getD_eq_getElem?_getD, h3]
    rfl⟩
theorem map_signs {β : Type} (z : Str) (g : Nat → β) : (List.range z.length).map (fun i => g (z.cps.toList.getD i 0)) = (tl z).map g := by
  apply List.ext_getElem
  · rw [List.length_map, List.length_range, List.length_map, len_tl]
  · intro i h1 h2
    rw [List.getElem_map, List.getElem_map, List.getElem_range]
    rw [List.length_map] at h2
    congr 1
    rw [List.getD_eq_getElem?_getD, List.getElem?_eq_getElem h2]
    rfl
/-! ### is_of_letters -/
abbrev alpha : Str := "abcdefghijklmnopqrstuvwxyz"
theorem tl_alpha : tl alpha = (List.range 26).map (· + 97) := by decide +kernel
abbrev s_is_of_letters : Stmt := top 8
abbrev sc_is_of_lettersN : List Str := ["word", "sign"]
theorem sc_is_of_letters : FnScope sc_is_of_lettersN ["word"] (defScope s_is_of_letters) := ⟨rfl, rfl, rfl, by decide +kernel, rfl, by decide +kernel, by decide +kernel⟩
/-- the constants of parsing -/
structure Consts (K : PySem.W.Frag) (mg : Str → Option Value) : Prop where
  alpha : ∃ t, mg "ALPHABET" = some (.str alpha t)
  mostCells : ∃ t, mg "MOST_CELLS" = some (.int 2 t)
  mostParts : ∃ t, mg "MOST_PARTS" = some (.int 2 t)
  mostStatements : ∃ t, mg "MOST_STATEMENTS" = some (.int 20 t)
  mostBodies : ∃ t, mg "MOST_BODIES" = some (.int 4 t)
  longest : ∃ t, mg "LONGEST_NAME" = some (.int 8 t)
  all : mg "all" = none
  sorted : mg "sorted" = none
  set : mg "set" = none
/-- a def of a text that answers, all else as it was -/
def spText1 (f : Str → Bool) : Sp := fun vs H Q _ => ∃ z : Str, vs = [.str z] ∧ z.length ≤ 1000 ∧ ∀ H', Same H H' → Q (.bl (f z)) H'
def ofLetters (z : Str) : Bool := (tl z).all fun c => decide (c ∈ tl alpha)
section
variable {P : Program} {w : World} {K : PySem.W.Frag} {mg : Str → Option Value} {base : Heap}
theorem ok_is_of_letters {f : Addr} {fd : FuncData} (F : Fun K "is_of_letters" "is_of_letters" s_is_of_letters f fd) (T : Consts K mg) : FnOk P w K mg base CX0 1 f fd ["word"] (spText1 ofLetters) := by
  refine F.ok sc_is_of_letters (fun vs H Q E h => ?_) (fun cdv A outer st H vs Q E hr h => ?_)
  · obtain ⟨z, rfl, _⟩ := h
    rfl
  obtain ⟨z, rfl, hz, q⟩ := h
  obtain ⟨ta, hal⟩ := T.alpha
  refine ⟨_, (pss_one (ps_ret (pe_callB (cr_all rfl) (by rfl) T.all (by decide +kernel) (pa_cons (pe_lc (own := [("sign", 1)]) (g := gName 1) rfl sc_is_of_letters.nd (pi_str (pv 0)) (blkOk_by (N := sc_is_of_lettersN) (sc := defScope s_is_of_letters) (by decide +kernel)) (fun _ _ _ _ _ => pg_name (i := 1) sc_is_of_letters.nd rfl (Or.inl rfl)) (fun _ _ _ _ _ => pts_nil) (fun _ _ _ _ _ => (pe_cmpR op_in_sign (pv 1) (pe_glob (v := .str alpha) rfl hal ⟨_, rfl⟩) (by rfl)))) pa_nil)))), ?_⟩
  refine ⟨_, rfl, z, rfl, fun D hD => lc_pure (signV z) (fun i => V.bl (decide (z.cps.toList.getD i 0 ∈ alpha.cps.toList))) walk_text (fun _ => rfl) (by omega) (fun i Q' hi k => ?_) ?_⟩
  · exact ⟨_, rfl, _, alpha, rfl, rfl, k⟩
  · refine ⟨D, (tl z).map (fun c => decide (c ∈ alpha.cps.toList)), rfl, .inl (.inl ?_), ?_⟩
    · rw [upd_same, List.map_map, ← map_signs]
      rfl
    · have e : ((tl z).map (fun c => decide (c ∈ alpha.cps.toList))).all id = ofLetters z := by
        unfold ofLetters
        rw [List.all_map]
        rfl
      rw [e]
      exact q _ (same_new hD _)
end
end Fg
set_option Elab.async false
set_option linter.all false
set_option maxRecDepth 100000
set_option maxHeartbeats 2000000
namespace Fg
open PySem L2 TL
/-! ### data -/
theorem dp_ints {K : PySem.W.Frag} {H : Hp} : ∀ ns : List Int, DpAll K H (ns.map V.int) (ns.map PyData.int)
  | [] => .nil
  | n :: r => .cons (.int n) (dp_ints r)
theorem dp_strs {K : PySem.W.Frag} {H : Hp} : ∀ zs : List Str, DpAll K H (zs.map V.str) (zs.map PyData.str)
  | [] => .nil
  | n :: r => .cons (.str n) (dp_strs r)
theorem lay_ints : ∀ ns : List Int, PyData.canLayAll0 (ns.map PyData.int) = true ∧ PyData.depthAll (ns.map PyData.int) = 0
  | [] => ⟨rfl, rfl⟩
  | n :: r => by
    obtain ⟨h1, h2⟩ := lay_ints r
    refine ⟨?_, ?_⟩
    · show (true && PyData.canLayAll0 (r.map PyData.int)) = true
      rw [h1]; rfl
    · show max 0 (PyData.depthAll (r.map PyData.int)) = 0
      rw [h2]; rfl
theorem eqv_ints : ∀ a b : List Int, PyData.eqvAll (a.map PyData.int) (b.map PyData.int) = decide (a = b)
  | [], [] => rfl
  | [], _ :: _ => rfl
  | _ :: _, [] => rfl
  | x :: r, y :: s => by
    show ((x == y) && PyData.eqvAll (r.map PyData.int) (s.map PyData.int)) = _
    rw [eqv_ints r s]
    by_cases e : x = y
    · subst e
      simp
    · simp [e]
theorem eqv_strs : ∀ a b : List Str, PyData.eqvAll (a.map PyData.str) (b.map PyData.str) = decide (a = b)
  | [], [] => rfl
  | [], _ :: _ => rfl
  | _ :: _, [] => rfl
  | x :: r, y :: s => by
    show ((x == y) && PyData.eqvAll (r.map PyData.str) (s.map PyData.str)) = _
    rw [eqv_strs r s]
    by_cases e : x = y
    · subst e
      simp
    · simp [e]
/-! ### is_in_order -/
abbrev s_is_in_order : Stmt := top 19
abbrev sc_is_in_orderN : List Str := ["word", "order", "places", "sign"]
theorem sc_is_in_order : FnScope sc_is_in_orderN ["word", "order"] (defScope s_is_in_order) := ⟨rfl, rfl, rfl, by decide +kernel, rfl, by decide +kernel, by decide +kernel⟩
def places (z o : Str) : List Int := (tl z).map fun c => Txt.find o ⟨#[c]⟩
/-- the signs of z are signs of o, in o's order -/
structure InOrder (z o : Str) : Prop where
  up : (places z o).Pairwise (· < ·)
  on : ∀ x ∈ places z o, 0 ≤ x
def spOrder : Sp := fun vs H Q _ => ∃ z o : Str, vs = [.str z, .str o] ∧ z.length < 60 ∧ InOrder z o ∧ ∀ H', Same H H' → Q (.bl true) H'
theorem inV_int (x : Int) (xs : List Int) : inV (.int x) (xs.map V.int) = decide (x ∈ xs) := by
  unfold inV
  rw [List.any_map]
  induction xs with
  | nil => rfl
  | cons y r ih =>
    rw [List.any_cons, ih]
    show ((y == x) || decide (x ∈ r)) = decide (x ∈ y :: r)
    by_cases e : x = y
    · subst e
      simp
    · have e' : (y == x) = false := beq_eq_false_iff_ne.mpr (Ne.symm e)
      rw [e', Bool.false_or]
      simp [e]
theorem flatI (xs : List Int) : (xs.map V.int).all flatV = true := by
  induction xs with
  | nil => rfl
  | cons y r ih => exact ih
theorem up_unique {a b : List Int} (ha : a.Pairwise (· ≤ ·)) (hb : b.Pairwise (· < ·)) (h : ∀ j, j ∈ a ↔ j ∈ b) (hn : a.Nodup) : a = b := by
  have hb1 : b.Pairwise (· ≤ ·) := hb.imp Int.le_of_lt
  have hb2 : b.Nodup := hb.imp Int.ne_of_lt
  have p : a.Perm b := (List.perm_ext_iff_of_nodup hn hb2).mpr h
  exact p.eq_of_pairwise (fun x y _ _ h1 h2 => Int.le_antisymm h1 h2) ha hb1
section
variable {P : Program} {w : World} {K : PySem.W.Frag} {mg : Str → Option Value} {base : Heap}
theorem ok_is_in_order {f : Addr} {fd : FuncData} (F : Fun K "is_in_order" "is_in_order" s_is_in_order f fd) (T : Consts K mg) : FnOk P w K mg base CX0 1 f fd ["word", "order"] spOrder := by
  refine F.ok sc_is_in_order (fun vs H Q E h => ?_) (fun cdv A outer st H vs Q E hr h => ?_)
  · obtain ⟨z, o, rfl, _⟩ := h
    rfl
  obtain ⟨z, o, rfl, hz, hO, q⟩ := h
  refine ⟨_, (pss_cons (ps_setLc (i := 2) (own := [("sign", 3)]) (g := gName 3) rfl sc_is_in_order.nd rfl rfl (sw_true rfl rfl rfl (by decide +kernel)) (pi_str (pv 0)) (blkOk_by (N := sc_is_in_orderN) (sc := defScope s_is_in_order) (by decide +kernel)) (fun _ _ _ _ _ => pg_name (i := 3) sc_is_in_order.nd rfl (Or.inl rfl)) (fun _ _ _ _ _ => pts_nil) (fun _ _ _ _ _ => (pe_m1 PySem.F.slot_str_find PySem.F.type_str_find mt_find (pv 1) (pv 3))))
(pss_one (ps_ret (pe_and (pe_cmpR op_notIn_seq (pe_un un_neg pe_int) (pv 2) (by rfl)) (pe_one (pe_cmpR (op_eqD hr.units) (pe_callB (cr_sortedG sorts_int rfl) (by rfl) T.sorted (by decide +kernel) (pa_cons (pe_callTy (cr_setOf (kdInt _ _) rfl) (by rfl) T.set (by decide +kernel) (pa_cons (pv 2) pa_nil)) pa_nil)) (pv 2) (nomark _))))))), ?_⟩
  refine ⟨_, rfl, z, rfl, fun D hD => lc_pure (signV z) (fun i => V.int (Txt.find o ⟨#[z.cps.toList.getD i 0]⟩)) walk_text (fun _ => rfl) (by omega) (fun i Q' hi k => ?_) ?_⟩
  · exact ⟨_, rfl, ⟨_, rfl⟩, _, rfl, _, _, rfl, rfl, k⟩
  · have eD : (List.range z.length).map (fun i => V.int (Txt.find o ⟨#[z.cps.toList.getD i 0]⟩)) = (places z o).map V.int := by
      unfold places
      rw [List.map_map]
      exact map_signs z fun c => V.int (Txt.find o ⟨#[c]⟩)
    rw [eD]
    have hS : SqL K (upd H D (.lst ((places z o).map V.int))) D ((places z o).map V.int) := .inl (.inl upd_same)
    have ln : (places z o).length = z.length := by unfold places; rw [List.length_map, len_tl]
    refine ⟨1, rfl, _, rfl, D, _, rfl, .inl hS, rfl, flatI _, ?_⟩
    have e1 : inV (.int (-1)) ((places z o).map V.int) = false := by
      rw [inV_int]
      exact decide_eq_false fun m => by
        have := hO.on _ m
        omega
    show ∃ c, V.bl (!inV (.int (-1)) ((places z o).map V.int)) = .bl c ∧ _
    rw [e1]
    refine ⟨true, rfl, iteT ?_⟩
    refine ⟨_, rfl, D, places z o, rfl, hS, by omega, fun p kt h1 h2 h3 hp => ?_⟩
    have npD : D ≠ p := ne_of_none upd_same hp
    refine ⟨p, kt, rfl, upd_same, by omega, fun ys p2 h4 h5 hp2 => ?_⟩
    have e2 : ys = places z o := up_unique h5 hO.up (fun j => by rw [h4.mem_iff, h2]) (h4.nodup_iff.mpr h3)
    have nD2 : D ≠ p2 := ne_of_none (by rw [upd_ne npD]; exact upd_same) hp2
    have hS2 : SqL K (upd (upd (upd H D (.lst ((places z o).map V.int))) p (SetO2 (kdInt P w) p kt)) p2 (.lst (ys.map V.int))) D ((places z o).map V.int) := .inl (.inl (by rw [upd_ne nD2, upd_ne npD]; exact upd_same))
    refine ⟨_, rfl, .list (ys.map .int), .list ((places z o).map .int), .lst (.inl (.inl upd_same)) (dp_ints ys), .lst hS2 (dp_ints _), ?_, ?_, ?_⟩
    · unfold SeqAt.shaped
      rw [Bool.and_eq_true]
      exact ⟨(lay_ints ys).1, decide_eq_true (by show PyData.depthAll (ys.map PyData.int) + 1 ≤ 64; rw [(lay_ints ys).2]; decide)⟩
    · unfold SeqAt.shaped
      rw [Bool.and_eq_true]
      exact ⟨(lay_ints _).1, decide_eq_true (by show PyData.depthAll ((places z o).map PyData.int) + 1 ≤ 64; rw [(lay_ints _).2]; decide)⟩
    · show Q (.bl (PyData.eqvAll (ys.map PyData.int) ((places z o).map PyData.int))) _
      rw [eqv_ints, e2, decide_eq_true rfl]
      refine q _ ?_
      exact ((same_new hD _).trans (same_new hp _)).trans (same_new hp2 _)
end
end Fg
set_option Elab.async false
set_option linter.all false
set_option maxRecDepth 100000
set_option maxHeartbeats 2000000
namespace Fg
open PySem L2 TL
abbrev NV := List (Str × Nat)
def kvS (l : NV) : List (Key × V) := l.map fun x => ((Sum.inr x.1 : Key), V.int (x.2 : Int))
def numS (n : Nat) : Str := Str.ofString (toString (n : Int))
theorem nodup_at {l : NV} (h : (l.map (·.1)).Nodup) {i j : Nat} {x y : Str × Nat} (hi : l[i]? = some x) (hj : l[j]? = some y) (e : x.1 = y.1) : i = j := by
  have h1 : (l.map (·.1))[i]? = some x.1 := by rw [List.getElem?_map, hi]; rfl
  have h2 : (l.map (·.1))[j]? = some x.1 := by rw [List.getElem?_map, hj, e]; rfl
  exact nd_ix h h1 h2
theorem valV_kvS : ∀ {l : NV} {i : Nat} {x : Str × Nat}, (l.map (·.1)).Nodup → l[i]? = some x → valV (kvS l) (Sum.inr x.1) = some (.int (x.2 : Int))
  | [], i, x, _, h => by simp at h
  | y :: r, 0, x, _, h => by
    have e : y = x := Option.some.inj h
    subst e
    unfold valV kvS
    rw [List.map_cons, List.find?_cons_of_pos (by simp)]
    rfl
  | y :: r, i + 1, x, nd, h => by
    have hx : r[i]? = some x := h
    have hne : y.1 ≠ x.1 := fun e => by
      have := nodup_at nd (i := 0) (j := i + 1) rfl h e
      omega
    have ih := valV_kvS (l := r) (List.nodup_cons.mp nd).2 hx
    unfold valV kvS at ih ⊢
    rw [List.map_cons, List.find?_cons_of_neg (by simpa using hne)]
    exact ih
theorem kvS_get {l : NV} {i : Nat} {x : Str × Nat} (h : l[i]? = some x) : ((kvS l).map fun kv => kV kv.1)[i]? = some (.str x.1) := by
  unfold kvS
  rw [List.map_map, List.getElem?_map, h]
  rfl
theorem kvS_flat (l : NV) : ((kvS l).map fun kv => kV kv.1).all flatV = true := by
  unfold kvS
  rw [List.map_map, List.all_map]
  exact List.all_eq_true.mpr fun _ _ => rfl
/-- the parser with its cells and parts -/
structure PIn (C : Addr) (H : Hp) (p l m s t : Addr) (n : Int) (sy : Str) (fi : Int) (ms ss : NV) : Prop where
  ob : PAt C H p l m s t n sy fi
  mo : H m = some (.dK (kvS ms))
  st : H s = some (.dK (kvS ss))
  nm : (ms.map (·.1)).Nodup
  ns : (ss.map (·.1)).Nodup
theorem PIn.same {C : Addr} {H H' : Hp} {p l m s t : Addr} {n : Int} {sy : Str} {fi : Int} {ms ss : NV} (h : PIn C H p l m s t n sy fi ms ss) (e : Same H H') : PIn C H' p l m s t n sy fi ms ss := by
  obtain ⟨⟨dx, h1⟩, h2, h3, h4, h5⟩ := h
  exact ⟨⟨dx, e _ _ h1⟩, e _ _ h2, e _ _ h3, h4, h5⟩
/-- more constants -/
structure Consts2 (K : PySem.W.Frag) (mg : Str → Option Value) : Prop where
  values : ∃ a, mg "VALUES" = some (.ref a) ∧ ∀ H, SqT K H a [.str "0", .str "1", .str "2"]
  bare : ∃ a, mg "BARE_WORDS" = some (.ref a) ∧ ∀ H, SqT K H a [.str "right", .str "left", .str "copy", .str "stop"]
  words : ∃ a, mg "WORDS" = some (.ref a) ∧ ∀ H, SqT K H a (["symbols", "cell", "part", "main", "right", "left", "write", "copy", "set", "add", "if", "else", "while", "do", "stop", "at", "not"].map fun z => V.str (Str.ofString z))
abbrev s_Parser_setting_by : Stmt := inClass (top 20) 11
abbrev sc_Parser_setting_byN : List Str := ["self", "words", "name", "value"]
theorem sc_Parser_setting_by : FnScope sc_Parser_setting_byN ["self", "words"] (defScope s_Parser_setting_by) := ⟨rfl, rfl, rfl, by decide +kernel, rfl, by decide +kernel, by decide +kernel⟩
def spSetting (K : PySem.W.Frag) (C : Addr) : Sp := fun vs H Q _ => ∃ (p l m s t a : Addr) (n : Int) (sy : Str) (fi : Int) (ms ss : NV) (c : Str) (i v most : Nat), vs = [.ref p, .ref a] ∧ PIn C H p l m s t n sy fi ms ss ∧ SqL K H a [.str c, .str (numS v)] ∧
  ms[i]? = some (c, most) ∧ v ≤ most ∧ most ≤ 2 ∧ ∀ (b : Addr) (H' : Hp), Same H H' → H b = none → H' b = some (.tup [.int (i : Int), .int (v : Int)]) → Q (.ref b) H'
theorem num_in {v most : Nat} (h : v ≤ most) (h2 : most ≤ 2) : inV (.str (numS v)) (cutV [.str "0", .str "1", .str "2"] none (some ((most : Int) + 1))) = true := by
  have hc : most = 0 ∨ most = 1 ∨ most = 2 := by omega
  have hd : v = 0 ∨ v = 1 ∨ v = 2 := by omega
  rcases hc with rfl | rfl | rfl <;> rcases hd with rfl | rfl | rfl <;> first | omega | decide +kernel
theorem num_in3 {v : Nat} (h : v ≤ 2) : inV (.str (numS v)) [.str "0", .str "1", .str "2"] = true := by
  have hd : v = 0 ∨ v = 1 ∨ v = 2 := by omega
  rcases hd with rfl | rfl | rfl <;> decide +kernel
theorem num_int {v : Nat} (h : v ≤ 2) : intText? (numS v) = some (v : Int) ∧ (numS v).length ≤ 640 := by
  have hd : v = 0 ∨ v = 1 ∨ v = 2 := by omega
  rcases hd with rfl | rfl | rfl <;> decide +kernel
section
variable {P : Program} {w : World} {K : PySem.W.Frag} {mg : Str → Option Value} {base : Heap}
theorem ok_setting_by {f C : Addr} {fd : FuncData} (F : Fun K "setting_by" "Parser.setting_by" s_Parser_setting_by f fd) (T : Bare mg) (T2 : Consts2 K mg) (TP : PTxt K C) : FnOk P w K mg base CX0 1 f fd ["self", "words"] (spSetting K C) := by
  refine F.ok sc_Parser_setting_by (fun vs H Q E h => ?_) (fun cdv A outer st H vs Q E hr h => ?_)
  · obtain ⟨p, l, m, s, t, a, n, sy, fi, ms, ss, c, i, v, most, rfl, _⟩ := h
    rfl
  obtain ⟨p, l, m, s, t, a, n, sy, fi, ms, ss, c, i, v, most, rfl, I, hS, hm, hv, h2, q⟩ := h
  obtain ⟨⟨dx, hp⟩, mo, hst, nm, ns⟩ := id I
  have hu := hu_of hr
  obtain ⟨aV, gV, sV⟩ := T2.values
  refine ⟨_, (pss_cons (ps_if (PW.pt (pw_or (pt_cmpR op_ne (pe_callB call_len_seq (by rfl) T.len PySem.boot_len (pa_cons (pv 1) pa_nil)) pe_int (nomark _)) (pw_or1 (pt_cmp (pc_dnotin hu (pe_ix ix_list (pv 1) pe_int (fun _ _ => rfl)) (pe_fld (pv 0) rfl))))))
(pss_one (ps_ret pe_non))
pss_nil)
(pss_cons (ps_asg (pv 1) (pg_unl (n := 2) rfl (pgs_cons (pg_name (i := 2) sc_Parser_setting_by.nd rfl (Or.inl rfl)) (pgs_cons (pg_name (i := 3) sc_Parser_setting_by.nd rfl (Or.inl rfl)) pgs_nil))))
(pss_cons (ps_if (pt_cmpR op_notIn_seq (pv 3) (pe_slice sl_tupA (pe_glob (v := .ref aV) rfl gV rfl) po_none (po_some (pe_op op_add (pe_dget hu (pe_fld (pv 0) rfl) (pv 2) (fun _ _ => rfl)) pe_int))) (by rfl))
(pss_one (ps_ret pe_non))
pss_nil)
(pss_one (ps_ret (pe_tup (pa_cons (pe_bm PySem.F.plainAttrs_list PySem.F.slot_list_index PySem.F.type_list_index mt_index (pe_callTy (call_list_dK rfl) (by rfl) T.list (by decide +kernel) (pa_cons (pe_fld (pv 0) rfl) pa_nil)) (pa_cons (pv 2) pa_nil)) (pa_cons (pe_callTy call_int_str (by rfl) T.int (by decide +kernel) (pa_cons (pv 3) pa_nil)) pa_nil)))))))), ?_⟩
  have hval := valV_kvS nm hm
  refine ⟨_, rfl, a, _, rfl, .inl hS, rfl, _, rfl, iteF ?_⟩
  refine ⟨_, rfl, a, _, 0, _, rfl, rfl, hS, rfl, _, rfl, p, C, dx, _, _, rfl, hp, TP.cl, TP.nMosts, pf_mosts, m, _, rfl, DGet.k (k := Sum.inr c) mo, _, rfl, ?_⟩
  rw [hval]
  refine iteF ?_
  refine ⟨_, rfl, a, _, rfl, hS, rfl, _, _, rfl, _, _, rfl, rfl, ?_⟩
  refine ⟨_, rfl, _, rfl, p, C, dx, _, _, rfl, hp, TP.cl, TP.nMosts, pf_mosts, _, rfl, m, .int (most : Int), rfl, ?_, ?_⟩
  · exact .inl ⟨_, Sum.inr c, .inl mo, rfl, hval.symm⟩
  have v2 : v ≤ 2 := Nat.le_trans hv h2
  have hidx : ∀ (j : Nat) (z' : V), j < i → ((kvS ms).map fun kv => kV kv.1)[j]? = some z' → eqV z' (.str c) = false := fun j z' hj hz => by
    have hjl : j < ms.length := by
      have := (List.getElem?_eq_some_iff.mp hz).1
      unfold kvS at this
      rw [List.length_map, List.length_map] at this
      exact this
    have e1 := kvS_get (List.getElem?_eq_getElem hjl)
    rw [hz] at e1
    have e2 := Option.some.inj e1
    subst e2
    show ((ms[j]).1 == c) = false
    refine beq_eq_false_iff_ne.mpr fun e => ?_
    have := nodup_at nm (List.getElem?_eq_getElem hjl) hm e
    omega
  refine ⟨_, _, rfl, rfl, _, rfl, aV, _, rfl, sV _, fun _ => ?_, fun _ b hb => ?_⟩
  · refine ⟨aV, _, rfl, .inr (sV _), rfl, rfl, _, rfl, ?_⟩
    rw [num_in3 v2]
    refine iteF ?_
    refine ⟨_, rfl, p, C, dx, _, _, rfl, hp, TP.cl, TP.nMosts, pf_mosts, m, _, rfl, mo, fun L hL => ?_⟩
    have s1 := same_new hL (.lst ((kvS ms).map fun kv => kV kv.1))
    refine ⟨.inl ⟨rfl, _, .inl (.inl upd_same)⟩, _, rfl, L, _, _, i, _, rfl, rfl, .inl (.inl upd_same), rfl, kvS_flat ms, kvS_get hm, beq_self_eq_true _, hidx, ?_⟩
    refine ⟨_, rfl, _, _, rfl, (num_int v2).1, (num_int v2).2, small (by show 2 ≤ 1000; decide), fun b hb => ?_⟩
    exact q b _ (s1.trans (same_new hb _)) (s1.free hb) upd_same
  · have s0 := same_new hb (.tup (cutV [.str "0", .str "1", .str "2"] none (some ((most : Int) + 1))))
    refine ⟨b, _, rfl, .inr (.inl (.inl upd_same)), rfl, ?_, _, rfl, ?_⟩
    · refine List.all_eq_true.mpr fun x hx => ?_
      have hx2 : x ∈ ([.str "0", .str "1", .str "2"] : List V) := List.mem_of_mem_drop (List.mem_of_mem_take hx)
      rcases List.mem_cons.mp hx2 with rfl | hx2
      · rfl
      rcases List.mem_cons.mp hx2 with rfl | hx2
      · rfl
      rcases List.mem_cons.mp hx2 with rfl | hx2
      · rfl
      · cases hx2
    dsimp only
    rw [num_in hv h2]
    refine iteF ?_
    refine ⟨_, rfl, p, C, dx, _, _, rfl, s0 _ _ hp, TP.cl, TP.nMosts, pf_mosts, m, _, rfl, s0 _ _ mo, fun L hL => ?_⟩
    have s1 := same_new hL (.lst ((kvS ms).map fun kv => kV kv.1))
    refine ⟨.inl ⟨rfl, _, .inl (.inl upd_same)⟩, _, rfl, L, _, _, i, _, rfl, rfl, .inl (.inl upd_same), rfl, kvS_flat ms, kvS_get hm, beq_self_eq_true _, hidx, ?_⟩
    refine ⟨_, rfl, _, _, rfl, (num_int v2).1, (num_int v2).2, small (by show 2 ≤ 1000; decide), fun b2 hb2 => ?_⟩
    exact q b2 _ ((s0.trans s1).trans (same_new hb2 _)) ((s0.trans s1).free hb2) upd_same
end
end Fg
set_option Elab.async false
set_option linter.all false
set_option maxRecDepth 100000
set_option maxHeartbeats 2000000
namespace Fg
open PySem L2 TL
/-! ### sum_by -/
abbrev s_Parser_sum_by : Stmt := inClass (top 20) 12
abbrev sc_Parser_sum_byN : List Str := ["self", "words"]
theorem sc_Parser_sum_by : FnScope sc_Parser_sum_byN ["self", "words"] (defScope s_Parser_sum_by) := ⟨rfl, rfl, rfl, by decide +kernel, rfl, by decide +kernel, by decide +kernel⟩
def spSum (K : PySem.W.Frag) (C : Addr) : Sp := fun vs H Q _ => ∃ (p l m s t a : Addr) (n : Int) (sy : Str) (fi : Int) (ms ss : NV) (c : Str) (i v most : Nat), vs = [.ref p, .ref a] ∧ PIn C H p l m s t n sy fi ms ss ∧ SqL K H a [.str c, .str (numS v)] ∧
  ms[i]? = some (c, most) ∧ 1 ≤ v ∧ v ≤ 2 ∧ ∀ (b : Addr) (H' : Hp), Same H H' → H b = none → H' b = some (.tup [.int (i : Int), .int (v : Int)]) → Q (.ref b) H'
theorem idx_first {ms : NV} {i : Nat} {c : Str} {most : Nat} (nm : (ms.map (·.1)).Nodup) (hm : ms[i]? = some (c, most)) : ∀ (j : Nat) (z' : V), j < i → ((kvS ms).map fun kv => kV kv.1)[j]? = some z' → eqV z' (.str c) = false := fun j z' hj hz => by
  have hjl : j < ms.length := by
    have := (List.getElem?_eq_some_iff.mp hz).1
    unfold kvS at this
    rw [List.length_map, List.length_map] at this
    exact this
  have e1 := kvS_get (List.getElem?_eq_getElem hjl)
  rw [hz] at e1
  have e2 := Option.some.inj e1
  subst e2
  show ((ms[j]).1 == c) = false
  refine beq_eq_false_iff_ne.mpr fun e => ?_
  have := nodup_at nm (List.getElem?_eq_getElem hjl) hm e
  omega
section
variable {P : Program} {w : World} {K : PySem.W.Frag} {mg : Str → Option Value} {base : Heap}
theorem ok_sum_by {f C : Addr} {fd : FuncData} (F : Fun K "sum_by" "Parser.sum_by" s_Parser_sum_by f fd) (T : Bare mg) (TP : PTxt K C) : FnOk P w K mg base CX0 1 f fd ["self", "words"] (spSum K C) := by
  refine F.ok sc_Parser_sum_by (fun vs H Q E h => ?_) (fun cdv A outer st H vs Q E hr h => ?_)
  · obtain ⟨p, l, m, s, t, a, n, sy, fi, ms, ss, c, i, v, most, rfl, _⟩ := h
    rfl
  obtain ⟨p, l, m, s, t, a, n, sy, fi, ms, ss, c, i, v, most, rfl, I, hS, hm, hv, h2, q⟩ := h
  obtain ⟨⟨dx, hp⟩, mo, hst, nm, ns⟩ := id I
  have hu := hu_of hr
  refine ⟨_, (pss_cons (ps_if (PW.pt (pw_or (pt_cmpR op_ne (pe_callB call_len_seq (by rfl) T.len PySem.boot_len (pa_cons (pv 1) pa_nil)) pe_int (nomark _)) (pw_or (pt_cmp (pc_dnotin hu (pe_ix ix_list (pv 1) pe_int (fun _ _ => rfl)) (pe_fld (pv 0) rfl))) (pw_or1 (pt_cmpR op_notIn_seq (pe_ix ix_list (pv 1) pe_int (fun _ _ => rfl)) (pe_tup (pa_cons pe_str (pa_cons pe_str pa_nil))) (by rfl))))))
(pss_one (ps_ret pe_non))
pss_nil)
(pss_one (ps_ret (pe_tup (pa_cons (pe_bm PySem.F.plainAttrs_list PySem.F.slot_list_index PySem.F.type_list_index mt_index (pe_callTy (call_list_dK rfl) (by rfl) T.list (by decide +kernel) (pa_cons (pe_fld (pv 0) rfl) pa_nil)) (pa_cons (pe_ix ix_list (pv 1) pe_int (fun _ _ => rfl)) pa_nil)) (pa_cons (pe_callTy call_int_str (by rfl) T.int (by decide +kernel) (pa_cons (pe_ix ix_list (pv 1) pe_int (fun _ _ => rfl)) pa_nil)) pa_nil)))))), ?_⟩
  have hval := valV_kvS nm hm
  refine ⟨_, rfl, a, _, rfl, .inl hS, rfl, _, rfl, iteF ?_⟩
  refine ⟨_, rfl, a, _, 0, _, rfl, rfl, hS, rfl, _, rfl, p, C, dx, _, _, rfl, hp, TP.cl, TP.nMosts, pf_mosts, m, _, rfl, DGet.k (k := Sum.inr c) mo, _, rfl, ?_⟩
  rw [hval]
  refine iteF ?_
  refine ⟨_, rfl, a, _, 1, _, rfl, rfl, hS, rfl, small (by show 2 ≤ 1000; decide), fun T1 hT1 => ?_⟩
  have s0 := same_new hT1 (.tup [.str "1", .str "2"])
  have hin : inV (.str (numS v)) [.str "1", .str "2"] = true := by
    have hd : v = 1 ∨ v = 2 := by omega
    rcases hd with rfl | rfl <;> decide +kernel
  refine ⟨T1, _, rfl, .inr (.inl (.inl upd_same)), rfl, rfl, _, rfl, ?_⟩
  dsimp only
  rw [hin]
  refine iteF ?_
  refine ⟨_, rfl, p, C, dx, _, _, rfl, s0 _ _ hp, TP.cl, TP.nMosts, pf_mosts, m, _, rfl, s0 _ _ mo, fun L hL => ?_⟩
  have s1 := same_new hL (.lst ((kvS ms).map fun kv => kV kv.1))
  have hS1 := (s0.trans s1).seq hS
  refine ⟨.inl ⟨rfl, _, .inl (.inl upd_same)⟩, _, rfl, a, _, 0, _, rfl, rfl, hS1, rfl, L, _, _, i, _, rfl, rfl, .inl (.inl upd_same), rfl, kvS_flat ms, kvS_get hm, beq_self_eq_true _, idx_first nm hm, ?_⟩
  refine ⟨_, rfl, a, _, 1, _, rfl, rfl, hS1, rfl, _, _, rfl, (num_int h2).1, (num_int h2).2, small (by show 2 ≤ 1000; decide), fun b hb => ?_⟩
  exact q b _ ((s0.trans s1).trans (same_new hb _)) ((s0.trans s1).free hb) upd_same
end
/-! ### condition_by -/
def ordOf (sy : Str) : Str := ((Str.empty ++ ("<" : Str)) ++ sy) ++ (">" : Str)
theorem len_app (x y : Str) : (x ++ y).length = x.length + y.length := by
  rw [len_tl, tl_append, List.length_append, ← len_tl, ← len_tl]
inductive Core (sy : Str) (ms : NV) : List Str → Prop where
  | at_ (x : Str) : x.length < 60 → InOrder x (ordOf sy) → Core sy ms ["at", x]
  | eq (c : Str) (i v most : Nat) : ms[i]? = some (c, most) → v ≤ most → most ≤ 2 → c ≠ "not" → PyData.strOk c = true → Core sy ms [c, "=", numS v]
def CondOk (sy : Str) (ms : NV) (ws : List Str) : Prop := Core sy ms ws ∨ ∃ r, ws = ("not" : Str) :: r ∧ Core sy ms r
abbrev s_Parser_condition_by : Stmt := inClass (top 20) 13
abbrev sc_Parser_condition_byN : List Str := ["self", "words", "wanted", "setting"]
theorem sc_Parser_condition_by : FnScope sc_Parser_condition_byN ["self", "words"] (defScope s_Parser_condition_by) := ⟨rfl, rfl, rfl, by decide +kernel, rfl, by decide +kernel, by decide +kernel⟩
def spCond (K : PySem.W.Frag) (C : Addr) : Sp := fun vs H Q _ => ∃ (p l m s t a : Addr) (n : Int) (sy : Str) (fi : Int) (ms ss : NV) (ws : List Str), vs = [.ref p, .ref a] ∧ PIn C H p l m s t n sy fi ms ss ∧ SqL K H a (ws.map V.str) ∧
  CondOk sy ms ws ∧ sy.length ≤ 10 ∧ ∀ (b : Addr) (H' : Hp), Same H H' → Q (.ref b) H'
theorem lay_strs : ∀ zs : List Str, (∀ z ∈ zs, PyData.strOk z = true) → PyData.canLayAll0 (zs.map PyData.str) = true
  | [], _ => rfl
  | z :: r, h => by
    show (PyData.strOk z && PyData.canLayAll0 (r.map PyData.str)) = true
    rw [h z List.mem_cons_self, lay_strs r fun y hy => h y (List.mem_cons_of_mem _ hy)]
    rfl
theorem dep_strs : ∀ zs : List Str, PyData.depthAll (zs.map PyData.str) = 0
  | [] => rfl
  | n :: r => by
    show max 0 (PyData.depthAll (r.map PyData.str)) = 0
    rw [dep_strs r]; rfl
theorem shaped_strs {zs : List Str} (h : ∀ z ∈ zs, PyData.strOk z = true) : SeqAt.shaped (.list (zs.map PyData.str)) = true := by
  unfold SeqAt.shaped
  rw [Bool.and_eq_true]
  exact ⟨lay_strs zs h, decide_eq_true (by show PyData.depthAll (zs.map PyData.str) + 1 ≤ 64; rw [dep_strs]; decide)⟩
theorem core_head {sy : Str} {ms : NV} {ws : List Str} (h : Core sy ms ws) : ∃ x r, ws = x :: r ∧ x ≠ ("not" : Str) ∧ PyData.strOk x = true := by
  cases h with
  | at_ x _ _ => exact ⟨_, _, rfl, by decide +kernel, by decide +kernel⟩
  | eq c i v most _ _ _ h1 h2 => exact ⟨_, _, rfl, h1, h2⟩
theorem take1 (x : Str) (r : List Str) : cutV ((x :: r).map V.str) none (some 1) = ([x] : List Str).map V.str := by
  unfold cutV
  rw [HT.sIx_none, show HT.sIx ((x :: r).map V.str).length ((x :: r).map V.str).length (some 1) = min 1 ((x :: r).map V.str).length from HT.sIx_nat _ _ 1]
  rw [List.length_map, List.length_cons, Nat.min_eq_left (by omega)]
  rfl
theorem drop1 (x : Str) (r : List Str) : cutV ((x :: r).map V.str) (some 1) none = r.map V.str := by
  unfold cutV
  rw [HT.sIx_none, show HT.sIx ((x :: r).map V.str).length 0 (some 1) = min 1 ((x :: r).map V.str).length from HT.sIx_nat _ _ 1]
  rw [List.length_map, List.length_cons, Nat.min_eq_left (by omega), List.map_cons, List.drop_succ_cons, List.drop_zero]
  exact List.take_of_length_le (by rw [List.length_map]; omega)
section
variable {P : Program} {w : World} {K : PySem.W.Frag} {mg : Str → Option Value} {base : Heap}
theorem ok_condition_by {f C : Addr} {fd : FuncData} (F : Fun K "condition_by" "Parser.condition_by" s_Parser_condition_by f fd) (T : Bare mg) (TP : PTxt K C) (CO : Callee P w K mg base 1 "is_in_order" ["word", "order"] spOrder)
    (MS : Meter P w K mg base C 1 "setting_by" ["self", "words"] (spSetting K C)) : FnOk P w K mg base CX0 2 f fd ["self", "words"] (spCond K C) := by
  refine F.ok sc_Parser_condition_by (fun vs H Q E h => ?_) (fun cdv A outer st H vs Q E hr h => ?_)
  · obtain ⟨p, l, m, s, t, a, n, sy, fi, ms, ss, ws, rfl, _⟩ := h
    rfl
  obtain ⟨p, l, m, s, t, a, n, sy, fi, ms, ss, ws, rfl, I, hS, hc, hsy, q⟩ := h
  -- behind the first two rows
  have rest : ∃ tt, PSs (cxOf CX0 P w K mg base sc_Parser_condition_byN "Parser.condition_by" (defScope s_Parser_condition_by) f cdv A outer st H E).nox ((defBody s_Parser_condition_by).drop 2) tt ∧
      ∀ (H2 : Hp) (a2 : Addr) (b : Bool) (cr : List Str), Same H H2 → SqL K H2 a2 (cr.map V.str) → Core sy ms cr → tt { nx := fun _ H' => Q .non H', rt := Q } [some (.ref p), some (.ref a2), some (.bl b), none] H2 := by
    refine ⟨_, (pss_cons (ps_if (PW.pt (pw_and (pt_cmpR op_eq (pe_callB call_len_seq (by rfl) T.len PySem.boot_len (pa_cons (pv 1) pa_nil)) pe_int (nomark _)) (pw_and (pt_cmpR op_eq (pe_ix ix_list (pv 1) pe_int (fun _ _ => rfl)) pe_str (nomark _)) (pw_and1 (pt_val (pe_call CO.ok (hr.mono (by decide)) rfl CO.mg CO.kp CO.b .nil pass0 (pa_cons (pe_ix ix_list (pv 1) pe_int (fun _ _ => rfl)) (pa_cons (pe_joined (.cons pe_str (.cons (pe_fmt (pe_fld (pv 0) rfl)) (.cons pe_str .nil)))) pa_nil))))))))
(pss_one (ps_ret (pe_tup (pa_cons (pv 2) (pa_cons (pe_ix ix_list (pv 1) pe_int (fun _ _ => rfl)) (pa_cons (pe_tup (pa_cons pe_int (pa_cons pe_int pa_nil))) pa_nil))))))
pss_nil)
(pss_cons (ps_if (PW.pt (pw_or (pt_cmpR op_ne (pe_callB call_len_seq (by rfl) T.len PySem.boot_len (pa_cons (pv 1) pa_nil)) pe_int (nomark _)) (pw_or1 (pt_cmpR op_ne (pe_ix ix_list (pv 1) pe_int (fun _ _ => rfl)) pe_str (nomark _)))))
(pss_one (ps_ret pe_non))
pss_nil)
(pss_cons (ps_set (i := 3) sc_Parser_condition_by.nd rfl (Or.inl rfl) (pe_meth (pv 0) TP.cl MS.m MS.ok (hr.mono (by decide)) MS.b .nil pass0 (pa_cons (pe_lst (pa_cons (pe_ix ix_list (pv 1) pe_int (fun _ _ => rfl)) (pa_cons (pe_ix ix_list (pv 1) pe_int (fun _ _ => rfl)) pa_nil))) pa_nil)))
(pss_one (ps_ret (pe_ifExp (pt_cmpR op_isN (pv 3) pe_non (nomark _)) pe_non (pe_tup (pa_cons (pv 2) (pa_cons pe_str (pa_cons (pv 3) pa_nil)))))))))), ?_⟩
    intro H2 a2 b cr s2 hS2 hcore
    have I2 := I.same s2
    obtain ⟨⟨dx, hp⟩, mo, hst, nm, ns⟩ := id I2
    cases hcore with
    | at_ x hx hO =>
      refine ⟨_, rfl, a2, _, rfl, .inl hS2, rfl, _, rfl, iteT ?_⟩
      refine ⟨_, rfl, a2, _, 0, _, rfl, rfl, hS2, rfl, rfl, _, rfl, iteT ?_⟩
      have l0 : (Str.empty ++ ("<" : Str)).length = 1 := by decide +kernel
      have l1 : ((Str.empty ++ ("<" : Str)) ++ sy).length ≤ 11 := by rw [len_app, l0]; omega
      have l2 : (((Str.empty ++ ("<" : Str)) ++ sy) ++ (">" : Str)).length ≤ 12 := by
        have e : (">" : Str).length = 1 := by decide +kernel
        rw [len_app, e]; omega
      refine ⟨_, rfl, a2, _, 1, _, rfl, rfl, hS2, rfl, _, rfl, small (by rw [l0]; decide), _, rfl, p, C, dx, _, _, rfl, hp, TP.cl, TP.nSymbols, pf_symbols, .inl ⟨sy, rfl, small (by omega), sy, rfl, small (by omega), _, rfl, small (by omega), ?_⟩⟩
      refine ⟨x, _, rfl, hx, hO, fun H3 s3 => ⟨true, rfl, iteT ?_⟩⟩
      refine ⟨_, rfl, _, rfl, a2, _, 1, _, rfl, rfl, s3.seq hS2, rfl, small (by show 2 ≤ 1000; decide), fun T0 h0 => ⟨small (by show 3 ≤ 1000; decide), fun B hB => ?_⟩⟩
      exact q B _ (((s2.trans s3).trans (same_new h0 _)).trans (same_new hB _))
    | eq c i v most hm hv h2 hn hok =>
      refine ⟨_, rfl, a2, _, rfl, .inl hS2, rfl, _, rfl, iteF ?_⟩
      refine ⟨_, rfl, a2, _, rfl, .inl hS2, rfl, _, rfl, iteF ?_⟩
      refine ⟨_, rfl, a2, _, 1, _, rfl, rfl, hS2, rfl, rfl, _, rfl, iteF ?_⟩
      refine ⟨_, rfl, p, dx, _, rfl, hp, (by kernel_rfl), _, rfl, a2, _, 0, _, rfl, rfl, hS2, rfl, _, rfl, a2, _, 2, _, rfl, rfl, hS2, rfl, small (by show 2 ≤ 1000; decide), fun L hL => ?_⟩
      have s3 := same_new hL (.lst [.str c, .str (numS v)])
      refine ⟨p, l, m, s, t, L, n, sy, fi, ms, ss, c, i, v, most, rfl, I2.same s3, .inl (.inl upd_same), hm, hv, h2, fun B H4 s4 hB hT => ?_⟩
      refine ⟨_, rfl, rfl, _, rfl, iteF ?_⟩
      refine ⟨_, rfl, _, rfl, small (by show 3 ≤ 1000; decide), fun B2 hB2 => ?_⟩
      exact q B2 _ (((s2.trans s3).trans s4).trans (same_new hB2 _))
  obtain ⟨tt, ht, hrest⟩ := rest
  refine ⟨_, (pss_cons (ps_set (i := 2) sc_Parser_condition_by.nd rfl (Or.inl rfl) (pe_cmpR (op_neD hr.units) (pe_slice sl_list (pv 1) po_none (po_some pe_int)) (pe_lst (pa_cons pe_str pa_nil)) (nomark _)))
(pss_cons (ps_set (i := 1) sc_Parser_condition_by.nd rfl (Or.inl rfl) (pe_ifExp (pt_val (pv 2)) (pv 1) (pe_slice sl_list (pv 1) (po_some pe_int) po_none))) ht)), ?_⟩
  have okN : PyData.strOk ("not" : Str) = true := by decide +kernel
  have hd : ∃ x r, ws = x :: r ∧ PyData.strOk x = true := by
    rcases hc with h | ⟨r, rfl, h⟩
    · obtain ⟨x, r, e, _, o⟩ := core_head h
      exact ⟨x, r, e, o⟩
    · exact ⟨_, r, rfl, okN⟩
  obtain ⟨x, r, rfl, ox⟩ := hd
  refine ⟨_, rfl, 1, rfl, a, _, rfl, hS, fun A1 hA1 => ?_⟩
  rw [take1]
  have s1 := same_new hA1 (.lst (([x] : List Str).map V.str))
  refine ⟨small (by show 1 ≤ 1000; decide), fun A2 hA2 => ?_⟩
  have s2 := same_new hA2 (.lst [.str "not"])
  refine ⟨.list (([x] : List Str).map .str), .list (([("not" : Str)] : List Str).map .str), .lst (.inl (.inl (s2 _ _ upd_same))) (dp_strs _), .lst (.inl (.inl upd_same)) (dp_strs [("not" : Str)]), shaped_strs (by simpa using ox), shaped_strs (by simpa using okN), ?_⟩
  have ev : PyData.eqv (.list (([x] : List Str).map .str)) (.list (([("not" : Str)] : List Str).map .str)) = decide (([x] : List Str) = [("not" : Str)]) := eqv_strs _ _
  rw [ev]
  have s12 := s1.trans s2
  rcases hc with h | ⟨r', e, h⟩
  · obtain ⟨x', r', e, hne, _⟩ := core_head h
    have e1 : x = x' := (List.cons.inj e).1
    have hf : decide (([x] : List Str) = [("not" : Str)]) = false := decide_eq_false fun z => hne (by rw [← e1]; exact (List.cons.inj z).1)
    rw [hf]
    refine ⟨_, rfl, _, rfl, iteT ?_⟩
    exact ⟨_, rfl, hrest _ a _ _ s12 (s12.seq hS) h⟩
  · have e1 : x = "not" := (List.cons.inj e).1
    have e2 : r = r' := (List.cons.inj e).2
    subst e1
    subst e2
    rw [decide_eq_true rfl]
    refine ⟨_, rfl, _, rfl, iteF ?_⟩
    refine ⟨_, rfl, 1, rfl, a, _, rfl, s12.seq hS, fun A3 hA3 => ?_⟩
    rw [drop1]
    exact hrest _ A3 _ _ (s12.trans (same_new hA3 _)) (.inl (.inl upd_same)) h
end
end Fg
set_option Elab.async false
set_option linter.all false
set_option maxRecDepth 100000
set_option maxHeartbeats 2000000
namespace Fg
open PySem PySem.Spec PyProof.Rows L2 TL
theorem pt_weak {X : Cx} {e : Expr} {t t' : TT} (h : PT X e t) (i : ∀ σ H Q, t' σ H Q → t σ H Q) : PT X e t' := ⟨fun pins s σ H Q I q => h.run pins s σ H Q I (i _ _ _ q)⟩
/-- x in a tuple of data -/
def rInDT (K : PySem.W.Frag) : R2 := fun x y H Q => ∃ d ds, Dp K H x d ∧ Dp K H y (.tuple ds) ∧ SeqAt.shaped d = true ∧ SeqAt.shaped (.tuple ds) = true ∧ Q (.bl (ds.any fun z => PyData.eqv z d)) H
theorem op_inDT {X : Cx} (hu : X.A.units + 65 < cLine) : OpR X (compareOp .In) (rInDT X.K) := by
  intro pins s σ H x y v u Q I rx ry h
  obtain ⟨d, ds, h1, h2, h3, h4, q⟩ := h
  obtain ⟨as, r1⟩ := Dp.reads I d x v h1 rx
  obtain ⟨bs, r2⟩ := Dp.reads I (.tuple ds) y u h2 ry
  have z := SeqAt.depth_of_shaped h3
  exact SeqAt.in_tuple_reads r2 r1 (SeqAt.canLay_of_shaped h4) (SeqAt.canLay_of_shaped h3) (Nat.lt_of_le_of_lt (by omega) hu) ⟨.bl _, H, I, rfl, q⟩
section
variable {X : Cx} {i : Nat} {e : Expr} {lit lit2 : Str} {k : Nat} {p1 p2 p3 p4 p5 p6 p7 : Pos} {o1 o2 o3 : Nat}
/-- name == ["lit"], the name a list of one text -/
def tWord (K : PySem.W.Frag) (i : Nat) (lit : Str) : TT := fun σ H Q => ∃ (a : Addr) (x : Str), σ[i]? = some (some (.ref a)) ∧ SqL K H a [.str x] ∧ PyData.strOk x = true ∧ PyData.strOk lit = true ∧ ∀ H', Same H H' → Q (decide (x = lit)) H'
theorem one_str {x y : Str} : decide (([x] : List Str) = [y]) = decide (x = y) := by
  by_cases e : x = y
  · subst e; simp
  · rw [decide_eq_false e, decide_eq_false fun z => e (List.cons.inj z).1]
theorem pt_word (hu : X.A.units + 64 < cLine) (hn : PE X e (tVar i)) : PT X (.Compare e [.Eq] [.List [.Constant (.str lit) o1 p2] p3] p4) (tWord X.K i lit) := by
  refine pt_weak (pt_cmpR (op_eqD hu) hn (pe_lst (pa_cons pe_str pa_nil)) (nomark _)) fun σ H Q h => ?_
  obtain ⟨a, x, h1, h2, h3, h4, q⟩ := h
  refine ⟨_, h1, small (by show 1 ≤ 1000; decide), fun A hA => ?_⟩
  have s1 := same_new hA (.lst [.str lit])
  refine ⟨.list (([x] : List Str).map .str), .list (([lit] : List Str).map .str), .lst (s1.seq h2) (dp_strs [x]), .lst (.inl (.inl upd_same)) (dp_strs [lit]), shaped_strs (by simpa using h3), shaped_strs (by simpa using h4), ?_⟩
  refine ⟨_, (congrArg V.bl (Eq.trans (eqv_strs [x] [lit]) one_str)), ?_⟩
  exact q _ s1
def tWord2 (K : PySem.W.Frag) (i : Nat) (l1 l2 : Str) : TT := fun σ H Q => ∃ (a : Addr) (x : Str), σ[i]? = some (some (.ref a)) ∧ SqL K H a [.str x] ∧ PyData.strOk x = true ∧ PyData.strOk l1 = true ∧ PyData.strOk l2 = true ∧ ∀ H', Same H H' → Q (decide (x = l1) || decide (x = l2)) H'
theorem two_any (x l1 l2 : Str) : ([PyData.list ([l1].map .str), .list ([l2].map .str)]).any (fun z => PyData.eqv z (.list ([x].map .str))) = (decide (x = l1) || decide (x = l2)) := by
  have h : ∀ l : Str, PyData.eqv (.list ([l].map .str)) (.list ([x].map .str)) = decide (x = l) := fun l => by
    refine Eq.trans (eqv_strs [l] [x]) (Eq.trans one_str ?_)
    by_cases e : x = l
    · subst e; rfl
    · rw [decide_eq_false e, decide_eq_false fun z => e z.symm]
  rw [List.any_cons, List.any_cons, List.any_nil, Bool.or_false, h, h]
theorem pt_word2 (hu : X.A.units + 65 < cLine) (hn : PE X e (tVar i)) : PT X (.Compare e [.In] [.Tuple [.List [.Constant (.str lit) o1 p1] p2, .List [.Constant (.str lit2) o2 p3] p4] k p5] p6) (tWord2 X.K i lit lit2) := by
  refine pt_weak (pt_cmpR (op_inDT hu) hn (pe_tup (pa_cons (pe_lst (pa_cons pe_str pa_nil)) (pa_cons (pe_lst (pa_cons pe_str pa_nil)) pa_nil))) (by rfl)) fun σ H Q h => ?_
  obtain ⟨a, x, h1, h2, h3, h4, h5, q⟩ := h
  refine ⟨_, h1, small (by show 1 ≤ 1000; decide), fun A hA => ⟨small (by show 1 ≤ 1000; decide), fun B hB => ⟨small (by show 2 ≤ 1000; decide), fun C hC => ?_⟩⟩⟩
  have s1 := same_new hA (.lst [.str lit])
  have s2 := same_new hB (.lst [.str lit2])
  have s3 := same_new hC (.tup [.ref A, .ref B])
  refine ⟨.list (([x] : List Str).map .str), [.list (([lit] : List Str).map .str), .list (([lit2] : List Str).map .str)], .lst (((s1.trans s2).trans s3).seq h2) (dp_strs [x]),
    .tup (.inl (.inl upd_same)) (.cons (.lst (.inl (.inl ((s2.trans s3) _ _ upd_same))) (dp_strs [lit])) (.cons (.lst (.inl (.inl (s3 _ _ upd_same))) (dp_strs [lit2])) .nil)), shaped_strs (by simpa using h3), ?_, ?_⟩
  · unfold SeqAt.shaped
    rw [Bool.and_eq_true]
    refine ⟨?_, decide_eq_true (by show max (PyData.depthAll ([lit].map PyData.str) + 1) (max (PyData.depthAll ([lit2].map PyData.str) + 1) 0) + 1 ≤ 64; rw [dep_strs, dep_strs]; decide)⟩
    show (PyData.canLayAll0 ([lit].map PyData.str) && (PyData.canLayAll0 ([lit2].map PyData.str) && true)) = true
    rw [lay_strs [lit] (by simpa using h4), lay_strs [lit2] (by simpa using h5)]
    rfl
  · exact ⟨_, congrArg V.bl (two_any x lit lit2), q _ ((s1.trans s2).trans s3)⟩
end
/-! ### given_by -/
inductive Giv (sy : Str) (ms ss : NV) : List Str → Prop where
  | set (c : Str) (i v most : Nat) : ms[i]? = some (c, most) → v ≤ most → most ≤ 2 → Giv sy ms ss ["set", c, numS v]
  | add (c : Str) (i v most : Nat) : ms[i]? = some (c, most) → 1 ≤ v → v ≤ 2 → Giv sy ms ss ["add", c, numS v]
  | if_ (r : List Str) : CondOk sy ms r → Giv sy ms ss ("if" :: r)
  | while_ (r : List Str) : CondOk sy ms r → Giv sy ms ss ("while" :: r)
  | write (z : Str) : z.length = 1 → ofLetters z = true → Giv sy ms ss ["write", z]
  | do_ (x : Str) (i n : Nat) : ss[i]? = some (x, n) → Giv sy ms ss ["do", x]
  | right : Giv sy ms ss ["right"]
  | left : Giv sy ms ss ["left"]
  | copy : Giv sy ms ss ["copy"]
  | stop : Giv sy ms ss ["stop"]
def GvOk (x : Str) (r : List Str) (g : V) : Prop := g ≠ .non ∧ (x = "write" → ∃ z : Str, g = .str z ∧ r = [z])
abbrev s_Parser_given_by : Stmt := inClass (top 20) 10
abbrev sc_Parser_given_byN : List Str := ["self", "words", "word", "rest"]
theorem sc_Parser_given_by : FnScope sc_Parser_given_byN ["self", "words"] (defScope s_Parser_given_by) := ⟨rfl, rfl, rfl, by decide +kernel, rfl, by decide +kernel, by decide +kernel⟩
def spGiven (K : PySem.W.Frag) (C : Addr) : Sp := fun vs H Q _ => ∃ (p l m s t a : Addr) (n : Int) (sy : Str) (fi : Int) (ms ss : NV) (x : Str) (r : List Str), vs = [.ref p, .ref a] ∧ PIn C H p l m s t n sy fi ms ss ∧ SqL K H a ((x :: r).map V.str) ∧
  Giv sy ms ss (x :: r) ∧ sy.length ≤ 10 ∧ ∀ (g : V) (H' : Hp), Same H H' → GvOk x r g → Q g H'
theorem giv_ok {sy : Str} {ms ss : NV} {x : Str} {r : List Str} (h : Giv sy ms ss (x :: r)) : PyData.strOk x = true := by
  cases h <;> decide +kernel
section
variable {P : Program} {w : World} {K : PySem.W.Frag} {mg : Str → Option Value} {base : Heap}
theorem ok_given_by {f C : Addr} {fd : FuncData} (F : Fun K "given_by" "Parser.given_by" s_Parser_given_by f fd) (T : Bare mg) (T2 : Consts2 K mg) (TP : PTxt K C) (CL : Callee P w K mg base 1 "is_of_letters" ["word"] (spText1 ofLetters))
    (MS : Meter P w K mg base C 1 "setting_by" ["self", "words"] (spSetting K C)) (MA : Meter P w K mg base C 1 "sum_by" ["self", "words"] (spSum K C)) (MC : Meter P w K mg base C 2 "condition_by" ["self", "words"] (spCond K C)) : FnOk P w K mg base CX0 3 f fd ["self", "words"] (spGiven K C) := by
  refine F.ok sc_Parser_given_by (fun vs H Q E h => ?_) (fun cdv A outer st H vs Q E hr h => ?_)
  · obtain ⟨p, l, m, s, t, a, n, sy, fi, ms, ss, x, r, rfl, _⟩ := h
    rfl
  obtain ⟨p, l, m, s, t, a, n, sy, fi, ms, ss, x, r, rfl, I, hS, hg, hsy, q⟩ := h
  have hu := hu_of hr
  have hu65 : A.units + 3 + 65 < cLine := by
    have := hr.un
    have e : (A.deeper (envOfC "Parser.given_by" (defScope s_Parser_given_by) st.heap.objs.size f cdv)).units = A.units + 3 := rfl
    rw [e] at this
    omega
  obtain ⟨aB, gB, sB⟩ := T2.bare
  have ox := giv_ok hg
  refine ⟨_, (pss_cons (ps_par (i := 2) (j := 3) (by rfl) sc_Parser_given_by.nd rfl rfl (by decide) rfl rfl (pa_cons (pe_slice sl_list (pv 1) po_none (po_some pe_int)) (pa_cons (pe_slice sl_list (pv 1) (po_some pe_int) po_none) pa_nil)) (by rfl))
(pss_cons (ps_if (pt_word hr.units (pv 2))
(pss_one (ps_ret (pe_meth (pv 0) TP.cl MS.m MS.ok (hr.mono (by decide)) MS.b .nil pass0 (pa_cons (pv 3) pa_nil))))
pss_nil)
(pss_cons (ps_if (pt_word hr.units (pv 2))
(pss_one (ps_ret (pe_meth (pv 0) TP.cl MA.m MA.ok (hr.mono (by decide)) MA.b .nil pass0 (pa_cons (pv 3) pa_nil))))
pss_nil)
(pss_cons (ps_if (pt_word2 hu65 (pv 2))
(pss_one (ps_ret (pe_meth (pv 0) TP.cl MC.m MC.ok (hr.mono (by decide)) MC.b .nil pass0 (pa_cons (pv 3) pa_nil))))
pss_nil)
(pss_cons (ps_if (PW.pt (pw_and (pt_word hr.units (pv 2)) (pw_and1 (pt_cmpR op_eq (pe_callB call_len_seq (by rfl) T.len PySem.boot_len (pa_cons (pv 3) pa_nil)) pe_int (nomark _)))))
(pss_one (ps_ret (pe_ifExp (PW.pt (pw_and (pt_cmpR op_eq (pe_callB call_len_str (by rfl) T.len PySem.boot_len (pa_cons (pe_ix ix_list (pv 3) pe_int (fun _ _ => rfl)) pa_nil)) pe_int (nomark _)) (pw_and1 (pt_val (pe_call CL.ok (hr.mono (by decide)) rfl CL.mg CL.kp CL.b .nil pass0 (pa_cons (pe_ix ix_list (pv 3) pe_int (fun _ _ => rfl)) pa_nil)))))) (pe_ix ix_list (pv 3) pe_int (fun _ _ => rfl)) pe_non)))
pss_nil)
(pss_cons (ps_if (PW.pt (pw_and (pt_word hr.units (pv 2)) (pw_and1 (pt_cmpR op_eq (pe_callB call_len_seq (by rfl) T.len PySem.boot_len (pa_cons (pv 3) pa_nil)) pe_int (nomark _)))))
(pss_one (ps_ret (pe_dget1 hu (pe_fld (pv 0) rfl) (pe_ix ix_list (pv 3) pe_int (fun _ _ => rfl)) ⟨rfl, rfl, rfl, rfl⟩)))
pss_nil)
(pss_one (ps_ret (pe_ifExp (PW.pt (pw_and (pt_cmpR op_eq (pe_callB call_len_seq (by rfl) T.len PySem.boot_len (pa_cons (pv 1) pa_nil)) pe_int (nomark _)) (pw_and1 (pt_cmpR op_in_seq (pe_ix ix_list (pv 1) pe_int (fun _ _ => rfl)) (pe_glob (v := .ref aB) rfl gB rfl) (by rfl))))) pe_str pe_non))))))))), ?_⟩
  refine ⟨_, rfl, 1, rfl, a, _, rfl, hS, fun A1 hA1 => ?_⟩
  rw [take1]
  have s1 := same_new hA1 (.lst (([x] : List Str).map V.str))
  refine ⟨_, rfl, 1, rfl, a, _, rfl, s1.seq hS, fun A2 hA2 => ?_⟩
  rw [drop1]
  have s2 := same_new hA2 (.lst (r.map V.str))
  have s12 := s1.trans s2
  refine ⟨_, _, rfl, ?_⟩
  have hW : SqL K (upd (upd H A1 (.lst (([x] : List Str).map V.str))) A2 (.lst (r.map V.str))) A1 [.str x] := .inl (.inl (s2 _ _ upd_same))
  have hR : SqL K (upd (upd H A1 (.lst (([x] : List Str).map V.str))) A2 (.lst (r.map V.str))) A2 (r.map V.str) := .inl (.inl upd_same)
  generalize upd (upd H A1 (.lst (([x] : List Str).map V.str))) A2 (.lst (r.map V.str)) = H0 at s12 hW hR ⊢
  -- set?
  have ne : ∀ {u v : Str}, (decide (u = v)) = false → u ≠ v := fun h z => by rw [decide_eq_true z] at h; cases h
  refine ⟨A1, x, rfl, hW, ox, by decide +kernel, fun H1 t1 => ?_⟩
  cases hg with
  | set c i v most h1 h2 h3 =>
    refine iteT ?_
    have I1 := I.same (s12.trans t1)
    obtain ⟨⟨dx, hp⟩, _⟩ := id I1
    refine ⟨_, rfl, p, dx, _, rfl, hp, (by kernel_rfl), _, rfl, p, l, m, s, t, A2, n, sy, fi, ms, ss, c, i, v, most, rfl, I1, t1.seq hR, h1, h2, h3, fun B H4 s4 hB hT => ?_⟩
    exact q _ _ ((s12.trans t1).trans s4) ⟨(by intro z; cases z), fun z => absurd z (by decide +kernel)⟩
  | add c i v most h1 h2 h3 =>
    refine iteF ?_
    refine ⟨A1, _, rfl, t1.seq hW, by decide +kernel, by decide +kernel, fun H2 t2 => iteT ?_⟩
    have T2' := t1.trans t2
    have I1 := I.same (s12.trans T2')
    obtain ⟨⟨dx, hp⟩, _⟩ := id I1
    refine ⟨_, rfl, p, dx, _, rfl, hp, (by kernel_rfl), _, rfl, p, l, m, s, t, A2, n, sy, fi, ms, ss, c, i, v, most, rfl, I1, T2'.seq hR, h1, h2, h3, fun B H4 s4 hB hT => ?_⟩
    exact q _ _ ((s12.trans T2').trans s4) ⟨(by intro z; cases z), fun z => absurd z (by decide +kernel)⟩
  | if_ r hc =>
    refine iteF ?_
    refine ⟨A1, _, rfl, t1.seq hW, by decide +kernel, by decide +kernel, fun H2 t2 => iteF ?_⟩
    refine ⟨A1, _, rfl, (t1.trans t2).seq hW, by decide +kernel, by decide +kernel, by decide +kernel, fun H3 t3 => iteT ?_⟩
    have T2' := (t1.trans t2).trans t3
    have I1 := I.same (s12.trans T2')
    obtain ⟨⟨dx, hp⟩, _⟩ := id I1
    refine ⟨_, rfl, p, dx, _, rfl, hp, (by kernel_rfl), _, rfl, p, l, m, s, t, A2, n, sy, fi, ms, ss, r, rfl, I1, T2'.seq hR, hc, hsy, fun B H4 s4 => ?_⟩
    exact q _ _ ((s12.trans T2').trans s4) ⟨(by intro z; cases z), fun z => absurd z (by decide +kernel)⟩
  | while_ r hc =>
    refine iteF ?_
    refine ⟨A1, _, rfl, t1.seq hW, by decide +kernel, by decide +kernel, fun H2 t2 => iteF ?_⟩
    refine ⟨A1, _, rfl, (t1.trans t2).seq hW, by decide +kernel, by decide +kernel, by decide +kernel, fun H3 t3 => iteT ?_⟩
    have T2' := (t1.trans t2).trans t3
    have I1 := I.same (s12.trans T2')
    obtain ⟨⟨dx, hp⟩, _⟩ := id I1
    refine ⟨_, rfl, p, dx, _, rfl, hp, (by kernel_rfl), _, rfl, p, l, m, s, t, A2, n, sy, fi, ms, ss, r, rfl, I1, T2'.seq hR, hc, hsy, fun B H4 s4 => ?_⟩
    exact q _ _ ((s12.trans T2').trans s4) ⟨(by intro z; cases z), fun z => absurd z (by decide +kernel)⟩
  | write z hz hl =>
    refine iteF ?_
    refine ⟨A1, _, rfl, t1.seq hW, by decide +kernel, by decide +kernel, fun H2 t2 => iteF ?_⟩
    refine ⟨A1, _, rfl, (t1.trans t2).seq hW, by decide +kernel, by decide +kernel, by decide +kernel, fun H3 t3 => iteF ?_⟩
    have T3 := (t1.trans t2).trans t3
    refine ⟨A1, _, rfl, T3.seq hW, by decide +kernel, by decide +kernel, fun H4 t4 => iteT ?_⟩
    have T4 := T3.trans t4
    refine ⟨_, rfl, A2, _, rfl, .inl (T4.seq hR), rfl, _, rfl, iteT ?_⟩
    refine ⟨_, rfl, A2, _, 0, _, rfl, rfl, T4.seq hR, rfl, _, rfl, small (by omega), rfl, _, rfl, ?_⟩
    have e1 : decide (V.int ((z.length : Nat) : Int) = V.int 1) = true := decide_eq_true (by rw [hz]; rfl)
    rw [e1]
    refine iteT ?_
    refine ⟨_, rfl, A2, _, 0, _, rfl, rfl, T4.seq hR, rfl, z, rfl, by omega, fun H5 t5 => ?_⟩
    rw [hl]
    refine ⟨true, rfl, iteT ?_⟩
    refine ⟨_, rfl, A2, _, 0, _, rfl, rfl, (T4.trans t5).seq hR, rfl, ?_⟩
    exact q _ _ ((s12.trans T4).trans t5) ⟨(by intro z; cases z), fun _ => ⟨z, rfl, rfl⟩⟩
  | do_ y i ln hy =>
    refine iteF ?_
    refine ⟨A1, _, rfl, t1.seq hW, by decide +kernel, by decide +kernel, fun H2 t2 => iteF ?_⟩
    refine ⟨A1, _, rfl, (t1.trans t2).seq hW, by decide +kernel, by decide +kernel, by decide +kernel, fun H3 t3 => iteF ?_⟩
    have T3 := (t1.trans t2).trans t3
    refine ⟨A1, _, rfl, T3.seq hW, by decide +kernel, by decide +kernel, fun H4 t4 => iteF (iteF ?_)⟩
    have T4 := T3.trans t4
    refine ⟨A1, _, rfl, T4.seq hW, by decide +kernel, by decide +kernel, fun H5 t5 => iteT ?_⟩
    have T5 := T4.trans t5
    refine ⟨_, rfl, A2, _, rfl, .inl (T5.seq hR), rfl, _, rfl, iteT ?_⟩
    obtain ⟨⟨dx, hp⟩, mo, hst, nm, ns⟩ := I.same (s12.trans T5)
    refine ⟨_, rfl, p, C, dx, _, _, rfl, hp, TP.cl, TP.nStarts, pf_starts, s, rfl, ?_, _, rfl, A2, _, 0, _, rfl, rfl, T5.seq hR, rfl, some (.int (ln : Int)), .inl ⟨_, Sum.inr y, .inl hst, rfl, (valV_kvS ns hy).symm⟩, ?_⟩
    · exact .inl ⟨_, .inl hst⟩
    · exact q _ _ (s12.trans T5) ⟨(by intro z; cases z), fun z => absurd z (by decide +kernel)⟩
  | right =>
    refine iteF ?_
    refine ⟨A1, _, rfl, t1.seq hW, by decide +kernel, by decide +kernel, fun H2 t2 => iteF ?_⟩
    refine ⟨A1, _, rfl, (t1.trans t2).seq hW, by decide +kernel, by decide +kernel, by decide +kernel, fun H3 t3 => iteF ?_⟩
    have T3 := (t1.trans t2).trans t3
    refine ⟨A1, _, rfl, T3.seq hW, by decide +kernel, by decide +kernel, fun H4 t4 => iteF (iteF ?_)⟩
    have T4 := T3.trans t4
    refine ⟨A1, _, rfl, T4.seq hW, by decide +kernel, by decide +kernel, fun H5 t5 => iteF (iteF ?_)⟩
    have T5 := s12.trans (T4.trans t5)
    refine ⟨_, rfl, a, _, rfl, .inl (T5.seq hS), rfl, _, rfl, iteT ?_⟩
    refine ⟨_, rfl, a, _, 0, _, rfl, rfl, T5.seq hS, rfl, aB, _, rfl, .inr (sB _), rfl, rfl, _, rfl, ?_⟩
    refine iteT ?_
    exact q _ _ T5 ⟨(by intro z; cases z), fun z => absurd z (by decide +kernel)⟩
  | left =>
    refine iteF ?_
    refine ⟨A1, _, rfl, t1.seq hW, by decide +kernel, by decide +kernel, fun H2 t2 => iteF ?_⟩
    refine ⟨A1, _, rfl, (t1.trans t2).seq hW, by decide +kernel, by decide +kernel, by decide +kernel, fun H3 t3 => iteF ?_⟩
    have T3 := (t1.trans t2).trans t3
    refine ⟨A1, _, rfl, T3.seq hW, by decide +kernel, by decide +kernel, fun H4 t4 => iteF (iteF ?_)⟩
    have T4 := T3.trans t4
    refine ⟨A1, _, rfl, T4.seq hW, by decide +kernel, by decide +kernel, fun H5 t5 => iteF (iteF ?_)⟩
    have T5 := s12.trans (T4.trans t5)
    refine ⟨_, rfl, a, _, rfl, .inl (T5.seq hS), rfl, _, rfl, iteT ?_⟩
    refine ⟨_, rfl, a, _, 0, _, rfl, rfl, T5.seq hS, rfl, aB, _, rfl, .inr (sB _), rfl, rfl, _, rfl, ?_⟩
    refine iteT ?_
    exact q _ _ T5 ⟨(by intro z; cases z), fun z => absurd z (by decide +kernel)⟩
  | copy =>
    refine iteF ?_
    refine ⟨A1, _, rfl, t1.seq hW, by decide +kernel, by decide +kernel, fun H2 t2 => iteF ?_⟩
    refine ⟨A1, _, rfl, (t1.trans t2).seq hW, by decide +kernel, by decide +kernel, by decide +kernel, fun H3 t3 => iteF ?_⟩
    have T3 := (t1.trans t2).trans t3
    refine ⟨A1, _, rfl, T3.seq hW, by decide +kernel, by decide +kernel, fun H4 t4 => iteF (iteF ?_)⟩
    have T4 := T3.trans t4
    refine ⟨A1, _, rfl, T4.seq hW, by decide +kernel, by decide +kernel, fun H5 t5 => iteF (iteF ?_)⟩
    have T5 := s12.trans (T4.trans t5)
    refine ⟨_, rfl, a, _, rfl, .inl (T5.seq hS), rfl, _, rfl, iteT ?_⟩
    refine ⟨_, rfl, a, _, 0, _, rfl, rfl, T5.seq hS, rfl, aB, _, rfl, .inr (sB _), rfl, rfl, _, rfl, ?_⟩
    refine iteT ?_
    exact q _ _ T5 ⟨(by intro z; cases z), fun z => absurd z (by decide +kernel)⟩
  | stop =>
    refine iteF ?_
    refine ⟨A1, _, rfl, t1.seq hW, by decide +kernel, by decide +kernel, fun H2 t2 => iteF ?_⟩
    refine ⟨A1, _, rfl, (t1.trans t2).seq hW, by decide +kernel, by decide +kernel, by decide +kernel, fun H3 t3 => iteF ?_⟩
    have T3 := (t1.trans t2).trans t3
    refine ⟨A1, _, rfl, T3.seq hW, by decide +kernel, by decide +kernel, fun H4 t4 => iteF (iteF ?_)⟩
    have T4 := T3.trans t4
    refine ⟨A1, _, rfl, T4.seq hW, by decide +kernel, by decide +kernel, fun H5 t5 => iteF (iteF ?_)⟩
    have T5 := s12.trans (T4.trans t5)
    refine ⟨_, rfl, a, _, rfl, .inl (T5.seq hS), rfl, _, rfl, iteT ?_⟩
    refine ⟨_, rfl, a, _, 0, _, rfl, rfl, T5.seq hS, rfl, aB, _, rfl, .inr (sB _), rfl, rfl, _, rfl, ?_⟩
    refine iteT ?_
    exact q _ _ T5 ⟨(by intro z; cases z), fun z => absurd z (by decide +kernel)⟩
end
end Fg
set_option Elab.async false
set_option linter.all false
set_option maxRecDepth 100000
set_option maxHeartbeats 2000000
namespace Fg
open PySem L2 TL
/-! ### statements as objects -/
def sf (ln : Int) (wd : Str) (g : V) (li lo : Addr) (fo : Int) : List (Str × V) :=
  [("line", .int ln), ("word", .str wd), ("given", g), ("inside", .ref li), ("otherwise", .ref lo), ("follow", .int fo)]
section
variable {ln fo : Int} {wd : Str} {g : V} {li lo : Addr}
theorem sf_line : (sf ln wd g li lo fo).lookup ("line" : Str) = some (V.int ln) := by kernel_rfl
theorem sf_word : (sf ln wd g li lo fo).lookup ("word" : Str) = some (V.str wd) := by kernel_rfl
theorem sf_given : (sf ln wd g li lo fo).lookup ("given" : Str) = some g := by kernel_rfl
theorem sf_inside : (sf ln wd g li lo fo).lookup ("inside" : Str) = some (V.ref li) := by kernel_rfl
theorem sf_otherwise : (sf ln wd g li lo fo).lookup ("otherwise" : Str) = some (V.ref lo) := by kernel_rfl
theorem sf_follow : (sf ln wd g li lo fo).lookup ("follow" : Str) = some (V.int fo) := by kernel_rfl
theorem put_inside {z : Addr} : putF "inside" (.ref z) (sf ln wd g li lo fo) = sf ln wd g z lo fo := by kernel_rfl
theorem put_otherwise {z : Addr} : putF "otherwise" (.ref z) (sf ln wd g li lo fo) = sf ln wd g li z fo := by kernel_rfl
theorem put_follow {k : Int} : putF "follow" (.int k) (sf ln wd g li lo fo) = sf ln wd g li lo k := by kernel_rfl
end
structure STxt (K : PySem.W.Frag) (C : Addr) : Prop where
  cl : Cls K C
  nLine : NoAttr K C "line"
  nWord : NoAttr K C "word"
  nGiven : NoAttr K C "given"
  nInside : NoAttr K C "inside"
  nOtherwise : NoAttr K C "otherwise"
  nFollow : NoAttr K C "follow"
abbrev s_Statement___init__ : Stmt := inClass (top 4) 0
abbrev sc_Statement___init__N : List Str := ["self", "line", "word", "given"]
theorem sc_Statement___init__ : FnScope sc_Statement___init__N ["self", "line", "word", "given"] (defScope s_Statement___init__) := ⟨rfl, rfl, rfl, by decide +kernel, rfl, by decide +kernel, by decide +kernel⟩
def spStInit (CS : Addr) : Sp := fun vs H Q _ => ∃ (a dx : Addr) (ln : Int) (wd : Str) (g : V), vs = [.ref a, .int ln, .str wd, g] ∧ H a = some (.ins CS dx []) ∧
  ∀ (li lo : Addr) (H' : Hp), H li = none → H lo = none → li ≠ lo → H' a = some (.ins CS dx (sf ln wd g li lo 0)) → H' li = some (.lst []) → H' lo = some (.lst []) → (∀ b o, H b = some o → b ≠ a → H' b = some o) → Q .non H'
section
variable {P : Program} {w : World} {K : PySem.W.Frag} {mg : Str → Option Value} {base : Heap}
theorem ok_st_init {f C : Addr} {fd : FuncData} (F : Fun K "__init__" "Statement.__init__" s_Statement___init__ f fd) (T : STxt K C) : FnOk P w K mg base CX0 1 f fd ["self", "line", "word", "given"] (spStInit C) := by
  refine F.ok sc_Statement___init__ (fun vs H Q E h => ?_) (fun cdv A outer st H vs Q E hr h => ?_)
  · obtain ⟨a, dx, ln, wd, g, rfl, _⟩ := h
    rfl
  obtain ⟨a, dx, ln, wd, g, rfl, ha, q⟩ := h
  refine ⟨_, (pss_cons (ps_fld (pv 0) (pv 1) rfl)
(pss_cons (ps_fld (pv 0) (pv 2) rfl)
(pss_cons (ps_fld (pv 0) (pv 3) rfl)
(pss_cons (ps_fld (pv 0) (pe_lst pa_nil) rfl)
(pss_cons (ps_fld (pv 0) (pe_lst pa_nil) rfl)
(pss_one (ps_fld (pv 0) pe_int rfl))))))), ?_⟩
  refine ⟨_, rfl, _, rfl, a, C, dx, _, rfl, ha, T.cl, T.nLine, (by show 0 < 1000; decide), ?_⟩
  refine ⟨_, rfl, _, rfl, a, C, dx, _, rfl, upd_same, T.cl, T.nWord, (by show 1 < 1000; decide), ?_⟩
  refine ⟨_, rfl, _, rfl, a, C, dx, _, rfl, upd_same, T.cl, T.nGiven, (by show 2 < 1000; decide), ?_⟩
  refine ⟨small (by show 0 ≤ 1000; decide), fun li hli => ?_⟩
  have n1 : a ≠ li := ne_of_none upd_same hli
  refine ⟨_, rfl, a, C, dx, _, rfl, (by rw [upd_ne n1]; exact upd_same), T.cl, T.nInside, (by show 3 < 1000; decide), ?_⟩
  refine ⟨small (by show 0 ≤ 1000; decide), fun lo hlo => ?_⟩
  have n2 : a ≠ lo := ne_of_none upd_same hlo
  refine ⟨_, rfl, a, C, dx, _, rfl, (by rw [upd_ne n2]; exact upd_same), T.cl, T.nOtherwise, (by show 4 < 1000; decide), ?_⟩
  refine ⟨_, rfl, a, C, dx, _, rfl, upd_same, T.cl, T.nFollow, (by show 5 < 1000; decide), ?_⟩
  have n3 : li ≠ lo := ne_of_none (by rw [upd_ne n1.symm]; exact upd_same) hlo
  refine q li lo _ ?_ ?_ n3 ?_ ?_ ?_ ?_
  · rw [upd_ne n1.symm, upd_ne n1.symm, upd_ne n1.symm] at hli
    exact hli
  · rw [upd_ne n2.symm, upd_ne n3.symm, upd_ne n2.symm, upd_ne n2.symm, upd_ne n2.symm] at hlo
    exact hlo
  · exact Eq.trans upd_same (congrArg (fun l => some (HO.ins C dx l)) (by kernel_rfl))
  · rw [upd_ne n1.symm, upd_ne n1.symm, upd_ne n3, upd_ne n1.symm]; exact upd_same
  · rw [upd_ne n2.symm, upd_ne n2.symm]; exact upd_same
  · intro b o hb nb
    rw [upd_ne nb, upd_ne nb]
    have hb1 : upd (upd (upd (upd (upd H a (.ins C dx (putF "line" (.int ln) []))) a (.ins C dx (putF "word" (.str wd) (putF "line" (.int ln) [])))) a (.ins C dx (putF "given" g (putF "word" (.str wd) (putF "line" (.int ln) []))))) li (.lst [])) a (.ins C dx (putF "inside" (.ref li) (putF "given" g (putF "word" (.str wd) (putF "line" (.int ln) []))))) b = some o := by
      rw [upd_ne nb]
      have hbl : (upd (upd (upd H a (.ins C dx (putF "line" (.int ln) []))) a (.ins C dx (putF "word" (.str wd) (putF "line" (.int ln) [])))) a (.ins C dx (putF "given" g (putF "word" (.str wd) (putF "line" (.int ln) []))))) b = some o := by
        rw [upd_ne nb, upd_ne nb, upd_ne nb]; exact hb
      rw [upd_ne (ne_of_none hbl hli)]
      exact hbl
    rw [upd_ne (ne_of_none hb1 hlo)]
    exact hb1
end
end Fg
set_option Elab.async false
set_option linter.all false
set_option maxRecDepth 100000
set_option maxHeartbeats 2000000
namespace Fg
open PySem L2 TL
/-- a tree of statements of at most this height; all of it new since G -/
def TOk (CS : Addr) (G : Addr → Prop) (H : Hp) : Nat → Addr → Prop
  | 0, _ => False
  | k + 1, a => G a ∧ ∃ (dx : Addr) (ln : Int) (wd : Str) (g : V) (li lo : Addr) (fo : Int) (xs ys : List Addr), H a = some (.ins CS dx (sf ln wd g li lo fo)) ∧ H li = some (.lst (xs.map V.ref)) ∧ H lo = some (.lst (ys.map V.ref)) ∧
      (xs.length ≤ 20 ∧ G li ∧ G lo) ∧ (ys.length ≤ 20 ∧ 0 ≤ ln) ∧ (∀ x ∈ xs, TOk CS G H k x) ∧ ∀ y ∈ ys, TOk CS G H k y
/-- nothing but what follows a statement is other -/
def Fol (CS : Addr) (H H' : Hp) : Prop := ∀ b o, H b = some o → H' b = some o ∨
  ∃ (dx : Addr) (ln : Int) (wd : Str) (g : V) (li lo : Addr) (fo fo' : Int), o = .ins CS dx (sf ln wd g li lo fo) ∧ H' b = some (.ins CS dx (sf ln wd g li lo fo'))
theorem Fol.of_same {CS : Addr} {H H' : Hp} (s : Same H H') : Fol CS H H' := fun b o h => .inl (s b o h)
theorem Fol.trans {CS : Addr} {H H1 H2 : Hp} (a : Fol CS H H1) (b : Fol CS H1 H2) : Fol CS H H2 := fun c o h => by
  rcases a c o h with h1 | ⟨dx, ln, wd, g, li, lo, fo, fo', e, h1⟩
  · exact b c o h1
  · rcases b c _ h1 with h2 | ⟨dx2, ln2, wd2, g2, li2, lo2, fo2, fo3, e2, h2⟩
    · exact .inr ⟨dx, ln, wd, g, li, lo, fo, fo', e, h2⟩
    · refine .inr ⟨dx, ln, wd, g, li, lo, fo, fo3, e, ?_⟩
      rw [h2]
      have z : sf ln wd g li lo fo' = sf ln2 wd2 g2 li2 lo2 fo2 ∧ dx = dx2 := by
        injection e2 with _ q1 q2
        exact ⟨q2, q1⟩
      obtain ⟨z1, z2⟩ := z
      unfold sf at z1
      simp only [List.cons.injEq, Prod.mk.injEq, V.int.injEq, V.str.injEq, V.ref.injEq, true_and, and_true] at z1
      obtain ⟨r1, r2, r3, r4, r5, r6⟩ := z1
      subst r1 r2 r3 r4 r5 z2
      rfl
theorem Fol.lst {CS : Addr} {H H' : Hp} (f : Fol CS H H') {b : Addr} {xs : List V} (h : H b = some (.lst xs)) : H' b = some (.lst xs) := by
  rcases f b _ h with h1 | ⟨_, _, _, _, _, _, _, _, e, _⟩
  · exact h1
  · cases e
theorem Fol.st {CS : Addr} {H H' : Hp} (f : Fol CS H H') {b dx : Addr} {ln : Int} {wd : Str} {g : V} {li lo : Addr} {fo : Int} (h : H b = some (.ins CS dx (sf ln wd g li lo fo))) : ∃ fo', H' b = some (.ins CS dx (sf ln wd g li lo fo')) := by
  rcases f b _ h with h1 | ⟨dx2, ln2, wd2, g2, li2, lo2, fo2, fo3, e2, h2⟩
  · exact ⟨fo, h1⟩
  · have z : sf ln wd g li lo fo = sf ln2 wd2 g2 li2 lo2 fo2 ∧ dx = dx2 := by
      injection e2 with _ q1 q2
      exact ⟨q2, q1⟩
    obtain ⟨z1, z2⟩ := z
    unfold sf at z1
    simp only [List.cons.injEq, Prod.mk.injEq, V.int.injEq, V.str.injEq, V.ref.injEq, true_and, and_true] at z1
    obtain ⟨r1, r2, r3, r4, r5, r6⟩ := z1
    subst r1 r2 r3 r4 r5 z2
    exact ⟨fo3, h2⟩
theorem TOk.fol {CS : Addr} {G : Addr → Prop} {H H' : Hp} (f : Fol CS H H') : ∀ (k : Nat) (a : Addr), TOk CS G H k a → TOk CS G H' k a
  | 0, _, h => h
  | k + 1, a, ⟨h0, dx, ln, wd, g, li, lo, fo, xs, ys, h1, h2, h3, h4, h5, h6, h7⟩ => by
    obtain ⟨fo', h1'⟩ := f.st h1
    exact ⟨h0, dx, ln, wd, g, li, lo, fo', xs, ys, h1', f.lst h2, f.lst h3, h4, h5, fun x hx => TOk.fol f k x (h6 x hx), fun y hy => TOk.fol f k y (h7 y hy)⟩
theorem Fol.at_ {CS : Addr} {H : Hp} {b dx : Addr} {ln : Int} {wd : Str} {g : V} {li lo : Addr} {fo fo' : Int} (h : H b = some (.ins CS dx (sf ln wd g li lo fo))) : Fol CS H (upd H b (.ins CS dx (sf ln wd g li lo fo'))) := fun c o hc => by
  by_cases e : c = b
  · subst e
    rw [h] at hc
    exact .inr ⟨dx, ln, wd, g, li, lo, fo, fo', (Option.some.inj hc).symm, upd_same⟩
  · exact .inl (by rw [upd_ne e]; exact hc)
abbrev s_link : Stmt := top 5
abbrev sc_linkN : List Str := ["body", "end", "follows", "statement", "follow", "back"]
theorem sc_link : FnScope sc_linkN ["body", "end"] (defScope s_link) := ⟨rfl, rfl, rfl, by decide +kernel, rfl, by decide +kernel, by decide +kernel⟩
/-- link: n calls, one in another, are allowed -/
def spLink (CS : Addr) : Nat → Sp
  | 0 => fun _ _ _ _ => False
  | n + 1 => fun vs H Q _ => ∃ (lb : Addr) (e : Int) (xs : List Addr) (G : Addr → Prop), vs = [.ref lb, .int e] ∧ H lb = some (.lst (xs.map V.ref)) ∧ xs.length ≤ 20 ∧ (∀ x ∈ xs, TOk CS G H n x) ∧ ∀ H', Fol CS H H' → Q .non H'
section
variable {P : Program} {w : World} {K : PySem.W.Frag} {mg : Str → Option Value} {base : Heap}
theorem ok_link_step {f CS : Addr} {fd : FuncData} {n : Nat} (F : Fun K "link" "link" s_link f fd) (TS : STxt K CS) (mz : mg "zip" = none) (C : Callee P w K mg base n "link" ["body", "end"] (spLink CS n)) : FnOk P w K mg base CX0 (n + 1) f fd ["body", "end"] (spLink CS (n + 1)) := by
  refine F.ok sc_link (fun vs H Q E h => ?_) (fun cdv A outer st H vs Q E hr h => ?_)
  · obtain ⟨lb, e, xs, G, rfl, _⟩ := h
    rfl
  obtain ⟨lb, e, xs, G, rfl, hb, hl, hT, q⟩ := h
  refine ⟨_, (pss_cons (ps_set (i := 2) sc_link.nd rfl (Or.inl rfl) (pe_op op_cat (pe_lc (own := [("statement", 3)]) (g := gName 3) rfl sc_link.nd (pi_list (pe_slice sl_list (pv 0) (po_some pe_int) po_none)) (blkOk_by (N := sc_linkN) (sc := defScope s_link) (by decide +kernel)) (fun _ _ _ _ _ => pg_name (i := 3) sc_link.nd rfl (Or.inl rfl)) (fun _ _ _ _ _ => pts_nil) (fun _ _ _ _ _ => (show PE _ _ (tFld K (tVar 3) "line") from pe_fld (pv 3) rfl))) (pe_lst (pa_cons (pv 1) pa_nil))))
(pss_one (ps_for PassesOwn.never rfl (pi_zip (by rfl) mz (pa_cons (pv 0) (pa_cons (pv 2) pa_nil))) (pg_tup (by rfl) (pgs_cons (pg_name (i := 3) sc_link.nd rfl (Or.inl rfl)) (pgs_cons (pg_name (i := 4) sc_link.nd rfl (Or.inl rfl)) pgs_nil)))
(pss_cons (ps_fld (pv 3) (pv 4) rfl)
(pss_cons (ps_set (i := 5) sc_link.nd rfl (Or.inl rfl) (pe_ifExp (pt_cmpR op_eq (pe_fld (pv 3) rfl) pe_str (nomark _)) (pe_fld (pv 3) rfl) (pv 4)))
(pss_cons (ps_expr (pe_call C.ok hr rfl C.mg C.kp C.b .nil pass0 (pa_cons (pe_fld (pv 3) rfl) (pa_cons (pv 5) pa_nil))))
(pss_one (ps_expr (pe_call C.ok hr rfl C.mg C.kp C.b .nil pass0 (pa_cons (pe_fld (pv 3) rfl) (pa_cons (pv 5) pa_nil))))))))))), ?_⟩
  refine ⟨_, rfl, 1, rfl, lb, _, rfl, .inl (.inl hb), fun S hS => ?_⟩
  have s1 := same_new hS (.lst (cutV (xs.map V.ref) (some 1) none))
  have cut : cutV (xs.map V.ref) (some 1) none = (xs.drop 1).map V.ref := by
    unfold cutV
    rw [HT.sIx_none, show HT.sIx (xs.map V.ref).length 0 (some 1) = min 1 (xs.map V.ref).length from HT.sIx_nat _ _ 1, List.length_map]
    cases xs with
    | nil => rfl
    | cons x r =>
      rw [List.length_cons, Nat.min_eq_left (by omega), List.map_cons, List.drop_succ_cons, List.drop_zero, List.drop_succ_cons, List.drop_zero]
      exact List.take_of_length_le (by rw [List.length_map]; omega)
  rw [cut] at s1 ⊢
  refine ⟨S, rfl, ⟨_, .inl (.inl upd_same)⟩, fun D hD => ?_⟩
  have nSD : S ≠ D := ne_of_none upd_same hD
  refine lc_list (K := K) (a := S) (xs := (xs.drop 1).map V.ref) (fun i H1 => ∃ acc : List Int, acc.length = i ∧ H1 = upd (upd H S (.lst ((xs.drop 1).map V.ref))) D (.lst (acc.map V.int))) ⟨[], rfl, rfl⟩ (fun i H1 _ ⟨acc, _, e1⟩ => .inl (.inl (by rw [e1, upd_ne nSD]; exact upd_same))) ?_ ?_
  · rintro i x H1 hx ⟨acc, ea, rfl⟩
    refine ⟨rfl, ?_⟩
    simp only [tYes, ↓reduceIte]
    rw [List.getElem?_map] at hx
    obtain ⟨y, hy, rfl⟩ := Option.map_eq_some_iff.mp hx
    have hyx : y ∈ xs := List.mem_of_mem_drop (List.mem_of_getElem? hy)
    have ht := hT y hyx
    have hil : i < xs.length := by
      have := (List.getElem?_eq_some_iff.mp hy).1
      rw [List.length_drop] at this
      omega
    cases n with
    | zero => exact ht.elim
    | succ n =>
      obtain ⟨_, dx, ln, wd, g, li, lo, fo, us, vs, h1, _⟩ := ht
      have h1' := (s1.trans (same_new hD (.lst (acc.map V.int)))) _ _ h1
      refine ⟨_, rfl, y, CS, dx, _, _, rfl, h1', TS.cl, TS.nLine, sf_line, _, upd_same, ?_, acc ++ [ln], by rw [List.length_append, ea]; rfl, ?_⟩
      · rw [List.length_map, ea]
        exact small1000 (by omega)
      · rw [upd_upd, List.map_append]
        rfl
  · rintro H1 ⟨acc, ea, rfl⟩
    rw [List.length_map, List.length_drop] at ea
    have sD := same_new hD (.lst (acc.map V.int))
    refine ⟨_, rfl, small (by show 1 ≤ 1000; decide), fun L hL => ?_⟩
    have sL := same_new hL (.lst [.int e])
    refine ⟨D, L, _, _, rfl, rfl, sL _ _ upd_same, upd_same, ?_, fun Fl hFl => ?_⟩
    · rw [List.length_map, ea]
      exact small (by show _ + 1 ≤ 1000; omega)
    have sF := same_new hFl (.lst (acc.map V.int ++ [.int e]))
    have sAll : Same H _ := ((s1.trans sD).trans sL).trans sF
    have eF : acc.map V.int ++ [V.int e] = (acc ++ [e]).map V.int := by rw [List.map_append]; rfl
    rw [eF] at sAll sF ⊢
    refine ⟨_, rfl, _, rfl, lb, Fl, xs.map V.ref, (acc ++ [e]).map V.int, rfl, .inl (.inl (sAll _ _ hb)), .inl (.inl upd_same), ?_⟩
    refine for_it (walk_zip rfl) (fun i σ H2 => ∃ y3 y4 y5, σ = [some (.ref lb), some (.int e), some (.ref Fl), y3, y4, y5] ∧ Fol CS H H2 ∧ H2 lb = some (.lst (xs.map V.ref)) ∧ H2 Fl = some (.lst ((acc ++ [e]).map V.int)))
      ⟨none, none, none, rfl, Fol.of_same sAll, sAll _ _ hb, upd_same⟩ (fun i σ H2 _ ⟨_, _, _, _, _, e1, e2⟩ => ⟨.inl (.inl e1), .inl (.inl e2)⟩) ?_ (fun σ H2 ⟨_, _, _, _, fo, _, _⟩ => q H2 fo)
    rintro i v σ H2 H2' hi ⟨y3, y4, y5, rfl, fo, e1, e2⟩ ⟨T, x, y, rfl, hT0, rfl, hx, hy⟩
    obtain ⟨a, ha, rfl⟩ : ∃ a, xs[i]? = some a ∧ x = V.ref a := by
      dsimp only at hx
      rw [List.getElem?_map] at hx
      obtain ⟨a, h1, h2⟩ := Option.map_eq_some_iff.mp hx
      exact ⟨a, h1, h2.symm⟩
    obtain ⟨z, rfl⟩ : ∃ z, y = V.int z := by
      dsimp only at hy
      rw [List.getElem?_map] at hy
      obtain ⟨z, h1, h2⟩ := Option.map_eq_some_iff.mp hy
      exact ⟨z, h2.symm⟩
    have hta := (hT a (List.mem_of_getElem? ha)).fol fo
    cases n with
    | zero => exact hta.elim
    | succ m =>
      obtain ⟨ga, dx, ln, wd, g, li, lo, f0, us, vs, h1, h2, h3, h4, h5, h6, h7⟩ := hta
      have sT := same_new hT0 (.tup [.ref a, .int z])
      refine ⟨T, _, rfl, .inl (.inl upd_same), rfl, _, _, rfl, _, _, rfl, rfl, ?_⟩
      refine ⟨_, rfl, _, rfl, a, CS, dx, _, rfl, sT _ _ h1, TS.cl, TS.nFollow, (by show 6 < 1000; decide), ?_⟩
      rw [put_follow]
      have f2 : Fol CS H2 (upd (upd H2 T (.tup [.ref a, .int z])) a (.ins CS dx (sf ln wd g li lo z))) := (Fol.of_same sT).trans (Fol.at_ (sT _ _ h1))
      have ea : (upd (upd H2 T (.tup [.ref a, .int z])) a (.ins CS dx (sf ln wd g li lo z))) a = some (.ins CS dx (sf ln wd g li lo z)) := upd_same
      generalize upd (upd H2 T (.tup [.ref a, .int z])) a (.ins CS dx (sf ln wd g li lo z)) = H3 at f2 ea ⊢
      have k1 : H3 li = some (.lst (us.map V.ref)) := f2.lst h2
      have k2 : ∀ u ∈ us, TOk CS G H3 m u := fun u hu => (h6 u hu).fol f2
      have fin : ∀ (y5 : Option V) (H5 : Hp), Fol CS H3 H5 → ∃ y3 y4 y5', [some (.ref lb), some (.int e), some (.ref Fl), some (.ref a), some (.int z), y5] = [some (.ref lb), some (.int e), some (.ref Fl), y3, y4, y5'] ∧ Fol CS H H5 ∧ H5 lb = some (.lst (xs.map V.ref)) ∧ H5 Fl = some (.lst ((acc ++ [e]).map V.int)) :=
        fun y5 H5 f5 => ⟨_, _, _, rfl, (fo.trans f2).trans f5, f5.lst (f2.lst e1), f5.lst (f2.lst e2)⟩
      refine ⟨_, rfl, a, CS, dx, _, _, rfl, ea, TS.cl, TS.nWord, sf_word, rfl, _, rfl, ?_⟩
      refine ite2 (fun _ => ?_) (fun _ => ?_)
      · refine ⟨_, rfl, a, CS, dx, _, _, rfl, ea, TS.cl, TS.nLine, sf_line, ?_⟩
        refine ⟨_, rfl, a, CS, dx, _, _, rfl, ea, TS.cl, TS.nInside, sf_inside, _, rfl, li, ln, us, G, rfl, k1, h4.1, k2, fun H4 f4 => ?_⟩
        obtain ⟨fo4, ea4⟩ := f4.st ea
        refine ⟨_, rfl, a, CS, dx, _, _, rfl, ea4, TS.cl, TS.nOtherwise, sf_otherwise, _, rfl, lo, ln, vs, G, rfl, f4.lst (f2.lst h3), h5.1, fun u hu => ((h7 u hu).fol f2).fol f4, fun H5 f5 => ?_⟩
        exact fin _ H5 (f4.trans f5)
      · refine ⟨_, rfl, ?_⟩
        refine ⟨_, rfl, a, CS, dx, _, _, rfl, ea, TS.cl, TS.nInside, sf_inside, _, rfl, li, z, us, G, rfl, k1, h4.1, k2, fun H4 f4 => ?_⟩
        obtain ⟨fo4, ea4⟩ := f4.st ea
        refine ⟨_, rfl, a, CS, dx, _, _, rfl, ea4, TS.cl, TS.nOtherwise, sf_otherwise, _, rfl, lo, z, vs, G, rfl, f4.lst (f2.lst h3), h5.1, fun u hu => ((h7 u hu).fol f2).fol f4, fun H5 f5 => ?_⟩
        exact fin _ H5 (f4.trans f5)
theorem ok_link0 {f CS : Addr} {fd : FuncData} : FnOk P w K mg base CX0 0 f fd ["body", "end"] (spLink CS 0) :=
  ⟨fun _ _ _ _ h => h.elim, fun _ _ _ _ _ _ _ _ _ _ _ _ _ h => h.elim⟩
/-- link, so many calls deep -/
theorem ok_link {f CS : Addr} {fd : FuncData} (F : Fun K "link" "link" s_link f fd) (TS : STxt K CS) (mz : mg "zip" = none) (ml : mg "link" = some (.ref f)) (b : Binds K fd ["body", "end"] []) : ∀ n, FnOk P w K mg base CX0 n f fd ["body", "end"] (spLink CS n)
  | 0 => ok_link0
  | n + 1 => ok_link_step F TS mz ⟨f, fd, ok_link F TS mz ml b n, ml, F.kp, b⟩
end
end Fg
set_option Elab.async false
set_option linter.all false
set_option maxRecDepth 100000
set_option maxHeartbeats 2000000
namespace Fg
open PySem L2 TL
/-! ### what rows are statements, bodies -/
mutual
inductive Stm (sy : Str) (ms ss : NV) : Nat → List Row → Nat → Prop where
  | plain (d : Nat) (x : Str) (r : List Str) : Giv sy ms ss (x :: r) → x ≠ "if" → x ≠ "while" → d ≤ 4 → Stm sy ms ss d [(d, x :: r)] 1
  | loop (d : Nat) (r : List Str) (b : List Row) (n : Nat) : Giv sy ms ss ("while" :: r) → d ≤ 4 → Bod sy ms ss (d + 1) b n → Stm sy ms ss d ((d, "while" :: r) :: b) (n + 1)
  | cond (d : Nat) (r : List Str) (b : List Row) (n : Nat) : Giv sy ms ss ("if" :: r) → d ≤ 4 → Bod sy ms ss (d + 1) b n → Stm sy ms ss d ((d, "if" :: r) :: b) (n + 1)
  | both (d : Nat) (r : List Str) (b c : List Row) (n m : Nat) : Giv sy ms ss ("if" :: r) → d ≤ 4 → Bod sy ms ss (d + 1) b n → Bod sy ms ss (d + 1) c m → Stm sy ms ss d ((d, "if" :: r) :: (b ++ (d, [("else" : Str)]) :: c)) (n + 1 + m)
inductive Bod (sy : Str) (ms ss : NV) : Nat → List Row → Nat → Prop where
  | one (d : Nat) (s : List Row) (n : Nat) : Stm sy ms ss d s n → Bod sy ms ss d s n
  | more (d : Nat) (s t : List Row) (n m : Nat) : Stm sy ms ss d s n → Bod sy ms ss d t m → Bod sy ms ss d (s ++ t) (n + m)
end
theorem giv_else {sy : Str} {ms ss : NV} (h : Giv sy ms ss [("else" : Str)]) : False := by
  generalize e : ([("else" : Str)] : List Str) = ws at h
  have ne : ∀ {y : Str}, y = ("else" : Str) → y ≠ "set" ∧ y ≠ "add" ∧ y ≠ "if" ∧ y ≠ "while" ∧ y ≠ "write" ∧ y ≠ "do" ∧ y ≠ "right" ∧ y ≠ "left" ∧ y ≠ "copy" ∧ y ≠ "stop" := by
    rintro y rfl
    decide +kernel
  obtain ⟨h1, h2, h3, h4, h5, h6, h7, h8, h9, h10⟩ := ne (y := "else") rfl
  cases h <;> first
    | exact h1 (List.cons.inj e).1 | exact h2 (List.cons.inj e).1 | exact h3 (List.cons.inj e).1 | exact h4 (List.cons.inj e).1 | exact h5 (List.cons.inj e).1
    | exact h6 (List.cons.inj e).1 | exact h7 (List.cons.inj e).1 | exact h8 (List.cons.inj e).1 | exact h9 (List.cons.inj e).1 | exact h10 (List.cons.inj e).1
theorem Stm.first {sy : Str} {ms ss : NV} {d : Nat} {seg : List Row} {n : Nat} (h : Stm sy ms ss d seg n) : ∃ (x : Str) (r : List Str) (rest : List Row), seg = (d, x :: r) :: rest ∧ Giv sy ms ss (x :: r) ∧ d ≤ 4 ∧ 1 ≤ n := by
  cases h with
  | plain _ x r h1 h2 h3 h4 => exact ⟨_, _, _, rfl, h1, h4, Nat.le_refl _⟩
  | loop _ r b n h1 h2 h3 => exact ⟨_, _, _, rfl, h1, h2, by omega⟩
  | cond _ r b n h1 h2 h3 => exact ⟨_, _, _, rfl, h1, h2, by omega⟩
  | both _ r b c n m h1 h2 h3 h4 => exact ⟨_, _, _, rfl, h1, h2, by omega⟩
theorem Bod.first {sy : Str} {ms ss : NV} {d : Nat} {seg : List Row} {n : Nat} (h : Bod sy ms ss d seg n) : ∃ (x : Str) (r : List Str) (rest : List Row), seg = (d, x :: r) :: rest ∧ Giv sy ms ss (x :: r) ∧ d ≤ 4 ∧ 1 ≤ n := by
  cases h with
  | one _ s n h => exact h.first
  | more _ s t n m h1 h2 =>
    obtain ⟨x, r, rest, rfl, h3, h4, h5⟩ := h1.first
    exact ⟨x, r, rest ++ t, rfl, h3, h4, by omega⟩
/-- what may stand behind a statement, behind a body -/
def AfterStm (d : Nat) (post : List Row) : Prop := ∀ r, post.head? = some r → r.1 ≤ d ∧ (r.1 = d → r.2 ≠ [("else" : Str)])
def AfterBod (d : Nat) (post : List Row) : Prop := ∀ r, post.head? = some r → r.1 < d
theorem AfterStm.bod {sy : Str} {ms ss : NV} {d : Nat} {t post : List Row} {m : Nat} (h : Bod sy ms ss d t m) : AfterStm d (t ++ post) := by
  obtain ⟨x, r, rest, rfl, hg, _, _⟩ := h.first
  intro y hy
  have e : (d, x :: r) = y := Option.some.inj hy
  subst e
  exact ⟨Nat.le_refl _, fun _ z => giv_else (by rw [← z]; exact hg)⟩
theorem AfterStm.of_bod {d : Nat} {post : List Row} (h : AfterBod d post) : AfterStm d post := fun r hr => ⟨Nat.le_of_lt (h r hr), fun e => absurd (h r hr) (by omega)⟩
theorem AfterStm.deeper {d : Nat} {post : List Row} (h : AfterStm d post) : AfterBod (d + 1) post := fun r hr => Nat.lt_succ_of_le (h r hr).1
abbrev Good (rows : List Row) : Prop := ∀ r ∈ rows, GoodWs r.2
theorem wordsAt_rows {rows : List Row} (g : Good rows) (k d : Nat) : wordsAt (rows.map lineOf) k d = match rows[k]? with | none => [] | some r => if r.1 = d then r.2 else [] := by
  unfold wordsAt
  rw [List.getElem?_map]
  cases e : rows[k]? with
  | none => rfl
  | some r =>
    obtain ⟨e1, ws⟩ := r
    have gw : GoodWs ws := g _ (List.mem_of_getElem? e)
    show wordsOf (lineOf (e1, ws)) d = if e1 = d then ws else []
    by_cases h : e1 = d
    · subst h
      rw [if_pos rfl]
      exact words_here gw
    · rw [if_neg h]
      rcases Nat.lt_or_gt_of_ne h with h | h
      · exact words_deeper gw h
      · exact words_outer gw h
theorem at_pre {α : Type} {pre seg post : List α} {x : α} {r : List α} (e : seg = x :: r) : (pre ++ seg ++ post)[pre.length]? = some x := by
  subst e
  rw [List.append_assoc, List.getElem?_append_right (Nat.le_refl _), Nat.sub_self]
  rfl
theorem at_post {α : Type} {pre seg post : List α} : (pre ++ seg ++ post)[pre.length + seg.length]? = post.head? := by
  rw [List.getElem?_append_right (by rw [List.length_append]; omega), List.length_append, Nat.sub_self]
  cases post <;> rfl
/-! ### the state -/
def WOk (CS : Addr) (T : Str → V → Prop) (H : Hp) (a : Addr) : Prop := ∃ (dx : Addr) (ln : Int) (wd : Str) (g : V) (li lo : Addr) (fo : Int), H a = some (.ins CS dx (sf ln wd g li lo fo)) ∧ T wd g
/-- what the row of a statement says of it -/
def Said (rows : List Row) (key : Key) (wd : Str) (g : V) : Prop := ∃ (i : Nat) (r : Row), key = Sum.inl ((i : Int) + 1) ∧ rows[i]? = some r ∧ r.2.head? = some wd ∧ (wd = "write" → ∃ z : Str, g = .str z ∧ r.2 = [("write" : Str), z])
/-- a row that writes -/
def WC (r : Row) : Prop := r.2.head? = some ("write" : Str) ∨ r.2.head? = some ("copy" : Str)
theorem not_wc {d : Nat} {x : Str} {r : List Str} (h : x ≠ "write" ∧ x ≠ "copy") : ¬ WC (d, x :: r) := fun z => by
  rcases z with z | z
  · exact h.1 (Option.some.inj z)
  · exact h.2 (Option.some.inj z)
theorem no_at {rows : List Row} {k d : Nat} {x : Str} {r : List Str} (hat : rows[k]? = some (d, x :: r)) (h : x ≠ "write" ∧ x ≠ "copy") : ∀ y, rows[k]? = some y → ¬ WC y := fun y e => by
  rw [hat] at e
  cases e
  exact not_wc h
def Keep (p t : Addr) (H H' : Hp) : Prop := ∀ b o, H b = some o → b ≠ p → b ≠ t → H' b = some o
theorem Keep.of_same {p t : Addr} {H H' : Hp} (s : Same H H') : Keep p t H H' := fun b o h _ _ => s b o h
theorem Keep.trans {p t : Addr} {H H1 H2 : Hp} (a : Keep p t H H1) (b : Keep p t H1 H2) : Keep p t H H2 := fun c o h n1 n2 => b c o (a c o h n1 n2) n1 n2
structure SAt (C CS : Addr) (H : Hp) (p l m s t : Addr) (k : Nat) (sy : Str) (fi : Int) (ms ss : NV) (rows : List Row) (kvs : List (Key × V)) (cnt : Nat) : Prop where
  pin : PIn C H p l m s t ((k : Int) + 1) sy fi ms ss
  ln : Lines H l (rows.map lineOf)
  dt : H t = some (.dK kvs)
  few : kvs.length = cnt
  keys : ∀ kv ∈ kvs, ∃ n : Nat, kv.1 = Sum.inl (n : Int) ∧ n ≤ k
  ok : ∀ kv ∈ kvs, ∃ a, kv.2 = V.ref a ∧ WOk CS (Said rows kv.1) H a
  nm : m ≠ t
  ns : s ≠ t
  cc : C ≠ CS
  al : ∀ (i : Nat) (r : Row), i < k → rows[i]? = some r → WC r → ∃ kv ∈ kvs, kv.1 = Sum.inl ((i : Int) + 1)
variable {C CS : Addr} {H H' : Hp} {p l m s t : Addr} {k : Nat} {sy : Str} {fi : Int} {ms ss : NV} {rows : List Row} {kvs : List (Key × V)} {cnt : Nat}
theorem WOk.keep (S : SAt C CS H p l m s t k sy fi ms ss rows kvs cnt) (e : Keep p t H H') {T : Str → V → Prop} {a : Addr} (h : WOk CS T H a) : WOk CS T H' a := by
  obtain ⟨dx, ln, wd, g, li, lo, fo, h1, h2⟩ := h
  obtain ⟨⟨dp, hp⟩, _⟩ := S.pin
  refine ⟨dx, ln, wd, g, li, lo, fo, e _ _ h1 (fun z => ?_) (ne_of h1 S.dt (by intro z; cases z)), h2⟩
  rw [z, hp] at h1
  injection Option.some.inj h1 with q
  exact S.cc q
theorem SAt.same (S : SAt C CS H p l m s t k sy fi ms ss rows kvs cnt) (e : Same H H') : SAt C CS H' p l m s t k sy fi ms ss rows kvs cnt :=
  ⟨S.pin.same e, ⟨e _ _ S.ln.at_, S.ln.few, S.ln.short⟩, e _ _ S.dt, S.few, S.keys, fun kv h => by
    obtain ⟨a, h1, h2⟩ := S.ok kv h
    exact ⟨a, h1, h2.keep S (Keep.of_same e)⟩, S.nm, S.ns, S.cc, S.al⟩
theorem TOk.keep {G : Addr → Prop} (hp : ∃ dx fs, H p = some (.ins C dx fs)) (ht : ∃ kv, H t = some (.dK kv)) (cc : C ≠ CS) (e : Keep p t H H') : ∀ (n : Nat) (a : Addr), TOk CS G H n a → TOk CS G H' n a
  | 0, _, h => h
  | n + 1, a, ⟨h0, dx, ln, wd, g, li, lo, fo, xs, ys, h1, h2, h3, h4, h5, h6, h7⟩ => by
    obtain ⟨dp, fs, hp'⟩ := hp
    obtain ⟨kv, ht'⟩ := ht
    have np : a ≠ p := fun z => by
      rw [z, hp'] at h1
      injection Option.some.inj h1 with q
      exact cc q
    have nt : a ≠ t := ne_of h1 ht' (by intro z; cases z)
    have l1 : ∀ {b : Addr} {us : List V}, H b = some (.lst us) → H' b = some (.lst us) := fun h => e _ _ h (ne_of h hp' (by intro z; cases z)) (ne_of h ht' (by intro z; cases z))
    exact ⟨h0, dx, ln, wd, g, li, lo, fo, xs, ys, e _ _ h1 np nt, l1 h2, l1 h3, h4, h5, fun x hx => TOk.keep ⟨dp, fs, hp'⟩ ⟨kv, ht'⟩ cc e n x (h6 x hx), fun y hy => TOk.keep ⟨dp, fs, hp'⟩ ⟨kv, ht'⟩ cc e n y (h7 y hy)⟩
theorem TOk.base {G G' : Addr → Prop} (h : ∀ b, G' b → G b) : ∀ (n : Nat) (a : Addr), TOk CS G' H n a → TOk CS G H n a
  | 0, _, z => z
  | n + 1, a, ⟨h0, dx, ln, wd, g, li, lo, fo, xs, ys, h1, h2, h3, h4, h5, h6, h7⟩ => ⟨h _ h0, dx, ln, wd, g, li, lo, fo, xs, ys, h1, h2, h3, ⟨h4.1, h _ h4.2.1, h _ h4.2.2⟩, h5, fun x hx => TOk.base h n x (h6 x hx), fun y hy => TOk.base h n y (h7 y hy)⟩
/-- an object that was there before is none of the tree -/
theorem TOk.upd {G : Addr → Prop} {b dx0 : Addr} {fs fs' : List (Str × V)} (hb : ¬ G b) (hb1 : H b = some (.ins CS dx0 fs)) : ∀ (n : Nat) (a : Addr), TOk CS G H n a → TOk CS G (L2.upd H b (.ins CS dx0 fs')) n a
  | 0, _, z => z
  | n + 1, a, ⟨h0, dx, ln, wd, g, li, lo, fo, xs, ys, h1, h2, h3, h4, h5, h6, h7⟩ => by
    have na : a ≠ b := fun z => hb (by rw [← z]; exact h0)
    have l1 : ∀ {c : Addr} {us : List V}, H c = some (.lst us) → L2.upd H b (.ins CS dx0 fs') c = some (.lst us) := fun h => by rw [upd_ne (ne_of h hb1 (by intro z; cases z))]; exact h
    exact ⟨h0, dx, ln, wd, g, li, lo, fo, xs, ys, by rw [upd_ne na]; exact h1, l1 h2, l1 h3, h4, h5, fun x hx => TOk.upd hb hb1 n x (h6 x hx), fun y hy => TOk.upd hb hb1 n y (h7 y hy)⟩
theorem TOk.updL {G : Addr → Prop} {b : Addr} {us : List V} (hb : ¬ G b) : ∀ (n : Nat) (a : Addr), TOk CS G H n a → TOk CS G (L2.upd H b (.lst us)) n a
  | 0, _, z => z
  | n + 1, a, ⟨h0, dx, ln, wd, g, li, lo, fo, xs, ys, h1, h2, h3, h4, h5, h6, h7⟩ => by
    have ne : ∀ {c : Addr}, G c → c ≠ b := fun h z => hb (by rw [← z]; exact h)
    exact ⟨h0, dx, ln, wd, g, li, lo, fo, xs, ys, by rw [upd_ne (ne h0)]; exact h1, by rw [upd_ne (ne h4.2.1)]; exact h2, by rw [upd_ne (ne h4.2.2)]; exact h3, h4, h5, fun x hx => TOk.updL hb n x (h6 x hx), fun y hy => TOk.updL hb n y (h7 y hy)⟩
/-- what is not there is none of the tree -/
theorem TOk.avoid {G : Addr → Prop} {b : Addr} (hb : H b = none) : ∀ (n : Nat) (a : Addr), TOk CS G H n a → TOk CS (fun c => G c ∧ c ≠ b) H n a
  | 0, _, z => z
  | n + 1, a, ⟨h0, dx, ln, wd, g, li, lo, fo, xs, ys, h1, h2, h3, h4, h5, h6, h7⟩ =>
    ⟨⟨h0, ne_of_none h1 hb⟩, dx, ln, wd, g, li, lo, fo, xs, ys, h1, h2, h3, ⟨h4.1, ⟨h4.2.1, ne_of_none h2 hb⟩, ⟨h4.2.2, ne_of_none h3 hb⟩⟩, h5, fun x hx => TOk.avoid hb n x (h6 x hx), fun y hy => TOk.avoid hb n y (h7 y hy)⟩
abbrev New (H : Hp) : Addr → Prop := fun b => H b = none
/-- a statement of the dict gets another field -/
theorem SAt.setSt (S : SAt C CS H p l m s t k sy fi ms ss rows kvs cnt) {a dx : Addr} {ln fo fo' : Int} {wd : Str} {g : V} {li lo li' lo' : Addr} (ha : H a = some (.ins CS dx (sf ln wd g li lo fo))) :
    SAt C CS (L2.upd H a (.ins CS dx (sf ln wd g li' lo' fo'))) p l m s t k sy fi ms ss rows kvs cnt := by
  obtain ⟨⟨dp, hp⟩, mo, st, nm, ns⟩ := S.pin
  have np : p ≠ a := fun z => by
    rw [z, ha] at hp
    injection Option.some.inj hp with q
    exact S.cc q.symm
  have nl : l ≠ a := ne_of S.ln.at_ ha (by intro z; cases z)
  have nmm : m ≠ a := ne_of mo ha (by intro z; cases z)
  have nss : s ≠ a := ne_of st ha (by intro z; cases z)
  have nt : t ≠ a := ne_of S.dt ha (by intro z; cases z)
  refine ⟨⟨⟨dp, by rw [upd_ne np]; exact hp⟩, by rw [upd_ne nmm]; exact mo, by rw [upd_ne nss]; exact st, nm, ns⟩, ⟨by rw [upd_ne nl]; exact S.ln.at_, S.ln.few, S.ln.short⟩, by rw [upd_ne nt]; exact S.dt, S.few, S.keys, fun kv h => ?_, S.nm, S.ns, S.cc, S.al⟩
  obtain ⟨b, h1, dx2, ln2, wd2, g2, li2, lo2, fo2, h2, h3⟩ := S.ok kv h
  refine ⟨b, h1, ?_⟩
  by_cases e : b = a
  · subst e
    rw [ha] at h2
    have z := Option.some.inj h2
    injection z with _ z1 z2
    unfold sf at z2
    simp only [List.cons.injEq, Prod.mk.injEq, V.int.injEq, V.str.injEq, V.ref.injEq, true_and, and_true] at z2
    obtain ⟨r1, r2, r3, r4, r5, r6⟩ := z2
    subst r2 r3
    exact ⟨dx, ln, wd, g, li', lo', fo', upd_same, h3⟩
  · exact ⟨dx2, ln2, wd2, g2, li2, lo2, fo2, by rw [upd_ne e]; exact h2, h3⟩
end Fg
set_option Elab.async false
set_option linter.all false
set_option maxRecDepth 100000
set_option maxHeartbeats 4000000
namespace Fg
open PySem L2 TL
abbrev s_Parser_read_statement : Stmt := inClass (top 20) 9
abbrev sc_Parser_read_statementN : List Str := ["self", "depth", "words", "given", "statement"]
theorem sc_Parser_read_statement : FnScope sc_Parser_read_statementN ["self", "depth"] (defScope s_Parser_read_statement) := ⟨rfl, rfl, rfl, by decide +kernel, rfl, by decide +kernel, by decide +kernel⟩
def spStm (C CS : Addr) (d : Nat) : Sp := fun vs H Q _ => ∃ (p l m s t : Addr) (k : Nat) (sy : Str) (fi : Int) (ms ss : NV) (rows pre seg post : List Row) (kvs : List (Key × V)) (cnt n : Nat), vs = [.ref p, .int (d : Int)] ∧
  SAt C CS H p l m s t k sy fi ms ss rows kvs cnt ∧ rows = pre ++ seg ++ post ∧ pre.length = k ∧ Good rows ∧ Stm sy ms ss d seg n ∧ cnt + n ≤ 20 ∧ AfterStm d post ∧ sy.length ≤ 10 ∧
  ∀ (a : Addr) (H' : Hp) (kvs' : List (Key × V)), Keep p t H H' → SAt C CS H' p l m s t (k + seg.length) sy fi ms ss rows kvs' (cnt + n) → TOk CS (New H) H' (5 - d) a → Q (.ref a) H'
def spBod (C CS : Addr) (d : Nat) : Sp := fun vs H Q _ => ∃ (p l m s t : Addr) (k : Nat) (sy : Str) (fi : Int) (ms ss : NV) (rows pre seg post : List Row) (kvs : List (Key × V)) (cnt n : Nat), vs = [.ref p, .int (d : Int)] ∧
  SAt C CS H p l m s t k sy fi ms ss rows kvs cnt ∧ rows = pre ++ seg ++ post ∧ pre.length = k ∧ Good rows ∧ Bod sy ms ss d seg n ∧ cnt + n ≤ 20 ∧ AfterBod d post ∧ sy.length ≤ 10 ∧
  ∀ (lb : Addr) (H' : Hp) (kvs' : List (Key × V)) (xs : List Addr), Keep p t H H' → SAt C CS H' p l m s t (k + seg.length) sy fi ms ss rows kvs' (cnt + n) → H lb = none → H' lb = some (.lst (xs.map V.ref)) → xs ≠ [] → xs.length ≤ n → (∀ x ∈ xs, TOk CS (New H) H' (5 - d) x) → Q (.ref lb) H'
/-- a class of one's own that stands ready to be made -/
structure Maker (P : Program) (w : World) (K : PySem.W.Frag) (mg : Str → Option Value) (base : Heap) (C : Addr) (k : Nat) (x : Str) (ps : List Str) (sp : Sp) where
  f : Addr
  fd : FuncData
  ok : FnOk P w K mg base CX0 k f fd ps sp
  mkr : Mk K C f
  mg : mg x = some (.ref C)
  b : Binds K fd ps []
theorem SAt.grown {C CS : Addr} {H H' : Hp} {p l m s t : Addr} {k : Nat} {sy : Str} {fi : Int} {ms ss : NV} {rows : List Row} {kvs : List (Key × V)} {cnt : Nat} (S : SAt C CS H' p l m s t k sy fi ms ss rows kvs cnt) (e : Keep p t H H') : ∀ b, H' b = none → H b = none := fun b h => by
  cases q : H b with
  | none => rfl
  | some o =>
    by_cases h1 : b = p
    · subst h1
      obtain ⟨⟨dx, hp⟩, _⟩ := S.pin
      rw [hp] at h; cases h
    · by_cases h2 : b = t
      · subst h2
        rw [S.dt] at h; cases h
      · rw [e _ _ q h1 h2] at h; cases h
theorem put_next {l : Addr} {k : Nat} {sy : Str} {m s t : Addr} {fi : Int} : putF "number" (.int (((k : Int) + 1) + 1)) (pf l ((k : Int) + 1) sy m s t fi) = pf l (((k + 1 : Nat) : Int) + 1) sy m s t fi := by
  rw [put_number]
  congr 1
theorem SAt.bump {C CS : Addr} {H : Hp} {p l m s t dp : Addr} {k : Nat} {sy : Str} {fi : Int} {ms ss : NV} {rows : List Row} {kvs : List (Key × V)} {cnt : Nat} (S : SAt C CS H p l m s t k sy fi ms ss rows kvs cnt) (hp : H p = some (.ins C dp (pf l ((k : Int) + 1) sy m s t fi))) (hno : ∀ r, rows[k]? = some r → ¬ WC r) :
    SAt C CS (upd H p (.ins C dp (pf l (((k + 1 : Nat) : Int) + 1) sy m s t fi))) p l m s t (k + 1) sy fi ms ss rows kvs cnt ∧ Keep p t H (upd H p (.ins C dp (pf l (((k + 1 : Nat) : Int) + 1) sy m s t fi))) := by
  have e : Keep p t H (upd H p (.ins C dp (pf l (((k + 1 : Nat) : Int) + 1) sy m s t fi))) := fun b o h n _ => by rw [upd_ne n]; exact h
  obtain ⟨_, mo, st, nm, ns⟩ := S.pin
  have n1 : l ≠ p := ne_of S.ln.at_ hp (by intro z; cases z)
  have n2 : m ≠ p := ne_of mo hp (by intro z; cases z)
  have n3 : s ≠ p := ne_of st hp (by intro z; cases z)
  have n4 : t ≠ p := ne_of S.dt hp (by intro z; cases z)
  refine ⟨⟨⟨⟨dp, upd_same⟩, by rw [upd_ne n2]; exact mo, by rw [upd_ne n3]; exact st, nm, ns⟩, ⟨by rw [upd_ne n1]; exact S.ln.at_, S.ln.few, S.ln.short⟩, by rw [upd_ne n4]; exact S.dt, S.few, fun kv h => ?_, fun kv h => ?_, S.nm, S.ns, S.cc, fun i r hi hr hc => ?_⟩, e⟩
  · obtain ⟨i, h1, h2⟩ := S.keys kv h
    exact ⟨i, h1, by omega⟩
  · obtain ⟨a, h1, h2⟩ := S.ok kv h
    exact ⟨a, h1, h2.keep S e⟩
  · by_cases e1 : i = k
    · subst e1
      exact absurd hc (hno r hr)
    · exact S.al i r (by omega) hr hc
section
variable {P : Program} {w : World} {K : PySem.W.Frag} {mg : Str → Option Value} {base : Heap}
theorem ok_read_statement {f C CS : Addr} {fd : FuncData} {d L : Nat} (F : Fun K "read_statement" "Parser.read_statement" s_Parser_read_statement f fd) (T : Bare mg) (T1 : Consts K mg) (TP : PTxt K C) (TS : STxt K CS) (hd : d ≤ 4) (hL : 3 ≤ L)
    (MW : Meter P w K mg base C 1 "words_at" ["self", "depth"] (spWords C)) (MG : Meter P w K mg base C 3 "given_by" ["self", "words"] (spGiven K C)) (MI : Maker P w K mg base CS 1 "Statement" ["self", "line", "word", "given"] (spStInit CS))
    (MB : Meter P w K mg base C L "read_body" ["self", "depth"] (spBod C CS (d + 1))) : FnOk P w K mg base CX0 (L + 1) f fd ["self", "depth"] (spStm C CS d) := by
  refine F.ok sc_Parser_read_statement (fun vs H Q E h => ?_) (fun cdv A outer st H vs Q E hr h => ?_)
  · obtain ⟨p, l, m, s, t, k, sy, fi, ms, ss, rows, pre, seg, post, kvs, cnt, n, rfl, _⟩ := h
    rfl
  obtain ⟨p, l, m, s, t, k, sy, fi, ms, ss, rows, pre, seg, post, kvs, cnt, n, rfl, S, hrows, hk, hG, hS, hcnt, haft, hsy, q⟩ := h
  have hu := hu_of hr
  obtain ⟨t20, g20⟩ := T1.mostStatements
  obtain ⟨x, r, rest, eseg, hgiv, _, hn1⟩ := hS.first
  have hat : rows[k]? = some (d, x :: r) := by rw [hrows, ← hk]; exact at_pre eseg
  have gw : GoodWs (x :: r) := hG _ (List.mem_of_getElem? hat)
  have rest : ∃ tt, PSs (cxOf CX0 P w K mg base sc_Parser_read_statementN "Parser.read_statement" (defScope s_Parser_read_statement) f cdv A outer st H E).nox ((defBody s_Parser_read_statement).drop 6) tt ∧
      ∀ (H6 : Hp) (A1 a dx li lo : Addr) (g : V) (kvs6 : List (Key × V)), Keep p t H H6 → SAt C CS H6 p l m s t (k + 1) sy fi ms ss rows kvs6 (cnt + 1) → H a = none → H6 a = some (.ins CS dx (sf ((k : Int) + 1) x g li lo 0)) → H6 li = some (.lst []) → H6 lo = some (.lst []) → li ≠ lo → H li = none → H lo = none →
        tt { nx := fun _ H' => Q .non H', rt := Q } [some (.ref p), some (.int (d : Int)), some (.ref A1), some g, some (.ref a)] H6 := by
    refine ⟨_, (pss_cons (ps_if (pt_cmpR op_in_seq (pe_fld (pv 4) rfl) (pe_tup (pa_cons pe_str (pa_cons pe_str pa_nil))) (by rfl))
(pss_one (ps_fld (pv 4) (pe_meth (pv 0) TP.cl MB.m MB.ok hr MB.b .nil pass0 (pa_cons (pe_op op_add (pv 1) pe_int) pa_nil)) rfl))
pss_nil)
(pss_cons (ps_if (PW.pt (pw_and (pt_cmpR op_eq (pe_fld (pv 4) rfl) pe_str (nomark _)) (pw_and1 (pt_cmpR (op_eqD hr.units) (pe_meth (pv 0) TP.cl MW.m MW.ok (hr.mono (by omega)) MW.b .nil pass0 (pa_cons (pv 1) pa_nil)) (pe_lst (pa_cons pe_str pa_nil)) (nomark _)))))
(pss_cons (ps_fldaug (pv 0) pe_int in_add)
(pss_one (ps_fld (pv 4) (pe_meth (pv 0) TP.cl MB.m MB.ok hr MB.b .nil pass0 (pa_cons (pe_op op_add (pv 1) pe_int) pa_nil)) rfl)))
pss_nil)
(pss_one (ps_ret (pv 4))))), ?_⟩
    intro H6 A1 a dx li lo g kvs6 kp S6 haH h6 hl1 hl2 nll hliH hloH
    obtain ⟨⟨dp, hp⟩, _⟩ := id S6.pin
    have npa : a ≠ p := fun z => by
      rw [z, hp] at h6
      injection Option.some.inj h6 with q1
      exact S6.cc q1
    have nta : a ≠ t := ne_of h6 S6.dt (by intro z; cases z)
    have e5 : 5 - d = (4 - d) + 1 := by omega
    refine ⟨_, rfl, a, CS, dx, _, _, rfl, h6, TS.cl, TS.nWord, sf_word, small (by show 2 ≤ 1000; decide), fun T0 hT0 => ?_⟩
    have s7 := same_new hT0 (.tup [.str "if", .str "while"])
    have S7 := S6.same s7
    have kp7 := kp.trans (Keep.of_same s7)
    have h7 := s7 _ _ h6
    have l71 := s7 _ _ hl1
    have l72 := s7 _ _ hl2
    have hp7 := s7 _ _ hp
    refine ⟨T0, _, rfl, .inr (.inl (.inl upd_same)), rfl, rfl, _, rfl, ?_⟩
    generalize upd H6 T0 (.tup [.str "if", .str "while"]) = H7 at s7 S7 kp7 h7 l71 l72 hp7 ⊢
    have ein : (if false = true then !inV (.str x) [.str "if", .str "while"] else inV (.str x) [.str "if", .str "while"]) = decide (x ∈ ([("if" : Str), "while"] : List Str)) := inV_str x [("if" : Str), "while"]
    rw [ein]
    -- the body of an if or while
    have body : ∀ (b post' : List Row) (nb : Nat) (R : VK), rows = (pre ++ [(d, x :: r)]) ++ b ++ post' → Bod sy ms ss (d + 1) b nb → cnt + 1 + nb ≤ 20 → AfterBod (d + 1) post' →
        (∀ (lb : Addr) (H' : Hp) (kvs' : List (Key × V)) (xs : List Addr), Keep p t H7 H' → SAt C CS H' p l m s t (k + 1 + b.length) sy fi ms ss rows kvs' (cnt + 1 + nb) → H7 lb = none → H' lb = some (.lst (xs.map V.ref)) → xs ≠ [] → xs.length ≤ nb → (∀ y ∈ xs, TOk CS (New H7) H' (4 - d) y) → R (.ref lb) H') →
        spBod C CS (d + 1) [.ref p, .int ((d : Int) + 1)] H7 R E0 := fun b post' nb R h1 h2 h3 h4 h5 =>
      ⟨p, l, m, s, t, k + 1, sy, fi, ms, ss, rows, pre ++ [(d, x :: r)], b, post', kvs6, cnt + 1, nb, (by rw [Int.natCast_add]; rfl), S7, h1, by rw [List.length_append, hk]; rfl, hG, h2, h3, h4, hsy, by
        have e : 5 - (d + 1) = 4 - d := by omega
        rw [e]
        exact h5⟩
    cases hS with
    | plain _ x' r' g1 n1 n2 _ =>
      obtain ⟨e1, e2⟩ : x' = x ∧ r' = r := by
        have z := (Prod.mk.inj (List.cons.inj eseg).1).2
        exact ⟨(List.cons.inj z).1, (List.cons.inj z).2⟩
      subst e1 e2
      rw [decide_eq_false (by
        intro z
        rcases List.mem_cons.mp z with z | z
        · exact n1 z
        · exact n2 (List.mem_singleton.mp z))]
      refine iteF ?_
      refine ⟨_, rfl, a, CS, dx, _, _, rfl, h7, TS.cl, TS.nWord, sf_word, rfl, _, rfl, ?_⟩
      rw [decide_eq_false (fun z => n1 (V.str.inj z))]
      refine iteF (iteF ?_)
      refine ⟨_, rfl, q a H7 kvs6 kp7 S7 ?_⟩
      rw [e5]
      exact ⟨haH, dx, _, _, g, li, lo, 0, [], [], h7, l71, l72, ⟨by decide, hliH, hloH⟩, ⟨by decide, by omega⟩, fun y hy => (by cases hy), fun y hy => (by cases hy)⟩
    | loop _ r' b nb g1 _ hB =>
      obtain ⟨e1, e2⟩ : ("while" : Str) = x ∧ r' = r := by
        have z := (Prod.mk.inj (List.cons.inj eseg).1).2
        exact ⟨(List.cons.inj z).1, (List.cons.inj z).2⟩
      subst e1 e2
      refine iteT ?_
      refine ⟨_, rfl, p, dp, _, rfl, hp7, (by kernel_rfl), _, rfl, _, _, rfl, rfl, ?_⟩
      dsimp only [tNil]
      refine body b post nb _ (by rw [hrows, List.append_assoc pre, List.append_assoc pre, List.append_assoc pre]; rfl) hB (by omega) haft.deeper fun lb H8 kvs8 xs kp8 S8 hlb hlb1 hne hlen hT8 => ?_
      have h8 := kp8 _ _ h7 npa nta
      have k8 : Keep p t H (upd H8 a (.ins CS dx (sf ((k : Int) + 1) "while" g lb lo 0))) := fun c o hc n1 n2 => by
        rw [upd_ne (ne_of_none hc haH)]
        exact kp8 _ _ (kp7 _ _ hc n1 n2) n1 n2
      refine ⟨_, rfl, a, CS, dx, _, rfl, h8, TS.cl, TS.nInside, (by show 6 < 1000; decide), ?_⟩
      rw [put_inside]
      have S9 := S8.setSt (li' := lb) (lo' := lo) (fo' := 0) h8
      have h9 : (upd H8 a (.ins CS dx (sf ((k : Int) + 1) "while" g lb lo 0))) a = some (.ins CS dx (sf ((k : Int) + 1) "while" g lb lo 0)) := upd_same
      refine ⟨_, rfl, a, CS, dx, _, _, rfl, h9, TS.cl, TS.nWord, sf_word, rfl, _, rfl, iteF (iteF ?_)⟩
      refine ⟨_, rfl, q a _ kvs8 k8 (by
        have e : k + ((d, ("while" : Str) :: r') :: b).length = k + 1 + b.length := by rw [List.length_cons]; omega
        have e' : cnt + (nb + 1) = cnt + 1 + nb := by omega
        rw [e, e']
        exact S9) ?_⟩
      rw [e5]
      have nlb : lb ≠ a := ne_of hlb1 h8 (by intro z; cases z)
      have l8 : H8 lo = some (.lst []) := kp8 _ _ l72 (ne_of l72 hp7 (by intro z; cases z)) (ne_of l72 S7.dt (by intro z; cases z))
      have nlo : lo ≠ a := ne_of l8 h8 (by intro z; cases z)
      exact ⟨haH, dx, _, _, g, lb, lo, 0, xs, [], h9, by rw [upd_ne nlb]; exact hlb1, by rw [upd_ne nlo]; exact l8, ⟨by omega, S7.grown kp7 _ hlb, hloH⟩, ⟨by decide, by omega⟩, fun y hy => TOk.base (fun c hc => S7.grown kp7 c hc) _ _ (TOk.upd (fun z => by have z2 : H7 a = none := z; rw [h7] at z2; cases z2) h8 _ _ (hT8 y hy)), fun y hy => by cases hy⟩
    | cond _ r' b nb g1 _ hB =>
      obtain ⟨e1, e2⟩ : ("if" : Str) = x ∧ r' = r := by
        have z := (Prod.mk.inj (List.cons.inj eseg).1).2
        exact ⟨(List.cons.inj z).1, (List.cons.inj z).2⟩
      subst e1 e2
      refine iteT ?_
      refine ⟨_, rfl, p, dp, _, rfl, hp7, (by kernel_rfl), _, rfl, _, _, rfl, rfl, ?_⟩
      dsimp only [tNil]
      refine body b post nb _ (by rw [hrows, List.append_assoc pre, List.append_assoc pre, List.append_assoc pre]; rfl) hB (by omega) haft.deeper fun lb H8 kvs8 xs kp8 S8 hlb hlb1 hne hlen hT8 => ?_
      have h8 := kp8 _ _ h7 npa nta
      have k8 : Keep p t H (upd H8 a (.ins CS dx (sf ((k : Int) + 1) "if" g lb lo 0))) := fun c o hc n1 n2 => by
        rw [upd_ne (ne_of_none hc haH)]
        exact kp8 _ _ (kp7 _ _ hc n1 n2) n1 n2
      refine ⟨_, rfl, a, CS, dx, _, rfl, h8, TS.cl, TS.nInside, (by show 6 < 1000; decide), ?_⟩
      rw [put_inside]
      have S9 := S8.setSt (li' := lb) (lo' := lo) (fo' := 0) h8
      have h9 : (upd H8 a (.ins CS dx (sf ((k : Int) + 1) "if" g lb lo 0))) a = some (.ins CS dx (sf ((k : Int) + 1) "if" g lb lo 0)) := upd_same
      have nlb : lb ≠ a := ne_of hlb1 h8 (by intro z; cases z)
      have l8 : H8 lo = some (.lst []) := kp8 _ _ l72 (ne_of l72 hp7 (by intro z; cases z)) (ne_of l72 S7.dt (by intro z; cases z))
      have nlo : lo ≠ a := ne_of l8 h8 (by intro z; cases z)
      have tok : TOk CS (New H) (upd H8 a (.ins CS dx (sf ((k : Int) + 1) "if" g lb lo 0))) (5 - d) a := by
        rw [e5]
        exact ⟨haH, dx, _, _, g, lb, lo, 0, xs, [], h9, by rw [upd_ne nlb]; exact hlb1, by rw [upd_ne nlo]; exact l8, ⟨by omega, S7.grown kp7 _ hlb, hloH⟩, ⟨by decide, by omega⟩, fun y hy => TOk.base (fun c hc => S7.grown kp7 c hc) _ _ (TOk.upd (fun z => by have z2 : H7 a = none := z; rw [h7] at z2; cases z2) h8 _ _ (hT8 y hy)), fun y hy => by cases hy⟩
      generalize upd H8 a (.ins CS dx (sf ((k : Int) + 1) "if" g lb lo 0)) = H9 at k8 S9 h9 tok ⊢
      refine ⟨_, rfl, a, CS, dx, _, _, rfl, h9, TS.cl, TS.nWord, sf_word, rfl, _, rfl, iteT ?_⟩
      obtain ⟨⟨dp9, hp9⟩, _⟩ := id S9.pin
      refine ⟨_, rfl, p, dp9, _, rfl, hp9, (by kernel_rfl), _, rfl, p, l, m, s, t, k + 1 + b.length, d, sy, fi, rows.map lineOf, rfl, S9.pin.ob, S9.ln, by omega, fun A2 H10 s10 hA2 hA21 => ⟨small (by show 1 ≤ 1000; decide), fun A3 hA3 => ?_⟩⟩
      have s11 := same_new hA3 (.lst [.str "else"])
      have hw : ∃ W : List Str, wordsAt (rows.map lineOf) (k + 1 + b.length) d = W ∧ (∀ z ∈ W, PyData.strOk z = true) ∧ W ≠ [("else" : Str)] := by
        refine ⟨_, rfl, ?_, ?_⟩
        · intro z hz
          rw [wordsAt_rows hG] at hz
          cases e : rows[k + 1 + b.length]? with
          | none => rw [e] at hz; cases hz
          | some y =>
            rw [e] at hz
            dsimp only at hz
            split at hz
            · exact (hG y (List.mem_of_getElem? e)).ok z hz
            · cases hz
        · rw [wordsAt_rows hG]
          have e : rows[k + 1 + b.length]? = post.head? := by
            have z := at_post (pre := pre) (seg := (d, ("if" : Str) :: r') :: b) (post := post)
            rw [List.length_cons] at z
            rw [hrows, ← hk, ← z]
            congr 1
            omega
          rw [e]
          cases e2 : post.head? with
          | none => intro z; cases z
          | some y =>
            dsimp only
            split
            · rename_i he
              exact (haft y e2).2 he
            · intro z; cases z
      obtain ⟨W, eW, okW, neW⟩ := hw
      rw [eW] at hA21
      refine ⟨.list (W.map .str), .list (([("else" : Str)]).map .str), .lst (.inl (.inl (s11 _ _ hA21))) (dp_strs W), .lst (.inl (.inl upd_same)) (dp_strs [("else" : Str)]), shaped_strs okW, shaped_strs (by simp; decide +kernel), ?_⟩
      have ev : PyData.eqv (.list (W.map .str)) (.list (([("else" : Str)]).map .str)) = decide (W = [("else" : Str)]) := eqv_strs _ _
      rw [ev, decide_eq_false neW]
      refine ⟨_, rfl, iteF ?_⟩
      have s12 := s10.trans s11
      refine ⟨_, rfl, q a _ kvs8 (k8.trans (Keep.of_same s12)) (by
        have e : k + ((d, ("if" : Str) :: r') :: b).length = k + 1 + b.length := by rw [List.length_cons]; omega
        have e' : cnt + (nb + 1) = cnt + 1 + nb := by omega
        rw [e, e']
        exact S9.same s12) (tok.fol (Fol.of_same s12))⟩
    | both _ r' b c nb mc g1 _ hB hC =>
      obtain ⟨e1, e2⟩ : ("if" : Str) = x ∧ r' = r := by
        have z := (Prod.mk.inj (List.cons.inj eseg).1).2
        exact ⟨(List.cons.inj z).1, (List.cons.inj z).2⟩
      subst e1 e2
      refine iteT ?_
      refine ⟨_, rfl, p, dp, _, rfl, hp7, (by kernel_rfl), _, rfl, _, _, rfl, rfl, ?_⟩
      dsimp only [tNil]
      have hrows1 : rows = (pre ++ [(d, ("if" : Str) :: r')]) ++ b ++ ((d, [("else" : Str)]) :: (c ++ post)) := by
        rw [hrows]
        simp only [List.append_assoc, List.cons_append, List.nil_append]
      have hrows2 : rows = (pre ++ [(d, ("if" : Str) :: r')] ++ b ++ [(d, [("else" : Str)])]) ++ c ++ post := by
        rw [hrows]
        simp only [List.append_assoc, List.cons_append, List.nil_append]
      refine body b ((d, [("else" : Str)]) :: (c ++ post)) nb _ hrows1 hB (by omega) (fun y hy => by
        have e := Option.some.inj hy
        rw [← e]
        exact Nat.lt_succ_self d) fun lb H8 kvs8 xs kp8 S8 hlb hlb1 hne hlen hT8 => ?_
      have h8 := kp8 _ _ h7 npa nta
      have k8 : Keep p t H (upd H8 a (.ins CS dx (sf ((k : Int) + 1) "if" g lb lo 0))) := fun c o hc n1 n2 => by
        rw [upd_ne (ne_of_none hc haH)]
        exact kp8 _ _ (kp7 _ _ hc n1 n2) n1 n2
      refine ⟨_, rfl, a, CS, dx, _, rfl, h8, TS.cl, TS.nInside, (by show 6 < 1000; decide), ?_⟩
      rw [put_inside]
      have S9 := S8.setSt (li' := lb) (lo' := lo) (fo' := 0) h8
      have h9 : (upd H8 a (.ins CS dx (sf ((k : Int) + 1) "if" g lb lo 0))) a = some (.ins CS dx (sf ((k : Int) + 1) "if" g lb lo 0)) := upd_same
      have nlb : lb ≠ a := ne_of hlb1 h8 (by intro z; cases z)
      have l9 : (upd H8 a (.ins CS dx (sf ((k : Int) + 1) "if" g lb lo 0))) lb = some (.lst (xs.map V.ref)) := by rw [upd_ne nlb]; exact hlb1
      have c9 : ∀ y ∈ xs, TOk CS (New H7) (upd H8 a (.ins CS dx (sf ((k : Int) + 1) "if" g lb lo 0))) (4 - d) y := fun y hy => TOk.upd (fun z => by have z2 : H7 a = none := z; rw [h7] at z2; cases z2) h8 _ _ (hT8 y hy)
      generalize upd H8 a (.ins CS dx (sf ((k : Int) + 1) "if" g lb lo 0)) = H9 at k8 S9 h9 l9 c9 ⊢
      refine ⟨_, rfl, a, CS, dx, _, _, rfl, h9, TS.cl, TS.nWord, sf_word, rfl, _, rfl, iteT ?_⟩
      obtain ⟨⟨dp9, hp9⟩, _⟩ := id S9.pin
      refine ⟨_, rfl, p, dp9, _, rfl, hp9, (by kernel_rfl), _, rfl, p, l, m, s, t, k + 1 + b.length, d, sy, fi, rows.map lineOf, rfl, S9.pin.ob, S9.ln, by omega, fun A2 H10 s10 hA2 hA21 => ⟨small (by show 1 ≤ 1000; decide), fun A3 hA3 => ?_⟩⟩
      have s11 := same_new hA3 (.lst [.str "else"])
      have eAt : rows[k + 1 + b.length]? = some (d, [("else" : Str)]) := by
        have z := at_post (pre := pre ++ [(d, ("if" : Str) :: r')]) (seg := b) (post := (d, [("else" : Str)]) :: (c ++ post))
        rw [← hrows1, List.length_append, hk] at z
        exact z
      have eW : wordsAt (rows.map lineOf) (k + 1 + b.length) d = [("else" : Str)] := by
        rw [wordsAt_rows hG]
        rw [eAt]
        dsimp only
        rw [if_pos rfl]
      rw [eW] at hA21
      have okE : ∀ z ∈ ([("else" : Str)] : List Str), PyData.strOk z = true := by simp; decide +kernel
      refine ⟨.list (([("else" : Str)]).map .str), .list (([("else" : Str)]).map .str), .lst (.inl (.inl (s11 _ _ hA21))) (dp_strs [("else" : Str)]), .lst (.inl (.inl upd_same)) (dp_strs [("else" : Str)]), shaped_strs okE, shaped_strs okE, ?_⟩
      have ev : PyData.eqv (.list (([("else" : Str)]).map .str)) (.list (([("else" : Str)]).map .str)) = decide (([("else" : Str)]) = [("else" : Str)]) := eqv_strs _ _
      rw [ev, decide_eq_true rfl]
      refine ⟨_, rfl, iteT ?_⟩
      have s12 := s10.trans s11
      have S11 := S9.same s12
      have hp11 := s12 _ _ hp9
      have h11 := s12 _ _ h9
      have l11 := s12 _ _ l9
      have c11 : ∀ y ∈ xs, TOk CS (New H7) (upd H10 A3 (.lst [.str "else"])) (4 - d) y := fun y hy => (c9 y hy).fol (Fol.of_same s12)
      have k11 := k8.trans (Keep.of_same (t := t) (p := p) s12)
      generalize upd H10 A3 (.lst [.str "else"]) = H11 at S11 hp11 h11 l11 c11 k11 ⊢
      obtain ⟨S12, kb⟩ := S11.bump hp11 (no_at eAt (by decide +kernel))
      refine ⟨_, rfl, p, C, dp9, _, _, rfl, hp11, TP.cl, TP.nNumber, pf_number, _, _, rfl, rfl, dp9, _, hp11, (by show 7 < 1000; decide), ?_⟩
      rw [put_next]
      have h12 := kb _ _ h11 npa nta
      have hp12 : (upd H11 p (.ins C dp9 (pf l (((k + 1 + b.length + 1 : Nat) : Int) + 1) sy m s t fi))) p = some (.ins C dp9 (pf l (((k + 1 + b.length + 1 : Nat) : Int) + 1) sy m s t fi)) := upd_same
      have k12 := k11.trans kb
      have c12 : ∀ y ∈ xs, TOk CS (New H7) (upd H11 p (.ins C dp9 (pf l (((k + 1 + b.length + 1 : Nat) : Int) + 1) sy m s t fi))) (4 - d) y := fun y hy => TOk.keep ⟨dp9, _, hp11⟩ ⟨_, S11.dt⟩ S11.cc kb _ _ (c11 y hy)
      have l12 := kb _ _ l11 (ne_of l11 hp11 (by intro z; cases z)) (ne_of l11 S11.dt (by intro z; cases z))
      generalize upd H11 p (.ins C dp9 (pf l (((k + 1 + b.length + 1 : Nat) : Int) + 1) sy m s t fi)) = H12 at S12 kb h12 hp12 k12 c12 l12 ⊢
      refine ⟨_, rfl, p, dp9, _, rfl, hp12, (by kernel_rfl), _, rfl, _, _, rfl, rfl, ?_⟩
      dsimp only [tNil]
      refine ⟨p, l, m, s, t, k + 1 + b.length + 1, sy, fi, ms, ss, rows, pre ++ [(d, ("if" : Str) :: r')] ++ b ++ [(d, [("else" : Str)])], c, post, kvs8, cnt + 1 + nb, mc, (by rw [Int.natCast_add]; rfl), S12, hrows2, by simp only [List.length_append, hk]; rfl, hG, hC, by omega, haft.deeper, hsy, fun lc H13 kvs13 ys kp13 S13 hlc hlc1 hne2 hlen2 hT13 => ?_⟩
      have e4 : 5 - (d + 1) = 4 - d := by omega
      rw [e4] at hT13
      have h13 := kp13 _ _ h12 npa nta
      have l13 := kp13 _ _ l12 (ne_of l12 hp12 (by intro z; cases z)) (ne_of l12 S12.dt (by intro z; cases z))
      have c13 : ∀ y ∈ xs, TOk CS (New H7) H13 (4 - d) y := fun y hy => TOk.keep ⟨dp9, _, hp12⟩ ⟨_, S12.dt⟩ S12.cc kp13 _ _ (c12 y hy)
      refine ⟨_, rfl, a, CS, dx, _, rfl, h13, TS.cl, TS.nOtherwise, (by show 6 < 1000; decide), ?_⟩
      rw [put_otherwise]
      have nlb3 : lb ≠ a := ne_of l13 h13 (by intro z; cases z)
      have nlc3 : lc ≠ a := ne_of hlc1 h13 (by intro z; cases z)
      refine ⟨_, rfl, q a _ kvs13 (fun c o hc n1 n2 => ?_) ?_ ?_⟩
      · rw [upd_ne (ne_of_none hc haH)]
        exact kp13 _ _ (k12 _ _ hc n1 n2) n1 n2
      · have e : k + ((d, ("if" : Str) :: r') :: (b ++ (d, [("else" : Str)]) :: c)).length = k + 1 + b.length + 1 + c.length := by
          rw [List.length_cons, List.length_append, List.length_cons]; omega
        have e' : cnt + (nb + 1 + mc) = cnt + 1 + nb + mc := by omega
        rw [e, e']
        exact S13.setSt h13
      · rw [e5]
        exact ⟨haH, dx, _, _, g, lb, lc, 0, xs, ys, upd_same, by rw [upd_ne nlb3]; exact l13, by rw [upd_ne nlc3]; exact hlc1, ⟨by omega, S7.grown kp7 _ hlb, S12.grown k12 _ hlc⟩, ⟨by omega, by omega⟩,
          fun y hy => TOk.base (fun c hc => S7.grown kp7 c hc) _ _ (TOk.upd (fun z => by have z2 : H7 a = none := z; rw [h7] at z2; cases z2) h13 _ _ (c13 y hy)),
          fun y hy => TOk.base (fun c hc => S12.grown k12 c hc) _ _ (TOk.upd (fun z => by have z2 : H12 a = none := z; rw [h12] at z2; cases z2) h13 _ _ (hT13 y hy))⟩
  obtain ⟨tt, ht, hrest⟩ := rest
  refine ⟨_, (pss_cons (ps_set (i := 2) sc_Parser_read_statement.nd rfl (Or.inl rfl) (pe_meth (pv 0) TP.cl MW.m MW.ok (hr.mono (by omega)) MW.b .nil pass0 (pa_cons (pv 1) pa_nil)))
(pss_cons (ps_set (i := 3) sc_Parser_read_statement.nd rfl (Or.inl rfl) (pe_meth (pv 0) TP.cl MG.m MG.ok (hr.mono hL) MG.b .nil pass0 (pa_cons (pv 2) pa_nil)))
(pss_cons (ps_if (PW.pt (pw_or (pt_cmpR op_isN (pv 3) pe_non (nomark _)) (pw_or1 (pt_cmpR op_eq (pe_callB call_lenD (by rfl) T.len PySem.boot_len (pa_cons (pe_fld (pv 0) rfl) pa_nil)) (pe_glob (v := .int 20) rfl g20 ⟨_, rfl⟩) (nomark _)))))
(pss_one ps_never)
pss_nil)
(pss_cons (ps_set (i := 4) sc_Parser_read_statement.nd rfl (Or.inl rfl) (pe_make MI.mkr MI.ok (hr.mono (by omega)) rfl MI.mg MI.b .nil pass0 (pa_cons (pe_fld (pv 0) rfl) (pa_cons (pe_ix ix_list (pv 2) pe_int (fun _ _ => rfl)) (pa_cons (pv 3) pa_nil)))))
(pss_cons (ps_dput hu (pe_fld (pv 0) rfl) (pe_fld (pv 0) rfl) (pv 4) rfl)
(pss_cons (ps_fldaug (pv 0) pe_int in_add) ht)))))), ?_⟩
  obtain ⟨⟨dp, hp⟩, mo, hst, nm, ns⟩ := S.pin
  -- words, given
  refine ⟨_, rfl, p, dp, _, rfl, hp, (by kernel_rfl), _, rfl, p, l, m, s, t, k, d, sy, fi, rows.map lineOf, rfl, S.pin.ob, S.ln, by omega, fun A1 H1 s1 hA hA1 => ?_⟩
  rw [wordsAt_rows hG, hat] at hA1
  have hA1' : H1 A1 = some (.lst ((x :: r).map V.str)) := by
    rw [hA1]
    dsimp only
    rw [if_pos rfl]
  have S1 := S.same s1
  refine ⟨_, rfl, p, dp, _, rfl, s1 _ _ hp, (by kernel_rfl), _, rfl, p, l, m, s, t, A1, _, sy, fi, ms, ss, x, r, rfl, S1.pin, .inl (.inl hA1'), hgiv, hsy, fun g H2 s2 hg => ?_⟩
  have s12 := s1.trans s2
  have S2 := S.same s12
  refine ⟨_, rfl, rfl, _, rfl, ?_⟩
  rw [decide_eq_false hg.1]
  refine iteF ?_
  refine ⟨_, rfl, p, C, dp, _, _, rfl, s12 _ _ hp, TP.cl, TP.nStatements, pf_statements, t, kvs, rfl, S2.dt, rfl, _, rfl, ?_⟩
  have hlt : decide (V.int ((kvs.length : Nat) : Int) = V.int 20) = false := decide_eq_false fun z => by
    have := V.int.inj z
    rw [S.few] at this
    omega
  rw [hlt]
  refine iteF ?_
  -- the statement
  refine ⟨_, rfl, p, C, dp, _, _, rfl, s12 _ _ hp, TP.cl, TP.nNumber, pf_number, _, rfl, A1, _, 0, .str x, rfl, rfl, .inl (.inl (s2 _ _ hA1')), at_of (j := 0) rfl rfl, _, rfl, fun a dx ha hdx ne => ?_⟩
  refine ⟨a, dx, _, x, g, rfl, upd_same, fun li lo H3 hli hlo nll h3 hl1 hl2 k3 => ⟨rfl, ?_⟩⟩
  have sn : Same H2 (upd (upd H2 dx (.own a)) a (.ins CS dx [])) := fun b o e => by
    rw [upd_ne (ne_of_none e ha), upd_ne (ne_of_none e hdx)]
    exact e
  have s3 : Same H2 H3 := fun b o e => k3 b o (sn b o e) (ne_of_none e ha)
  have s123 := s12.trans s3
  have S3 := S.same s123
  -- self.statements[self.number] = statement
  have hnone : valV kvs (Sum.inl ((k : Int) + 1) : Key) = none := by
    cases e : valV kvs (Sum.inl ((k : Int) + 1) : Key) with
    | none => rfl
    | some v =>
      obtain ⟨kv, hkv, e2⟩ := List.mem_map.mp (valV_in e)
      obtain ⟨i, h1, h2⟩ := S.keys kv hkv
      rw [h1] at e2
      have := Sum.inl.inj e2
      omega
  refine ⟨_, rfl, _, rfl, p, C, dp, _, _, rfl, s123 _ _ hp, TP.cl, TP.nStatements, pf_statements, _, rfl, p, C, dp, _, _, rfl, s123 _ _ hp, TP.cl, TP.nNumber, pf_number, t, _, rfl, DPut.k (k := Sum.inl ((k : Int) + 1)) S3.dt (small1000 (by rw [S.few]; omega)), ?_⟩
  rw [putK_new _ hnone]
  have npt : p ≠ t := ne_of (s123 _ _ hp) S3.dt (by intro z; cases z)
  -- self.number += 1
  have hp4 : (upd H3 t (.dK (kvs ++ [((Sum.inl ((k : Int) + 1) : Key), V.ref a)]))) p = some (.ins C dp (pf l ((k : Int) + 1) sy m s t fi)) := by rw [upd_ne npt]; exact s123 _ _ hp
  refine ⟨_, rfl, p, C, dp, _, _, rfl, hp4, TP.cl, TP.nNumber, pf_number, _, _, rfl, rfl, dp, _, hp4, (by show 7 < 1000; decide), ?_⟩
  rw [put_next]
  have haH : H a = none := s12.free ha
  have npa : a ≠ p := (ne_of_none (s12 _ _ hp) ha).symm
  have nta : a ≠ t := (ne_of_none S2.dt ha).symm
  have nlt : ∀ {b : Addr} {us : List V}, H3 b = some (.lst us) → b ≠ p ∧ b ≠ t := fun h => ⟨ne_of h (s123 _ _ hp) (by intro z; cases z), ne_of h S3.dt (by intro z; cases z)⟩
  have kp : Keep p t H (upd (upd H3 t (.dK (kvs ++ [((Sum.inl ((k : Int) + 1) : Key), V.ref a)]))) p (.ins C dp (pf l (((k + 1 : Nat) : Int) + 1) sy m s t fi))) := fun b o hb n1 n2 => by
    rw [upd_ne n1, upd_ne n2]
    exact s123 _ _ hb
  refine hrest _ A1 a dx li lo g (kvs ++ [((Sum.inl ((k : Int) + 1) : Key), V.ref a)]) kp ?_ haH ?_ ?_ ?_ nll (s12.free (sn.free hli)) (s12.free (sn.free hlo))
  · have nmp : m ≠ p := ne_of mo hp (by intro z; cases z)
    have nsp : s ≠ p := ne_of hst hp (by intro z; cases z)
    obtain ⟨nlp, nl2⟩ := nlt S3.ln.at_
    refine ⟨⟨⟨dp, upd_same⟩, by rw [upd_ne nmp, upd_ne S.nm]; exact s123 _ _ mo, by rw [upd_ne nsp, upd_ne S.ns]; exact s123 _ _ hst, nm, ns⟩, ⟨by rw [upd_ne nlp, upd_ne nl2]; exact S3.ln.at_, S.ln.few, S.ln.short⟩, by rw [upd_ne npt.symm]; exact upd_same, ?_, ?_, ?_, S.nm, S.ns, S.cc, ?_⟩
    · rw [List.length_append, S.few]; rfl
    · intro kv hkv
      rcases List.mem_append.mp hkv with h | h
      · obtain ⟨i, h1, h2⟩ := S.keys kv h
        exact ⟨i, h1, by omega⟩
      · rw [List.mem_singleton.mp h]
        exact ⟨k + 1, by show Sum.inl _ = Sum.inl _; congr 1, Nat.le_refl _⟩
    · intro kv hkv
      rcases List.mem_append.mp hkv with h | h
      · obtain ⟨b, h1, h2⟩ := S.ok kv h
        exact ⟨b, h1, h2.keep S kp⟩
      · rw [List.mem_singleton.mp h]
        refine ⟨a, rfl, dx, _, x, g, li, lo, 0, by rw [upd_ne npa, upd_ne nta]; exact h3, k, (d, x :: r), rfl, hat, rfl, fun e => by
          obtain ⟨z, g1, g2⟩ := hg.2 e
          exact ⟨z, g1, by show x :: r = _; rw [e, g2]⟩⟩
    · intro i r' hi hr' hc
      by_cases e1 : i = k
      · subst e1
        exact ⟨_, List.mem_append_right _ (List.mem_singleton.mpr rfl), rfl⟩
      · obtain ⟨kv, h1, h2⟩ := S.al i r' (by omega) hr' hc
        exact ⟨kv, List.mem_append_left _ h1, h2⟩
  · rw [upd_ne npa, upd_ne nta]; exact h3
  · obtain ⟨e1, e2⟩ := nlt hl1
    rw [upd_ne e1, upd_ne e2]; exact hl1
  · obtain ⟨e1, e2⟩ := nlt hl2
    rw [upd_ne e1, upd_ne e2]; exact hl2
end
end Fg
set_option Elab.async false
set_option linter.all false
set_option maxRecDepth 100000
set_option maxHeartbeats 4000000
namespace Fg
open PySem L2 TL
abbrev s_Parser_read_body : Stmt := inClass (top 20) 8
abbrev sc_Parser_read_bodyN : List Str := ["self", "depth", "body"]
theorem sc_Parser_read_body : FnScope sc_Parser_read_bodyN ["self", "depth"] (defScope s_Parser_read_body) := ⟨rfl, rfl, rfl, by decide +kernel, rfl, by decide +kernel, by decide +kernel⟩
/-- one statement, and what may be left -/
theorem Bod.split {sy : Str} {ms ss : NV} {d : Nat} {seg : List Row} {n : Nat} (h : Bod sy ms ss d seg n) : ∃ (s t : List Row) (i j : Nat), seg = s ++ t ∧ n = i + j ∧ Stm sy ms ss d s i ∧ (t = [] ∧ j = 0 ∨ Bod sy ms ss d t j) := by
  cases h with
  | one _ s n h => exact ⟨_, [], _, 0, (List.append_nil _).symm, rfl, h, .inl ⟨rfl, rfl⟩⟩
  | more _ s t n m h1 h2 => exact ⟨s, t, n, m, rfl, rfl, h1, .inr h2⟩
theorem aft_split {sy : Str} {ms ss : NV} {d : Nat} {t post : List Row} {j : Nat} (h : t = [] ∧ j = 0 ∨ Bod sy ms ss d t j) (ha : AfterBod d post) : AfterStm d (t ++ post) := by
  rcases h with ⟨rfl, _⟩ | h
  · exact AfterStm.of_bod ha
  · exact AfterStm.bod h
section
variable {P : Program} {w : World} {K : PySem.W.Frag} {mg : Str → Option Value} {base : Heap}
theorem ok_read_body {f C CS : Addr} {fd : FuncData} {d L : Nat} (F : Fun K "read_body" "Parser.read_body" s_Parser_read_body f fd) (T1 : Consts K mg) (TP : PTxt K C) (hd : d ≤ 4) (hL : 1 ≤ L)
    (MW : Meter P w K mg base C 1 "words_at" ["self", "depth"] (spWords C)) (MS : Meter P w K mg base C L "read_statement" ["self", "depth"] (spStm C CS d)) : FnOk P w K mg base CX0 (L + 1) f fd ["self", "depth"] (spBod C CS d) := by
  refine F.ok sc_Parser_read_body (fun vs H Q E h => ?_) (fun cdv A outer st H vs Q E hr h => ?_)
  · obtain ⟨p, l, m, s, t, k, sy, fi, ms, ss, rows, pre, seg, post, kvs, cnt, n, rfl, _⟩ := h
    rfl
  obtain ⟨p, l, m, s, t, k, sy, fi, ms, ss, rows, pre, seg, post, kvs, cnt, n, rfl, S, hrows, hk, hG, hB, hcnt, haft, hsy, q⟩ := h
  obtain ⟨t4, g4⟩ := T1.mostBodies
  refine ⟨_, (pss_cons (ps_if (pt_cmpR op_gt (pv 1) (pe_glob (v := .int 4) rfl g4 ⟨_, rfl⟩) (nomark _))
(pss_one ps_never)
pss_nil)
(pss_cons (ps_set (i := 2) sc_Parser_read_body.nd rfl (Or.inl rfl) (pe_lst (pa_cons (pe_meth (pv 0) TP.cl MS.m MS.ok hr MS.b .nil pass0 (pa_cons (pv 1) pa_nil)) pa_nil)))
(pss_cons (ps_while PassesOwn.never (pt_truth (pe_meth (pv 0) TP.cl MW.m MW.ok (hr.mono hL) MW.b .nil pass0 (pa_cons (pv 1) pa_nil)) (by intro _; rfl))
(pss_one (ps_expr (pe_bm PySem.F.plainAttrs_list PySem.F.slot_list_append PySem.F.type_list_append mt_append (pv 2) (pa_cons (pe_meth (pv 0) TP.cl MS.m MS.ok hr MS.b .nil pass0 (pa_cons (pv 1) pa_nil)) pa_nil)))))
(pss_one (ps_ret (pv 2)))))), ?_⟩
  obtain ⟨⟨dp, hp⟩, _⟩ := id S.pin
  refine ⟨_, rfl, _, _, rfl, rfl, _, rfl, ?_⟩
  have e0 : decide ((4 : Int) < (d : Int)) = false := decide_eq_false (by omega)
  rw [e0]
  refine iteF ?_
  obtain ⟨s0, t0, i0, j0, rfl, rfl, hS0, hT0⟩ := hB.split
  have hrows0 : rows = pre ++ s0 ++ (t0 ++ post) := by rw [hrows]; simp only [List.append_assoc]
  have hi0 : 1 ≤ i0 := by
    obtain ⟨_, _, _, _, _, _, z⟩ := hS0.first
    exact z
  refine ⟨_, rfl, p, dp, _, rfl, hp, (by kernel_rfl), _, rfl, ?_⟩
  dsimp only [tNil]
  refine ⟨p, l, m, s, t, k, sy, fi, ms, ss, rows, pre, s0, t0 ++ post, kvs, cnt, i0, rfl, S, hrows0, hk, hG, hS0, by omega, aft_split hT0 haft, hsy, fun a H1 kvs1 k1 S1 hta => ?_⟩
  refine ⟨small (by show 1 ≤ 1000; decide), fun lb hlb => ?_⟩
  have sL := same_new hlb (.lst [.ref a])
  have hlbH : H lb = none := S1.grown k1 _ hlb
  refine ⟨fun mm σ H2 => ∃ (pre2 t2 : List Row) (j2 cnt2 : Nat) (kvs2 : List (Key × V)) (xs : List Addr), σ = [some (.ref p), some (.int (d : Int)), some (.ref lb)] ∧ mm = t2.length ∧ rows = pre2 ++ t2 ++ post ∧ (t2 = [] ∧ j2 = 0 ∨ Bod sy ms ss d t2 j2) ∧
      SAt C CS H2 p l m s t pre2.length sy fi ms ss rows kvs2 cnt2 ∧ cnt2 + j2 = cnt + (i0 + j0) ∧ pre2.length + t2.length = k + (s0 ++ t0).length ∧ Keep p t H H2 ∧ H2 lb = some (.lst (xs.map V.ref)) ∧ xs ≠ [] ∧ xs.length + j2 ≤ i0 + j0 ∧ ∀ x ∈ xs, TOk CS (fun c => New H c ∧ c ≠ lb) H2 (5 - d) x, ?_, ?_⟩
  · refine ⟨t0.length, pre ++ s0, t0, j0, cnt + i0, kvs1, [a], rfl, rfl, by rw [hrows]; simp only [List.append_assoc], hT0, ?_, by omega, by simp only [List.length_append, hk]; omega, k1.trans (Keep.of_same sL), upd_same, by simp, by simp; omega, ?_⟩
    · rw [List.length_append, hk]
      exact S1.same sL
    · intro x hx
      rw [List.mem_singleton.mp hx]
      exact (TOk.avoid hlb _ _ hta).fol (Fol.of_same sL)
  · rintro mm σ H2 ⟨pre2, t2, j2, cnt2, kvs2, xs, rfl, rfl, hr2, hT2, S2, hc2, hl2, k2, hlb2, hne, hxs, hx⟩
    obtain ⟨⟨dp2, hp2⟩, _⟩ := id S2.pin
    refine ⟨_, rfl, p, dp2, _, rfl, hp2, (by kernel_rfl), _, rfl, p, l, m, s, t, pre2.length, d, sy, fi, rows.map lineOf, rfl, S2.pin.ob, S2.ln, by omega, fun A2 H3 s3 hA2 hA21 => ?_⟩
    have S3 := S2.same s3
    have hp3 := s3 _ _ hp2
    have hlb3 := s3 _ _ hlb2
    have k3 := k2.trans (Keep.of_same s3)
    rcases hT2 with ⟨rfl, rfl⟩ | hB2
    · have eW : wordsAt (rows.map lineOf) pre2.length d = [] := by
        rw [wordsAt_rows hG]
        have e : rows[pre2.length]? = post.head? := by
          have z := at_post (pre := pre2) (seg := []) (post := post)
          rw [← hr2] at z
          exact z
        rw [e]
        cases e2 : post.head? with
        | none => rfl
        | some y =>
          dsimp only
          rw [if_neg (by have := haft y e2; omega)]
      rw [eW] at hA21
      refine ⟨false, .inl ⟨_, .inl (.inl hA21), rfl⟩, iteF ?_⟩
      refine ⟨_, rfl, q lb H3 kvs2 xs k3 ?_ hlbH hlb3 hne (by omega) fun x h => (TOk.base (fun c hc => hc.1) _ _ (hx x h)).fol (Fol.of_same s3)⟩
      have e1 : k + (s0 ++ t0).length = pre2.length := by rw [← hl2]; rfl
      have e2 : cnt + (i0 + j0) = cnt2 := by omega
      rw [e1, e2]
      exact S3
    · obtain ⟨s4, t4', i4, j4, rfl, rfl, hS4, hT4⟩ := hB2.split
      obtain ⟨x4, r4, rest4, e4, _, _, hi4⟩ := hS4.first
      have hr4 : rows = pre2 ++ s4 ++ (t4' ++ post) := by rw [hr2]; simp only [List.append_assoc]
      have eW : wordsAt (rows.map lineOf) pre2.length d = x4 :: r4 := by
        rw [wordsAt_rows hG]
        have e : rows[pre2.length]? = some (d, x4 :: r4) := by rw [hr4]; exact at_pre e4
        rw [e]
        dsimp only
        rw [if_pos rfl]
      rw [eW] at hA21
      refine ⟨true, .inl ⟨_, .inl (.inl hA21), rfl⟩, iteT ?_⟩
      refine ⟨fun σ' H' => ∃ m', m' < (s4 ++ t4').length ∧ ∃ (pre2 t2 : List Row) (j2 cnt2 : Nat) (kvs2 : List (Key × V)) (xs : List Addr), σ' = [some (.ref p), some (.int (d : Int)), some (.ref lb)] ∧ m' = t2.length ∧ rows = pre2 ++ t2 ++ post ∧ (t2 = [] ∧ j2 = 0 ∨ Bod sy ms ss d t2 j2) ∧
        SAt C CS H' p l m s t pre2.length sy fi ms ss rows kvs2 cnt2 ∧ cnt2 + j2 = cnt + (i0 + j0) ∧ pre2.length + t2.length = k + (s0 ++ t0).length ∧ Keep p t H H' ∧ H' lb = some (.lst (xs.map V.ref)) ∧ xs ≠ [] ∧ xs.length + j2 ≤ i0 + j0 ∧ ∀ x ∈ xs, TOk CS (fun c => New H c ∧ c ≠ lb) H' (5 - d) x, fun σ' H' z => z, ?_⟩
      refine ⟨_, rfl, .inl ⟨rfl, _, .inl (.inl hlb3)⟩, _, rfl, p, dp2, _, rfl, hp3, (by kernel_rfl), _, rfl, ?_⟩
      dsimp only [tNil]
      refine ⟨p, l, m, s, t, pre2.length, sy, fi, ms, ss, rows, pre2, s4, t4' ++ post, kvs2, cnt2, i4, rfl, S3, hr4, rfl, hG, hS4, by omega, aft_split hT4 haft, hsy, fun a5 H5 kvs5 k5 S5 hta5 => ?_⟩
      have nlp : lb ≠ p := ne_of hlb3 hp3 (by intro z; cases z)
      have nlt : lb ≠ t := ne_of hlb3 S3.dt (by intro z; cases z)
      have hlb5 := k5 _ _ hlb3 nlp nlt
      refine ⟨lb, _, _, rfl, rfl, hlb5, ?_, ?_⟩
      · rw [List.length_map]
        exact small1000 (by omega)
      · have el : xs.map V.ref ++ [V.ref a5] = (xs ++ [a5]).map V.ref := by rw [List.map_append]; rfl
        rw [el]
        obtain ⟨⟨dp5, hp5⟩, mo5, st5, _, _⟩ := id S5.pin
        have kk : Keep p t H (upd H5 lb (.lst ((xs ++ [a5]).map V.ref))) := fun b o hb n1 n2 => by
          rw [upd_ne (ne_of_none hb hlbH)]
          exact k5 _ _ (k3 _ _ hb n1 n2) n1 n2
        have nb : ∀ {b : Addr} {o : HO}, H5 b = some o → (∀ us, o ≠ .lst us) → b ≠ lb := fun h z => ne_of h hlb5 (z _)
        have nlbN : ¬ (fun c => New H c ∧ c ≠ lb) lb := fun z => z.2 rfl
        refine ⟨t4'.length, by rw [List.length_append]; have z : 1 ≤ s4.length := by (rw [e4, List.length_cons]; omega)
                               omega, pre2 ++ s4, t4', j4, cnt2 + i4, kvs5, xs ++ [a5], rfl, rfl, by rw [hr4]; simp only [List.append_assoc], hT4, ?_, by omega, by rw [List.length_append]; rw [List.length_append] at hl2; omega, kk, upd_same, by simp, by rw [List.length_append]; show xs.length + 1 + j4 ≤ _; omega, ?_⟩
        · have nlp5 : p ≠ lb := nlp.symm
          have n1 : m ≠ lb := ne_of mo5 hlb5 (by intro z; cases z)
          have n2 : s ≠ lb := ne_of st5 hlb5 (by intro z; cases z)
          have n3 : l ≠ lb := fun z => by
            have h1 := S.ln.at_
            rw [z, hlbH] at h1
            cases h1
          obtain ⟨_, _, _, nm5, ns5⟩ := id S5.pin
          rw [List.length_append]
          refine ⟨⟨⟨dp5, by rw [upd_ne nlp5]; exact hp5⟩, by rw [upd_ne n1]; exact mo5, by rw [upd_ne n2]; exact st5, nm5, ns5⟩, ⟨by rw [upd_ne n3]; exact S5.ln.at_, S5.ln.few, S5.ln.short⟩, by rw [upd_ne nlt.symm]; exact S5.dt, S5.few, S5.keys, fun kv h => ?_, S5.nm, S5.ns, S5.cc, S5.al⟩
          obtain ⟨b, h1, dx, ln, wd, g, li, lo, fo, h2, h3⟩ := S5.ok kv h
          exact ⟨b, h1, dx, ln, wd, g, li, lo, fo, by rw [upd_ne (ne_of h2 hlb5 (by intro z; cases z))]; exact h2, h3⟩
        · intro x h
          rcases List.mem_append.mp h with h | h
          · exact TOk.updL nlbN _ _ (TOk.keep ⟨dp2, _, hp3⟩ ⟨_, S3.dt⟩ S3.cc k5 _ _ ((hx x h).fol (Fol.of_same s3)))
          · rw [List.mem_singleton.mp h]
            refine TOk.updL nlbN _ _ (TOk.base (fun c hc => ⟨S3.grown k3 c hc, fun z => ?_⟩) _ _ hta5)
            rw [z] at hc
            have hc2 : H3 lb = none := hc
            rw [hlb3] at hc2
            cases hc2
end
end Fg
set_option Elab.async false
set_option linter.all false
set_option maxRecDepth 100000
set_option maxHeartbeats 4000000
namespace Fg
open PySem L2 TL
/-- all is as it was but the parser, the dict of statements and what follows statements -/
def KeepF (CS p t : Addr) (H H' : Hp) : Prop := ∀ b o, H b = some o → b ≠ p → b ≠ t → (∀ dx fs, o ≠ .ins CS dx fs) → H' b = some o
theorem Keep.f {CS p t : Addr} {H H' : Hp} (e : Keep p t H H') : KeepF CS p t H H' := fun b o h n1 n2 _ => e b o h n1 n2
theorem Fol.f {CS p t : Addr} {H H' : Hp} (e : Fol CS H H') : KeepF CS p t H H' := fun b o h _ _ n => by
  rcases e b o h with h1 | ⟨dx, _, _, _, _, _, _, _, e1, _⟩
  · exact h1
  · exact absurd e1 (n _ _)
theorem KeepF.trans {CS p t : Addr} {H H1 H2 : Hp} (a : KeepF CS p t H H1) (b : KeepF CS p t H1 H2) : KeepF CS p t H H2 := fun c o h n1 n2 n => b c o (a c o h n1 n2 n) n1 n2 n
theorem SAt.fol {C CS : Addr} {H H' : Hp} {p l m s t : Addr} {k : Nat} {sy : Str} {fi : Int} {ms ss : NV} {rows : List Row} {kvs : List (Key × V)} {cnt : Nat} (S : SAt C CS H p l m s t k sy fi ms ss rows kvs cnt) (e : Fol CS H H') : SAt C CS H' p l m s t k sy fi ms ss rows kvs cnt := by
  obtain ⟨⟨dp, hp⟩, mo, st, nm, ns⟩ := S.pin
  have f : ∀ {b : Addr} {o : HO}, H b = some o → (∀ dx fs, o ≠ .ins CS dx fs) → H' b = some o := fun {b o} h n => by
    rcases e b o h with h1 | ⟨dx, _, _, _, _, _, _, _, e1, _⟩
    · exact h1
    · exact absurd e1 (n _ _)
  refine ⟨⟨⟨dp, f hp fun dx fs z => by injection z with q; exact S.cc q⟩, f mo (by intro _ _ z; cases z), f st (by intro _ _ z; cases z), nm, ns⟩, ⟨f S.ln.at_ (by intro _ _ z; cases z), S.ln.few, S.ln.short⟩, f S.dt (by intro _ _ z; cases z), S.few, S.keys, fun kv h => ?_, S.nm, S.ns, S.cc, S.al⟩
  obtain ⟨a, h1, dx, ln, wd, g, li, lo, fo, h2, h3⟩ := S.ok kv h
  obtain ⟨fo', h4⟩ := e.st h2
  exact ⟨a, h1, dx, ln, wd, g, li, lo, fo', h4, h3⟩
section
variable {P : Program} {w : World} {K : PySem.W.Frag} {mg : Str → Option Value} {base : Heap}
/-! ### the tower of bodies -/
theorem ok_body5 {f C CS : Addr} {fd : FuncData} : FnOk P w K mg base CX0 4 f fd ["self", "depth"] (spBod C CS 5) := by
  have no : ∀ vs H Q E, ¬ spBod C CS 5 vs H Q E := fun vs H Q E h => by
    obtain ⟨p, l, m, s, t, k, sy, fi, ms, ss, rows, pre, seg, post, kvs, cnt, n, _, _, _, _, _, hB, _⟩ := h
    obtain ⟨_, _, _, _, _, h5, _⟩ := hB.first
    omega
  exact ⟨fun vs H Q E h => absurd h (no vs H Q E), fun A outer s H args us vs Q E _ _ _ _ h => absurd h (no vs H Q E)⟩
theorem ok_bodies {fB fS C CS : Addr} {fdB fdS : FuncData} (FB : Fun K "read_body" "Parser.read_body" s_Parser_read_body fB fdB) (FS : Fun K "read_statement" "Parser.read_statement" s_Parser_read_statement fS fdS) (mB : Meth K C "read_body" fB) (mS : Meth K C "read_statement" fS) (bB : Binds K fdB ["self", "depth"] []) (bS : Binds K fdS ["self", "depth"] [])
    (T : Bare mg) (T1 : Consts K mg) (TP : PTxt K C) (TS : STxt K CS) (MW : Meter P w K mg base C 1 "words_at" ["self", "depth"] (spWords C)) (MG : Meter P w K mg base C 3 "given_by" ["self", "words"] (spGiven K C)) (MI : Maker P w K mg base CS 1 "Statement" ["self", "line", "word", "given"] (spStInit CS)) :
    ∀ j, j ≤ 4 → FnOk P w K mg base CX0 (2 * j + 4) fB fdB ["self", "depth"] (spBod C CS (5 - j))
  | 0, _ => ok_body5
  | j + 1, hj => by
    have ih := ok_bodies FB FS mB mS bB bS T T1 TP TS MW MG MI j (by omega)
    have e : 5 - j = (5 - (j + 1)) + 1 := by omega
    rw [e] at ih
    have hs := ok_read_statement FS T T1 TP TS (d := 5 - (j + 1)) (by omega) (by omega) MW MG MI ⟨fB, fdB, ih, mB, bB⟩
    exact ok_read_body FB T1 TP (by omega) (by omega) MW ⟨fS, fdS, hs, mS, bS⟩
/-! ### read_whole_body -/
abbrev s_Parser_read_whole_body : Stmt := inClass (top 20) 7
abbrev sc_Parser_read_whole_bodyN : List Str := ["self", "body"]
theorem sc_Parser_read_whole_body : FnScope sc_Parser_read_whole_bodyN ["self"] (defScope s_Parser_read_whole_body) := ⟨rfl, rfl, rfl, by decide +kernel, rfl, by decide +kernel, by decide +kernel⟩
def spWhole (C CS : Addr) : Sp := fun vs H Q _ => ∃ (p l m s t : Addr) (k : Nat) (sy : Str) (fi : Int) (ms ss : NV) (rows pre seg post : List Row) (kvs : List (Key × V)) (cnt n : Nat), vs = [.ref p] ∧
  SAt C CS H p l m s t k sy fi ms ss rows kvs cnt ∧ rows = pre ++ seg ++ post ∧ pre.length = k + 1 ∧ Good rows ∧ Bod sy ms ss 1 seg n ∧ cnt + n ≤ 20 ∧ AfterBod 1 post ∧ sy.length ≤ 10 ∧ (∀ r, rows[k]? = some r → ¬ WC r) ∧
  ∀ (v : Nat) (H' : Hp) (kvs' : List (Key × V)), KeepF CS p t H H' → SAt C CS H' p l m s t (k + 1 + seg.length) sy fi ms ss rows kvs' (cnt + n) → Q (.int (v : Int)) H'
theorem ok_read_whole_body {f C CS : Addr} {fd : FuncData} (F : Fun K "read_whole_body" "Parser.read_whole_body" s_Parser_read_whole_body f fd) (TP : PTxt K C) (TS : STxt K CS) (MB : Meter P w K mg base C 12 "read_body" ["self", "depth"] (spBod C CS 1)) (CL : Callee P w K mg base 5 "link" ["body", "end"] (spLink CS 5)) :
    FnOk P w K mg base CX0 13 f fd ["self"] (spWhole C CS) := by
  refine F.ok sc_Parser_read_whole_body (fun vs H Q E h => ?_) (fun cdv A outer st H vs Q E hr h => ?_)
  · obtain ⟨p, l, m, s, t, k, sy, fi, ms, ss, rows, pre, seg, post, kvs, cnt, n, rfl, _⟩ := h
    rfl
  obtain ⟨p, l, m, s, t, k, sy, fi, ms, ss, rows, pre, seg, post, kvs, cnt, n, rfl, S, hrows, hk, hG, hB, hcnt, haft, hsy, hno, q⟩ := h
  refine ⟨_, (pss_cons (ps_fldaug (pv 0) pe_int in_add)
(pss_cons (ps_set (i := 1) sc_Parser_read_whole_body.nd rfl (Or.inl rfl) (pe_meth (pv 0) TP.cl MB.m MB.ok (hr.mono (by decide)) MB.b .nil pass0 (pa_cons pe_int pa_nil)))
(pss_cons (ps_expr (pe_call CL.ok (hr.mono (by decide)) rfl CL.mg CL.kp CL.b .nil pass0 (pa_cons (pv 1) (pa_cons pe_int pa_nil))))
(pss_one (ps_ret (pe_fld (pe_ix ix_list (pv 1) pe_int (fun _ _ => rfl)) rfl)))))), ?_⟩
  obtain ⟨⟨dp, hp⟩, _⟩ := id S.pin
  obtain ⟨S1, k1⟩ := S.bump hp hno
  refine ⟨_, rfl, p, C, dp, _, _, rfl, hp, TP.cl, TP.nNumber, pf_number, _, _, rfl, rfl, dp, _, hp, (by show 7 < 1000; decide), ?_⟩
  rw [put_next]
  obtain ⟨⟨dp1, hp1⟩, _⟩ := id S1.pin
  refine ⟨_, rfl, p, dp1, _, rfl, hp1, (by kernel_rfl), ?_⟩
  refine ⟨p, l, m, s, t, k + 1, sy, fi, ms, ss, rows, pre, seg, post, kvs, cnt, n, rfl, S1, hrows, hk, hG, hB, hcnt, haft, hsy, fun lb H2 kvs2 xs k2 S2 hlb hlb2 hne hlen hT => ?_⟩
  refine ⟨_, rfl, lb, 0, xs, _, rfl, hlb2, by omega, hT, fun H3 f3 => ?_⟩
  have S3 := S2.fol f3
  have hlb3 := f3.lst hlb2
  cases xs with
  | nil => exact absurd rfl hne
  | cons a r =>
    obtain ⟨_, dx, ln, wd, g, li, lo, fo, us, vs, h1, h2, h3, h4, h5, h6, h7⟩ := (hT a List.mem_cons_self).fol f3
    refine ⟨_, rfl, lb, _, 0, .ref a, rfl, rfl, .inl (.inl hlb3), at_of (j := 0) rfl rfl, a, CS, dx, _, _, rfl, h1, TS.cl, TS.nLine, sf_line, ?_⟩
    have e : ln = ((ln.toNat : Nat) : Int) := by omega
    rw [e]
    exact q ln.toNat H3 kvs2 ((k1.f.trans k2.f).trans f3.f) S3
end
end Fg
set_option Elab.async false
set_option linter.all false
set_option maxRecDepth 100000
set_option maxHeartbeats 4000000
namespace Fg
open PySem L2 TL
def reserved : List Str := ["symbols", "cell", "part", "main", "right", "left", "write", "copy", "set", "add", "if", "else", "while", "do", "stop", "at", "not"].map Str.ofString
structure NameOk (z : Str) : Prop where
  len : z.length ≤ 8
  let_ : ofLetters z = true
  free : z ∉ reserved
theorem valV_none {l : NV} {z : Str} (h : z ∉ l.map (·.1)) : valV (kvS l) (Sum.inr z : Key) = none := by
  cases e : valV (kvS l) (Sum.inr z : Key) with
  | none => rfl
  | some v =>
    have m := valV_in e
    unfold kvS at m
    rw [List.map_map] at m
    obtain ⟨x, hx, e2⟩ := List.mem_map.mp m
    have e3 : x.1 = z := Sum.inr.inj e2
    exact absurd (List.mem_map.mpr ⟨x, hx, e3⟩) h
theorem kvS_snoc (l : NV) (x : Str) (v : Nat) : kvS l ++ [((Sum.inr x : Key), V.int (v : Int))] = kvS (l ++ [(x, v)]) := by
  unfold kvS
  rw [List.map_append]
  rfl
abbrev s_Parser_is_new_name : Stmt := inClass (top 20) 6
abbrev sc_Parser_is_new_nameN : List Str := ["self", "word"]
theorem sc_Parser_is_new_name : FnScope sc_Parser_is_new_nameN ["self", "word"] (defScope s_Parser_is_new_name) := ⟨rfl, rfl, rfl, by decide +kernel, rfl, by decide +kernel, by decide +kernel⟩
def spNew (C : Addr) : Sp := fun vs H Q _ => ∃ (p l m s t : Addr) (n : Int) (sy : Str) (fi : Int) (ms ss : NV) (z : Str), vs = [.ref p, .str z] ∧ PIn C H p l m s t n sy fi ms ss ∧ NameOk z ∧ z ∉ ms.map (·.1) ∧ z ∉ ss.map (·.1) ∧ ∀ H', Same H H' → Q (.bl true) H'
/-- all is as it was but the parser, its three dicts and what follows statements -/
def KeepP (CS p m s t : Addr) (H H' : Hp) : Prop := ∀ b o, H b = some o → b ≠ p → b ≠ m → b ≠ s → b ≠ t → (∀ dx fs, o ≠ .ins CS dx fs) → H' b = some o
theorem KeepF.p {CS p m s t : Addr} {H H' : Hp} (e : KeepF CS p t H H') : KeepP CS p m s t H H' := fun b o h n1 _ _ n2 n => e b o h n1 n2 n
theorem KeepP.of_same {CS p m s t : Addr} {H H' : Hp} (e : Same H H') : KeepP CS p m s t H H' := fun b o h _ _ _ _ _ => e b o h
theorem KeepP.trans {CS p m s t : Addr} {H H1 H2 : Hp} (a : KeepP CS p m s t H H1) (b : KeepP CS p m s t H1 H2) : KeepP CS p m s t H H2 := fun c o h n1 n2 n3 n4 n => b c o (a c o h n1 n2 n3 n4 n) n1 n2 n3 n4 n
section
variable {P : Program} {w : World} {K : PySem.W.Frag} {mg : Str → Option Value} {base : Heap}
theorem ok_is_new_name {f C : Addr} {fd : FuncData} (F : Fun K "is_new_name" "Parser.is_new_name" s_Parser_is_new_name f fd) (T : Bare mg) (T1 : Consts K mg) (T2 : Consts2 K mg) (TP : PTxt K C) (CL : Callee P w K mg base 1 "is_of_letters" ["word"] (spText1 ofLetters)) :
    FnOk P w K mg base CX0 2 f fd ["self", "word"] (spNew C) := by
  refine F.ok sc_Parser_is_new_name (fun vs H Q E h => ?_) (fun cdv A outer st H vs Q E hr h => ?_)
  · obtain ⟨p, l, m, s, t, n, sy, fi, ms, ss, z, rfl, _⟩ := h
    rfl
  obtain ⟨p, l, m, s, t, n, sy, fi, ms, ss, z, rfl, I, hz, h1, h2, q⟩ := h
  have hu := hu_of hr
  obtain ⟨t8, g8⟩ := T1.longest
  obtain ⟨aW, gW, sW⟩ := T2.words
  refine ⟨_, (pss_cons (ps_if (PW.pt (pw_or (pt_cmpR op_gt (pe_callB call_len_str (by rfl) T.len PySem.boot_len (pa_cons (pv 1) pa_nil)) (pe_glob (v := .int 8) rfl g8 ⟨_, rfl⟩) (nomark _)) (pw_or1 (pt_not (pt_val (pe_call CL.ok hr rfl CL.mg CL.kp CL.b .nil pass0 (pa_cons (pv 1) pa_nil)))))))
(pss_one (ps_ret pe_bl))
pss_nil)
(pss_one (ps_ret (pe_and (pe_cmpR op_notIn_seq (pv 1) (pe_glob (v := .ref aW) rfl gW rfl) (by rfl)) (pe_and (pe_cmp (pc_dnotin hu (pv 1) (pe_fld (pv 0) rfl)) rfl) (pe_one (pe_cmp (pc_dnotin hu (pv 1) (pe_fld (pv 0) rfl)) rfl))))))), ?_⟩
  refine ⟨_, rfl, _, rfl, small (by have := hz.len; omega), _, _, rfl, rfl, _, rfl, ?_⟩
  have e0 : decide ((8 : Int) < ((z.length : Nat) : Int)) = false := decide_eq_false (by have := hz.len; omega)
  rw [e0]
  refine iteF ?_
  refine ⟨_, rfl, z, rfl, by have := hz.len; omega, fun H1 s1 => ⟨_, rfl, ?_⟩⟩
  rw [hz.let_]
  refine iteF ?_
  obtain ⟨⟨dp, hp⟩, mo, hst, _, _⟩ := I.same s1
  refine ⟨_, rfl, aW, _, rfl, .inr (sW _), rfl, rfl, ?_⟩
  have e1 : inV (.str z) (["symbols", "cell", "part", "main", "right", "left", "write", "copy", "set", "add", "if", "else", "while", "do", "stop", "at", "not"].map fun z => V.str (Str.ofString z)) = false := by
    have e : (["symbols", "cell", "part", "main", "right", "left", "write", "copy", "set", "add", "if", "else", "while", "do", "stop", "at", "not"].map fun z => V.str (Str.ofString z)) = reserved.map V.str := by
      unfold reserved
      rw [List.map_map]
      rfl
    rw [e, inV_str]
    exact decide_eq_false hz.free
  show ∃ c, V.bl (!inV _ _) = .bl c ∧ _
  rw [e1]
  refine ⟨_, rfl, iteT ?_⟩
  refine ⟨_, rfl, _, rfl, p, C, dp, _, _, rfl, hp, TP.cl, TP.nMosts, pf_mosts, m, _, rfl, DGet.k (k := Sum.inr z) mo, _, rfl, ?_⟩
  rw [valV_none h1]
  refine iteT ?_
  refine ⟨_, rfl, _, rfl, p, C, dp, _, _, rfl, hp, TP.cl, TP.nStarts, pf_starts, s, _, rfl, DGet.k (k := Sum.inr z) hst, ?_⟩
  rw [valV_none h2]
  exact q H1 s1
/-! ### read_cell -/
abbrev s_Parser_read_cell : Stmt := inClass (top 20) 4
abbrev sc_Parser_read_cellN : List Str := ["self", "words"]
theorem sc_Parser_read_cell : FnScope sc_Parser_read_cellN ["self"] (defScope s_Parser_read_cell) := ⟨rfl, rfl, rfl, by decide +kernel, rfl, by decide +kernel, by decide +kernel⟩
def spCell (C CS : Addr) : Sp := fun vs H Q _ => ∃ (p l m s t : Addr) (k : Nat) (sy : Str) (fi : Int) (ms ss : NV) (rows : List Row) (kvs : List (Key × V)) (cnt : Nat) (x : Str) (v : Nat), vs = [.ref p] ∧
  SAt C CS H p l m s t k sy fi ms ss rows kvs cnt ∧ m ≠ s ∧ Good rows ∧ rows[k]? = some (0, [("cell" : Str), x, numS v]) ∧ ms.length < 2 ∧ 1 ≤ v ∧ v ≤ 2 ∧ NameOk x ∧ x ∉ ms.map (·.1) ∧ x ∉ ss.map (·.1) ∧
  ∀ (H' : Hp), KeepP CS p m s t H H' → SAt C CS H' p l m s t (k + 1) sy fi (ms ++ [(x, v)]) ss rows kvs cnt → Q .non H'
theorem ok_read_cell {f C CS : Addr} {fd : FuncData} (F : Fun K "read_cell" "Parser.read_cell" s_Parser_read_cell f fd) (T : Bare mg) (T1 : Consts K mg) (TP : PTxt K C) (MW : Meter P w K mg base C 1 "words_at" ["self", "depth"] (spWords C)) (MN : Meter P w K mg base C 2 "is_new_name" ["self", "word"] (spNew C)) :
    FnOk P w K mg base CX0 3 f fd ["self"] (spCell C CS) := by
  refine F.ok sc_Parser_read_cell (fun vs H Q E h => ?_) (fun cdv A outer st H vs Q E hr h => ?_)
  · obtain ⟨p, l, m, s, t, k, sy, fi, ms, ss, rows, kvs, cnt, x, v, rfl, _⟩ := h
    rfl
  obtain ⟨p, l, m, s, t, k, sy, fi, ms, ss, rows, kvs, cnt, x, v, rfl, S, hms, hG, hat, hml, hv1, hv2, hx, hx1, hx2, q⟩ := h
  have hu := hu_of hr
  obtain ⟨t2, g2⟩ := T1.mostCells
  refine ⟨_, (pss_cons (ps_set (i := 1) sc_Parser_read_cell.nd rfl (Or.inl rfl) (pe_meth (pv 0) TP.cl MW.m MW.ok (hr.mono (by decide)) MW.b .nil pass0 (pa_cons pe_int pa_nil)))
(pss_cons (ps_if (PW.pt (pw_or (pt_cmpR op_ne (pe_callB call_len_seq (by rfl) T.len PySem.boot_len (pa_cons (pv 1) pa_nil)) pe_int (nomark _)) (pw_or1 (pt_cmpR op_eq (pe_callB call_lenD (by rfl) T.len PySem.boot_len (pa_cons (pe_fld (pv 0) rfl) pa_nil)) (pe_glob (v := .int 2) rfl g2 ⟨_, rfl⟩) (nomark _)))))
(pss_one ps_never)
pss_nil)
(pss_cons (ps_if (PW.pt (pw_or (pt_not (pt_val (pe_meth (pv 0) TP.cl MN.m MN.ok hr MN.b .nil pass0 (pa_cons (pe_ix ix_list (pv 1) pe_int (fun _ _ => rfl)) pa_nil)))) (pw_or1 (pt_cmpR op_notIn_seq (pe_ix ix_list (pv 1) pe_int (fun _ _ => rfl)) (pe_tup (pa_cons pe_str (pa_cons pe_str pa_nil))) (by rfl)))))
(pss_one ps_never)
pss_nil)
(pss_cons (ps_dput hu (pe_fld (pv 0) rfl) (pe_ix ix_list (pv 1) pe_int (fun _ _ => rfl)) (pe_callTy call_int_str (by rfl) T.int (by decide +kernel) (pa_cons (pe_ix ix_list (pv 1) pe_int (fun _ _ => rfl)) pa_nil)) rfl)
(pss_one (ps_fldaug (pv 0) pe_int in_add)))))), ?_⟩
  obtain ⟨⟨dp, hp⟩, mo, hst, nm, ns⟩ := id S.pin
  refine ⟨_, rfl, p, dp, _, rfl, hp, (by kernel_rfl), p, l, m, s, t, k, 0, sy, fi, rows.map lineOf, rfl, S.pin.ob, S.ln, by omega, fun A1 H1 s1 hA hA1 => ?_⟩
  rw [wordsAt_rows hG, hat] at hA1
  have hA1' : H1 A1 = some (.lst [.str "cell", .str x, .str (numS v)]) := by
    rw [hA1]
    rfl
  have hS : SqL K H1 A1 [.str "cell", .str x, .str (numS v)] := .inl (.inl hA1')
  have S1 := S.same s1
  refine ⟨_, rfl, A1, _, rfl, .inl hS, rfl, _, rfl, iteF ?_⟩
  refine ⟨_, rfl, p, C, dp, _, _, rfl, s1 _ _ hp, TP.cl, TP.nMosts, pf_mosts, m, _, rfl, s1 _ _ mo, rfl, _, rfl, ?_⟩
  have e0 : decide (V.int (((kvS ms).length : Nat) : Int) = V.int 2) = false := decide_eq_false fun z => by
    have z2 := V.int.inj z
    unfold kvS at z2
    rw [List.length_map] at z2
    omega
  rw [e0]
  refine iteF ?_
  refine ⟨_, rfl, p, dp, _, rfl, s1 _ _ hp, (by kernel_rfl), _, rfl, A1, _, 1, .str x, rfl, rfl, hS, rfl, p, l, m, s, t, _, sy, fi, ms, ss, x, rfl, S1.pin, hx, hx1, hx2, fun H2 s2 => ⟨_, rfl, iteF ?_⟩⟩
  have S2 := S1.same s2
  refine ⟨_, rfl, A1, _, 2, .str (numS v), rfl, rfl, s2.seq hS, rfl, small (by show 2 ≤ 1000; decide), fun T0 hT0 => ?_⟩
  have s3 := same_new hT0 (.tup [.str "1", .str "2"])
  have hin : inV (.str (numS v)) [.str "1", .str "2"] = true := by
    have hd : v = 1 ∨ v = 2 := by omega
    rcases hd with rfl | rfl <;> decide +kernel
  refine ⟨T0, _, rfl, .inr (.inl (.inl upd_same)), rfl, rfl, _, rfl, ?_⟩
  dsimp only
  rw [hin]
  refine iteF ?_
  have S3 := S2.same s3
  have s123 := (s1.trans s2).trans s3
  have hS3 := s3.seq (s2.seq hS)
  generalize upd H2 T0 (.tup [.str "1", .str "2"]) = H3 at s3 S3 s123 hS3 ⊢
  obtain ⟨⟨dp3, hp3⟩, mo3, st3, _, _⟩ := id S3.pin
  refine ⟨_, rfl, A1, _, 2, .str (numS v), rfl, rfl, hS3, rfl, _, _, rfl, (num_int hv2).1, (num_int hv2).2, ?_⟩
  refine ⟨_, rfl, p, C, dp3, _, _, rfl, hp3, TP.cl, TP.nMosts, pf_mosts, _, rfl, A1, _, 1, .str x, rfl, rfl, hS3, rfl, m, _, rfl, DPut.k (k := Sum.inr x) mo3 (small1000 (by unfold kvS; rw [List.length_map]; omega)), ?_⟩
  rw [putK_new _ (valV_none hx1), kvS_snoc]
  have npm : p ≠ m := ne_of hp3 mo3 (by intro z; cases z)
  have hp4 : (upd H3 m (.dK (kvS (ms ++ [(x, v)])))) p = some (.ins C dp3 (pf l ((k : Int) + 1) sy m s t fi)) := by rw [upd_ne npm]; exact hp3
  have S4 : SAt C CS (upd H3 m (.dK (kvS (ms ++ [(x, v)])))) p l m s t k sy fi (ms ++ [(x, v)]) ss rows kvs cnt := by
    have nlm : l ≠ m := ne_of S3.ln.at_ mo3 (by intro z; cases z)
    refine ⟨⟨⟨dp3, hp4⟩, upd_same, by rw [upd_ne hms.symm]; exact st3, ?_, ns⟩, ⟨by rw [upd_ne nlm]; exact S3.ln.at_, S.ln.few, S.ln.short⟩, by rw [upd_ne S.nm.symm]; exact S3.dt, S.few, S.keys, fun kv h => ?_, S.nm, S.ns, S.cc, S.al⟩
    · rw [List.map_append]
      exact List.nodup_append.mpr ⟨nm, by simp, fun y hy z hz e => hx1 (by
        have e2 : z = x := by simpa using hz
        rw [← e2, ← e]
        exact hy)⟩
    · obtain ⟨b, h1, dx, ln, wd, g, li, lo, fo, h2, h3⟩ := S3.ok kv h
      exact ⟨b, h1, dx, ln, wd, g, li, lo, fo, by rw [upd_ne (ne_of h2 mo3 (by intro z; cases z))]; exact h2, h3⟩
  obtain ⟨S5, k5⟩ := S4.bump hp4 (no_at hat (by decide +kernel))
  refine ⟨_, rfl, p, C, dp3, _, _, rfl, hp4, TP.cl, TP.nNumber, pf_number, _, _, rfl, rfl, dp3, _, hp4, (by show 7 < 1000; decide), ?_⟩
  rw [put_next]
  refine q _ (fun b o h n1 n2 n3 n4 n => ?_) S5
  rw [upd_ne n1, upd_ne n2]
  exact s123 _ _ h
end
end Fg
set_option Elab.async false
set_option linter.all false
set_option maxRecDepth 100000
set_option maxHeartbeats 4000000
namespace Fg
open PySem L2 TL
abbrev s_Parser_read_part : Stmt := inClass (top 20) 5
abbrev sc_Parser_read_partN : List Str := ["self", "words"]
theorem sc_Parser_read_part : FnScope sc_Parser_read_partN ["self"] (defScope s_Parser_read_part) := ⟨rfl, rfl, rfl, by decide +kernel, rfl, by decide +kernel, by decide +kernel⟩
def spPart (C CS : Addr) : Sp := fun vs H Q _ => ∃ (p l m s t : Addr) (k : Nat) (sy : Str) (fi : Int) (ms ss : NV) (rows pre seg post : List Row) (kvs : List (Key × V)) (cnt n : Nat) (x : Str), vs = [.ref p] ∧
  SAt C CS H p l m s t k sy fi ms ss rows kvs cnt ∧ m ≠ s ∧ Good rows ∧ rows = pre ++ seg ++ post ∧ pre.length = k + 1 ∧ rows[k]? = some (0, [("part" : Str), x]) ∧ Bod sy ms ss 1 seg n ∧ cnt + n ≤ 20 ∧ AfterBod 1 post ∧ sy.length ≤ 10 ∧ ss.length < 2 ∧ NameOk x ∧ x ∉ ms.map (·.1) ∧ x ∉ ss.map (·.1) ∧
  ∀ (H' : Hp) (v : Nat) (kvs' : List (Key × V)), KeepP CS p m s t H H' → SAt C CS H' p l m s t (k + 1 + seg.length) sy fi ms (ss ++ [(x, v)]) rows kvs' (cnt + n) → Q .non H'
section
variable {P : Program} {w : World} {K : PySem.W.Frag} {mg : Str → Option Value} {base : Heap}
theorem ok_read_part {f C CS : Addr} {fd : FuncData} (F : Fun K "read_part" "Parser.read_part" s_Parser_read_part f fd) (T : Bare mg) (T1 : Consts K mg) (TP : PTxt K C) (MW : Meter P w K mg base C 1 "words_at" ["self", "depth"] (spWords C)) (MN : Meter P w K mg base C 2 "is_new_name" ["self", "word"] (spNew C)) (MB : Meter P w K mg base C 13 "read_whole_body" ["self"] (spWhole C CS)) :
    FnOk P w K mg base CX0 14 f fd ["self"] (spPart C CS) := by
  refine F.ok sc_Parser_read_part (fun vs H Q E h => ?_) (fun cdv A outer st H vs Q E hr h => ?_)
  · obtain ⟨p, l, m, s, t, k, sy, fi, ms, ss, rows, pre, seg, post, kvs, cnt, n, x, rfl, _⟩ := h
    rfl
  obtain ⟨p, l, m, s, t, k, sy, fi, ms, ss, rows, pre, seg, post, kvs, cnt, n, x, rfl, S, hms, hG, hrows, hk, hat, hB, hcnt, haft, hsy, hsl, hx, hx1, hx2, q⟩ := h
  have hu := hu_of hr
  obtain ⟨t2, g2⟩ := T1.mostParts
  refine ⟨_, (pss_cons (ps_set (i := 1) sc_Parser_read_part.nd rfl (Or.inl rfl) (pe_meth (pv 0) TP.cl MW.m MW.ok (hr.mono (by decide)) MW.b .nil pass0 (pa_cons pe_int pa_nil)))
(pss_cons (ps_if (PW.pt (pw_or (pt_cmpR op_ne (pe_callB call_len_seq (by rfl) T.len PySem.boot_len (pa_cons (pv 1) pa_nil)) pe_int (nomark _)) (pw_or (pt_cmpR op_eq (pe_callB call_lenD (by rfl) T.len PySem.boot_len (pa_cons (pe_fld (pv 0) rfl) pa_nil)) (pe_glob (v := .int 2) rfl g2 ⟨_, rfl⟩) (nomark _)) (pw_or1 (pt_not (pt_val (pe_meth (pv 0) TP.cl MN.m MN.ok (hr.mono (by decide)) MN.b .nil pass0 (pa_cons (pe_ix ix_list (pv 1) pe_int (fun _ _ => rfl)) pa_nil))))))))
(pss_one ps_never)
pss_nil)
(pss_one (ps_dput hu (pe_fld (pv 0) rfl) (pe_ix ix_list (pv 1) pe_int (fun _ _ => rfl)) (pe_meth0 (pv 0) TP.cl MB.m MB.ok hr MB.b .nil pass0) rfl)))), ?_⟩
  obtain ⟨⟨dp, hp⟩, mo, hst, nm, ns⟩ := id S.pin
  refine ⟨_, rfl, p, dp, _, rfl, hp, (by kernel_rfl), p, l, m, s, t, k, 0, sy, fi, rows.map lineOf, rfl, S.pin.ob, S.ln, by omega, fun A1 H1 s1 hA hA1 => ?_⟩
  rw [wordsAt_rows hG, hat] at hA1
  have hA1' : H1 A1 = some (.lst [.str "part", .str x]) := by
    rw [hA1]
    rfl
  have hS : SqL K H1 A1 [.str "part", .str x] := .inl (.inl hA1')
  have S1 := S.same s1
  refine ⟨_, rfl, A1, _, rfl, .inl hS, rfl, _, rfl, iteF ?_⟩
  refine ⟨_, rfl, p, C, dp, _, _, rfl, s1 _ _ hp, TP.cl, TP.nStarts, pf_starts, s, _, rfl, s1 _ _ hst, rfl, _, rfl, ?_⟩
  have e0 : decide (V.int (((kvS ss).length : Nat) : Int) = V.int 2) = false := decide_eq_false fun z => by
    have z2 := V.int.inj z
    unfold kvS at z2
    rw [List.length_map] at z2
    omega
  rw [e0]
  refine iteF ?_
  refine ⟨_, rfl, p, dp, _, rfl, s1 _ _ hp, (by kernel_rfl), _, rfl, A1, _, 1, .str x, rfl, rfl, hS, rfl, p, l, m, s, t, _, sy, fi, ms, ss, x, rfl, S1.pin, hx, hx1, hx2, fun H2 s2 => ⟨_, rfl, iteF ?_⟩⟩
  have S2 := S1.same s2
  have s12 := s1.trans s2
  refine ⟨_, rfl, p, dp, _, rfl, s12 _ _ hp, (by kernel_rfl), ?_⟩
  refine ⟨p, l, m, s, t, k, sy, fi, ms, ss, rows, pre, seg, post, kvs, cnt, n, rfl, S2, hrows, hk, hG, hB, hcnt, haft, hsy, no_at hat (by decide +kernel), fun v H3 kvs3 k3 S3 => ?_⟩
  obtain ⟨⟨dp3, hp3⟩, mo3, st3, _, _⟩ := id S3.pin
  have nAp : A1 ≠ p := (ne_of_none (show H p = _ from hp) hA).symm
  have nAt : A1 ≠ t := (ne_of_none S.dt hA).symm
  have hA3 : H3 A1 = some (.lst [.str "part", .str x]) := k3 _ _ (s2 _ _ hA1') nAp nAt (by intro _ _ z; cases z)
  refine ⟨_, rfl, p, C, dp3, _, _, rfl, hp3, TP.cl, TP.nStarts, pf_starts, _, rfl, A1, _, 1, .str x, rfl, rfl, .inl (.inl hA3), rfl, s, _, rfl, DPut.k (k := Sum.inr x) st3 (small1000 (by unfold kvS; rw [List.length_map]; omega)), ?_⟩
  rw [putK_new _ (valV_none hx2), kvS_snoc]
  have nps : p ≠ s := ne_of hp3 st3 (by intro z; cases z)
  have nls : l ≠ s := ne_of S3.ln.at_ st3 (by intro z; cases z)
  refine q _ v kvs3 (fun b o h n1 n2 n3 n4 n => ?_) ?_
  · rw [upd_ne n3]
    exact k3 _ _ (s12 _ _ h) n1 n4 n
  · refine ⟨⟨⟨dp3, by rw [upd_ne nps]; exact hp3⟩, by rw [upd_ne hms]; exact mo3, upd_same, nm, ?_⟩, ⟨by rw [upd_ne nls]; exact S3.ln.at_, S.ln.few, S.ln.short⟩, by rw [upd_ne S.ns.symm]; exact S3.dt, S3.few, S3.keys, fun kv h => ?_, S.nm, S.ns, S.cc, S3.al⟩
    · rw [List.map_append]
      exact List.nodup_append.mpr ⟨ns, by simp, fun y hy z hz e => hx2 (by
        have e2 : z = x := by simpa using hz
        rw [← e2, ← e]
        exact hy)⟩
    · obtain ⟨b, h1, dx, ln, wd, g, li, lo, fo, h2, h3⟩ := S3.ok kv h
      exact ⟨b, h1, dx, ln, wd, g, li, lo, fo, by rw [upd_ne (ne_of h2 st3 (by intro z; cases z))]; exact h2, h3⟩
/-! ### read_symbols -/
abbrev s_Parser_read_symbols : Stmt := inClass (top 20) 3
abbrev sc_Parser_read_symbolsN : List Str := ["self", "words"]
theorem sc_Parser_read_symbols : FnScope sc_Parser_read_symbolsN ["self"] (defScope s_Parser_read_symbols) := ⟨rfl, rfl, rfl, by decide +kernel, rfl, by decide +kernel, by decide +kernel⟩
def spSyms (C CS : Addr) : Sp := fun vs H Q _ => ∃ (p l m s t : Addr) (sy0 sy : Str) (fi : Int) (ms ss : NV) (rows : List Row) (kvs : List (Key × V)) (cnt : Nat), vs = [.ref p] ∧
  SAt C CS H p l m s t 0 sy0 fi ms ss rows kvs cnt ∧ Good rows ∧ rows[0]? = some (0, [("symbols" : Str), sy]) ∧ 2 ≤ sy.length ∧ sy.length ≤ 4 ∧ InOrder sy alpha ∧
  ∀ (H' : Hp), KeepP CS p m s t H H' → SAt C CS H' p l m s t 1 sy fi ms ss rows kvs cnt → Q .non H'
theorem ok_read_symbols {f C CS : Addr} {fd : FuncData} (F : Fun K "read_symbols" "Parser.read_symbols" s_Parser_read_symbols f fd) (T : Bare mg) (T1 : Consts K mg) (TP : PTxt K C) (MW : Meter P w K mg base C 1 "words_at" ["self", "depth"] (spWords C)) (CO : Callee P w K mg base 1 "is_in_order" ["word", "order"] spOrder) :
    FnOk P w K mg base CX0 2 f fd ["self"] (spSyms C CS) := by
  refine F.ok sc_Parser_read_symbols (fun vs H Q E h => ?_) (fun cdv A outer st H vs Q E hr h => ?_)
  · obtain ⟨p, l, m, s, t, sy0, sy, fi, ms, ss, rows, kvs, cnt, rfl, _⟩ := h
    rfl
  obtain ⟨p, l, m, s, t, sy0, sy, fi, ms, ss, rows, kvs, cnt, rfl, S, hG, hat, h2, h4, hO, q⟩ := h
  obtain ⟨ta, ga⟩ := T1.alpha
  refine ⟨_, (pss_cons (ps_set (i := 1) sc_Parser_read_symbols.nd rfl (Or.inl rfl) (pe_meth (pv 0) TP.cl MW.m MW.ok hr MW.b .nil pass0 (pa_cons pe_int pa_nil)))
(pss_cons (ps_if (PW.pt (pw_or (pt_cmpR op_ne (pe_callB call_len_seq (by rfl) T.len PySem.boot_len (pa_cons (pv 1) pa_nil)) pe_int (nomark _)) (pw_or1 (pt_cmpR op_ne (pe_ix ix_list (pv 1) pe_int (fun _ _ => rfl)) pe_str (nomark _)))))
(pss_one ps_never)
pss_nil)
(pss_cons (ps_if (PW.pt (pw_or (pt_not (pt_chain op_le op_le pe_int (pe_callB call_len_str (by rfl) T.len PySem.boot_len (pa_cons (pe_ix ix_list (pv 1) pe_int (fun _ _ => rfl)) pa_nil)) pe_int)) (pw_or1 (pt_not (pt_val (pe_call CO.ok hr rfl CO.mg CO.kp CO.b .nil pass0 (pa_cons (pe_ix ix_list (pv 1) pe_int (fun _ _ => rfl)) (pa_cons (pe_glob (v := .str alpha) rfl ga ⟨_, rfl⟩) pa_nil))))))))
(pss_one ps_never)
pss_nil)
(pss_cons (ps_fld (pv 0) (pe_ix ix_list (pv 1) pe_int (fun _ _ => rfl)) rfl)
(pss_one (ps_fldaug (pv 0) pe_int in_add)))))), ?_⟩
  obtain ⟨⟨dp, hp⟩, mo, hst, nm, ns⟩ := id S.pin
  refine ⟨_, rfl, p, dp, _, rfl, hp, (by kernel_rfl), p, l, m, s, t, 0, 0, sy0, fi, rows.map lineOf, rfl, S.pin.ob, S.ln, by omega, fun A1 H1 s1 hA hA1 => ?_⟩
  rw [wordsAt_rows hG, hat] at hA1
  have hA1' : H1 A1 = some (.lst [.str "symbols", .str sy]) := by
    rw [hA1]
    rfl
  have hS : SqL K H1 A1 [.str "symbols", .str sy] := .inl (.inl hA1')
  have S1 := S.same s1
  refine ⟨_, rfl, A1, _, rfl, .inl hS, rfl, _, rfl, iteF ?_⟩
  refine ⟨_, rfl, A1, _, 0, _, rfl, rfl, hS, rfl, rfl, _, rfl, iteF ?_⟩
  refine ⟨_, rfl, A1, _, 1, .str sy, rfl, rfl, hS, rfl, _, rfl, small (by omega), _, _, rfl, rfl, _, rfl, ?_⟩
  have e0 : decide ((2 : Int) ≤ ((sy.length : Nat) : Int)) = true := decide_eq_true (by omega)
  rw [e0]
  refine iteT ?_
  refine ⟨_, _, rfl, rfl, _, rfl, ?_⟩
  have e1 : decide (((sy.length : Nat) : Int) ≤ (4 : Int)) = true := decide_eq_true (by omega)
  dsimp only
  rw [e1]
  refine iteF ?_
  refine ⟨_, rfl, A1, _, 1, .str sy, rfl, rfl, hS, rfl, sy, alpha, rfl, by omega, hO, fun H2 s2 => ⟨_, rfl, iteF ?_⟩⟩
  have S2 := S1.same s2
  have s12 := s1.trans s2
  obtain ⟨⟨dp2, hp2⟩, mo2, st2, _, _⟩ := id S2.pin
  refine ⟨_, rfl, A1, _, 1, .str sy, rfl, rfl, s2.seq hS, rfl, _, rfl, p, C, dp2, _, rfl, hp2, TP.cl, TP.nSymbols, (by show 7 < 1000; decide), ?_⟩
  rw [put_symbols]
  have n1 : l ≠ p := ne_of S2.ln.at_ hp2 (by intro z; cases z)
  have n2 : m ≠ p := ne_of mo2 hp2 (by intro z; cases z)
  have n3 : s ≠ p := ne_of st2 hp2 (by intro z; cases z)
  have n4 : t ≠ p := ne_of S2.dt hp2 (by intro z; cases z)
  have kk : Keep p t H2 (upd H2 p (.ins C dp2 (pf l (((0 : Nat) : Int) + 1) sy m s t fi))) := fun b o h n _ => by rw [upd_ne n]; exact h
  have S3 : SAt C CS (upd H2 p (.ins C dp2 (pf l (((0 : Nat) : Int) + 1) sy m s t fi))) p l m s t 0 sy fi ms ss rows kvs cnt := by
    refine ⟨⟨⟨dp2, upd_same⟩, by rw [upd_ne n2]; exact mo2, by rw [upd_ne n3]; exact st2, nm, ns⟩, ⟨by rw [upd_ne n1]; exact S2.ln.at_, S.ln.few, S.ln.short⟩, by rw [upd_ne n4]; exact S2.dt, S.few, S.keys, fun kv h => ?_, S.nm, S.ns, S.cc, S.al⟩
    obtain ⟨a, h1, h2⟩ := S2.ok kv h
    exact ⟨a, h1, h2.keep S2 kk⟩
  have hp3 : (upd H2 p (.ins C dp2 (pf l (((0 : Nat) : Int) + 1) sy m s t fi))) p = some (.ins C dp2 (pf l (((0 : Nat) : Int) + 1) sy m s t fi)) := upd_same
  obtain ⟨S4, k4⟩ := S3.bump hp3 (no_at hat (by decide +kernel))
  refine ⟨_, rfl, p, C, dp2, _, _, rfl, hp3, TP.cl, TP.nNumber, pf_number, _, _, rfl, rfl, dp2, _, hp3, (by show 7 < 1000; decide), ?_⟩
  rw [put_next]
  refine q _ (fun b o h n1 n2 n3 n4 n => ?_) S4
  rw [upd_ne n1, upd_ne n1]
  exact s12 _ _ h
end
end Fg
set_option Elab.async false
set_option linter.all false
set_option maxRecDepth 100000
set_option maxHeartbeats 4000000
namespace Fg
open PySem L2 TL
abbrev s_Parser_read_program : Stmt := inClass (top 20) 2
abbrev sc_Parser_read_programN : List Str := ["self"]
theorem sc_Parser_read_program : FnScope sc_Parser_read_programN ["self"] (defScope s_Parser_read_program) := ⟨rfl, rfl, rfl, by decide +kernel, rfl, by decide +kernel, by decide +kernel⟩
abbrev PartR := Str × List Row × Nat
def cellRow (c : Str × Nat) : Row := (0, [("cell" : Str), c.1, numS c.2])
def partRows (q : PartR) : List Row := (0, [("part" : Str), q.1]) :: q.2.1
def symRow (sy : Str) : Row := (0, [("symbols" : Str), sy])
def mainRow : Row := (0, [("main" : Str)])
def headRows (sy : Str) (ms : NV) (ps : List PartR) : List Row := symRow sy :: (ms.map cellRow ++ (ps.map partRows).flatten)
/-- a whole program -/
structure ProgOk (sy : Str) (ms : NV) (ps : List PartR) (ma : List Row) (nm : Nat) (rows : List Row) : Prop where
  eq : rows = headRows sy ms ps ++ mainRow :: ma
  good : Good rows
  s2 : 2 ≤ sy.length
  s4 : sy.length ≤ 4
  so : InOrder sy alpha
  c2 : ms.length ≤ 2
  cv : ∀ c ∈ ms, 1 ≤ c.2 ∧ c.2 ≤ 2
  p2 : ps.length ≤ 2
  names : ∀ z ∈ ms.map (·.1) ++ ps.map (·.1), NameOk z
  nd : (ms.map (·.1) ++ ps.map (·.1)).Nodup
  bod : ∀ (done : List PartR) (q : PartR) (rest : List PartR), ps = done ++ q :: rest → ∀ ss : NV, ss.map (·.1) = done.map (·.1) → Bod sy ms ss 1 q.2.1 q.2.2
  mbod : ∀ ss : NV, ss.map (·.1) = ps.map (·.1) → Bod sy ms ss 1 ma nm
  tot : (ps.map (·.2.2)).sum + nm ≤ 20
/-- self.words_at(0)[:1] == ["lit"] -/
def tHead (C : Addr) (lit : Str) : TT := fun σ H Q => ∃ (p l m s t : Addr) (k : Nat) (sy : Str) (fi : Int) (lines : List Str), σ[0]? = some (some (.ref p)) ∧ PAt C H p l m s t ((k : Int) + 1) sy fi ∧ Lines H l lines ∧ (∀ z ∈ wordsAt lines k 0, PyData.strOk z = true) ∧ PyData.strOk lit = true ∧
  ∀ H', Same H H' → Q (decide ((wordsAt lines k 0).take 1 = [lit])) H'
theorem take1' (W : List Str) : cutV (W.map V.str) none (some 1) = (W.take 1).map V.str := by
  cases W with
  | nil => rfl
  | cons x r => exact take1 x r
def prefRows (sy : Str) (ms : NV) (done : List PartR) : List Row := symRow sy :: (ms.map cellRow ++ (done.map partRows).flatten)
theorem rows_cut {sy : Str} {ms : NV} {ps done rest : List PartR} {ma : List Row} {nm : Nat} {rows : List Row} (PO : ProgOk sy ms ps ma nm rows) (e : ps = done ++ rest) : rows = prefRows sy ms done ++ ((rest.map partRows).flatten ++ mainRow :: ma) := by
  rw [PO.eq, e]
  unfold headRows prefRows
  simp only [List.map_append, List.flatten_append, List.append_assoc, List.cons_append]
theorem at_len {α : Type} {a b : List α} : (a ++ b)[a.length]? = b.head? := by
  rw [List.getElem?_append_right (Nat.le_refl _), Nat.sub_self]
  cases b <;> rfl
section
variable {P : Program} {w : World} {K : PySem.W.Frag} {mg : Str → Option Value} {base : Heap}
theorem wordsOk {rows : List Row} (hG : Good rows) (k d : Nat) : ∀ z ∈ wordsAt (rows.map lineOf) k d, PyData.strOk z = true := fun z hz => by
  rw [wordsAt_rows hG] at hz
  cases e : rows[k]? with
  | none => rw [e] at hz; cases hz
  | some y =>
    rw [e] at hz
    dsimp only at hz
    split at hz
    · exact (hG y (List.mem_of_getElem? e)).ok z hz
    · cases hz
def spProg (C CS : Addr) : Sp := fun vs H Q _ => ∃ (p l m s t : Addr) (sy0 sy : Str) (fi : Int) (ms : NV) (ps : List PartR) (ma : List Row) (nm : Nat) (rows : List Row), vs = [.ref p] ∧ SAt C CS H p l m s t 0 sy0 fi [] [] rows [] 0 ∧ m ≠ s ∧ ProgOk sy ms ps ma nm rows ∧
  ∀ (H' : Hp) (k : Nat) (fi' : Int) (ss : NV) (kvs : List (Key × V)) (cnt : Nat), KeepP CS p m s t H H' → SAt C CS H' p l m s t k sy fi' ms ss rows kvs cnt → ss.map (·.1) = ps.map (·.1) → cnt ≤ 20 → rows.length ≤ k → Q .non H'
theorem ok_read_program {f C CS : Addr} {fd : FuncData} (F : Fun K "read_program" "Parser.read_program" s_Parser_read_program f fd) (T : Bare mg) (TP : PTxt K C) (MW : Meter P w K mg base C 1 "words_at" ["self", "depth"] (spWords C))
    (MY : Meter P w K mg base C 2 "read_symbols" ["self"] (spSyms C CS)) (MC : Meter P w K mg base C 3 "read_cell" ["self"] (spCell C CS)) (MP : Meter P w K mg base C 14 "read_part" ["self"] (spPart C CS)) (MB : Meter P w K mg base C 13 "read_whole_body" ["self"] (spWhole C CS)) :
    FnOk P w K mg base CX0 15 f fd ["self"] (spProg C CS) := by
  refine F.ok sc_Parser_read_program (fun vs H Q E h => ?_) (fun cdv A outer st H vs Q E hr h => ?_)
  · obtain ⟨p, l, m, s, t, sy0, sy, fi, ms, ps, ma, nm, rows, rfl, _⟩ := h
    rfl
  obtain ⟨p, l, m, s, t, sy0, sy, fi, ms, ps, ma, nm, rows, rfl, S, hms, PO, q⟩ := h
  have hG := PO.good
  refine ⟨_, (pss_cons (ps_expr (pe_meth0 (pv 0) TP.cl MY.m MY.ok (hr.mono (by decide)) MY.b .nil pass0))
(pss_cons (ps_while PassesOwn.never (pt_weak (t' := tHead C "cell") (pt_cmpR (op_eqD hr.units) (pe_slice sl_list (pe_meth (pv 0) TP.cl MW.m MW.ok (hr.mono (by decide)) MW.b .nil pass0 (pa_cons pe_int pa_nil)) po_none (po_some pe_int)) (pe_lst (pa_cons pe_str pa_nil)) (nomark _)) (fun σ H1 Q1 h => by
    obtain ⟨p, l, m, s, t, k, sy, fi, lines, h0, ⟨dp, hp⟩, L, okW, okL, q1⟩ := h
    refine ⟨_, h0, p, dp, _, rfl, hp, (by kernel_rfl), p, l, m, s, t, k, 0, sy, fi, lines, rfl, ⟨dp, hp⟩, L, by omega, fun A H2 s2 hA hA1 => ?_⟩
    refine ⟨1, rfl, A, _, rfl, .inl (.inl hA1), fun B hB => ?_⟩
    rw [take1']
    have s3 := same_new hB (.lst (((wordsAt lines k 0).take 1).map V.str))
    refine ⟨small (by show 1 ≤ 1000; decide), fun D hD => ?_⟩
    have s4 := same_new hD (.lst [.str "cell"])
    refine ⟨.list (((wordsAt lines k 0).take 1).map .str), .list (([("cell" : Str)]).map .str), .lst (.inl (.inl (s4 _ _ upd_same))) (dp_strs _), .lst (.inl (.inl upd_same)) (dp_strs [("cell" : Str)]), shaped_strs (fun z hz => okW z (List.mem_of_mem_take hz)), shaped_strs (by simpa using okL), ?_⟩
    refine ⟨_, (congrArg V.bl (eqv_strs _ [("cell" : Str)])), ?_⟩
    exact q1 _ ((s2.trans s3).trans s4)))
(pss_one (ps_expr (pe_meth0 (pv 0) TP.cl MC.m MC.ok (hr.mono (by decide)) MC.b .nil pass0))))
(pss_cons (ps_while PassesOwn.never (pt_weak (t' := tHead C "part") (pt_cmpR (op_eqD hr.units) (pe_slice sl_list (pe_meth (pv 0) TP.cl MW.m MW.ok (hr.mono (by decide)) MW.b .nil pass0 (pa_cons pe_int pa_nil)) po_none (po_some pe_int)) (pe_lst (pa_cons pe_str pa_nil)) (nomark _)) (fun σ H1 Q1 h => by
    obtain ⟨p, l, m, s, t, k, sy, fi, lines, h0, ⟨dp, hp⟩, L, okW, okL, q1⟩ := h
    refine ⟨_, h0, p, dp, _, rfl, hp, (by kernel_rfl), p, l, m, s, t, k, 0, sy, fi, lines, rfl, ⟨dp, hp⟩, L, by omega, fun A H2 s2 hA hA1 => ?_⟩
    refine ⟨1, rfl, A, _, rfl, .inl (.inl hA1), fun B hB => ?_⟩
    rw [take1']
    have s3 := same_new hB (.lst (((wordsAt lines k 0).take 1).map V.str))
    refine ⟨small (by show 1 ≤ 1000; decide), fun D hD => ?_⟩
    have s4 := same_new hD (.lst [.str "part"])
    refine ⟨.list (((wordsAt lines k 0).take 1).map .str), .list (([("part" : Str)]).map .str), .lst (.inl (.inl (s4 _ _ upd_same))) (dp_strs _), .lst (.inl (.inl upd_same)) (dp_strs [("part" : Str)]), shaped_strs (fun z hz => okW z (List.mem_of_mem_take hz)), shaped_strs (by simpa using okL), ?_⟩
    refine ⟨_, (congrArg V.bl (eqv_strs _ [("part" : Str)])), ?_⟩
    exact q1 _ ((s2.trans s3).trans s4)))
(pss_one (ps_expr (pe_meth0 (pv 0) TP.cl MP.m MP.ok hr MP.b .nil pass0))))
(pss_cons (ps_if (pt_cmpR (op_neD hr.units) (pe_meth (pv 0) TP.cl MW.m MW.ok (hr.mono (by decide)) MW.b .nil pass0 (pa_cons pe_int pa_nil)) (pe_lst (pa_cons pe_str pa_nil)) (nomark _))
(pss_one ps_never)
pss_nil)
(pss_cons (ps_fld (pv 0) (pe_meth0 (pv 0) TP.cl MB.m MB.ok (hr.mono (by decide)) MB.b .nil pass0) rfl)
(pss_one (ps_if (pt_cmpR op_le (pe_fld (pv 0) rfl) (pe_callB call_len_seq (by rfl) T.len PySem.boot_len (pa_cons (pe_fld (pv 0) rfl) pa_nil)) (nomark _))
(pss_one ps_never)
pss_nil))))))), ?_⟩
  obtain ⟨⟨dp, hp⟩, _⟩ := id S.pin
  have at0 : rows[0]? = some (0, [("symbols" : Str), sy]) := by rw [PO.eq]; rfl
  refine ⟨_, rfl, p, dp, _, rfl, hp, (by kernel_rfl), ?_⟩
  refine ⟨p, l, m, s, t, sy0, sy, fi, [], [], rows, [], 0, rfl, S, hG, at0, PO.s2, PO.s4, PO.so, fun H1 k1 S1 => ?_⟩
  -- the cells
  refine ⟨fun mm σ H2 => ∃ i, i ≤ ms.length ∧ mm = ms.length - i ∧ σ = [some (.ref p)] ∧ SAt C CS H2 p l m s t (1 + i) sy fi (ms.take i) [] rows [] 0 ∧ KeepP CS p m s t H H2, ⟨_, 0, Nat.zero_le _, rfl, rfl, S1, k1⟩, ?_⟩
  rintro mm σ H2 ⟨i, hi, rfl, rfl, S2, k2⟩
  refine ⟨p, l, m, s, t, 1 + i, sy, fi, rows.map lineOf, rfl, S2.pin.ob, S2.ln, wordsOk hG _ _, by decide +kernel, fun H3 s3 => ?_⟩
  have S3 := S2.same s3
  have k3 := k2.trans (KeepP.of_same s3)
  obtain ⟨⟨dp3, hp3⟩, _⟩ := id S3.pin
  by_cases hlt : i < ms.length
  · have hat : rows[1 + i]? = some (cellRow ms[i]) := by
      rw [PO.eq, Nat.add_comm 1 i]
      show ((ms.map cellRow ++ (ps.map partRows).flatten) ++ mainRow :: ma)[i]? = _
      rw [List.append_assoc, List.getElem?_append_left (by rw [List.length_map]; exact hlt), List.getElem?_map, List.getElem?_eq_getElem hlt]
      rfl
    have eW : wordsAt (rows.map lineOf) (1 + i) 0 = [("cell" : Str), ms[i].1, numS ms[i].2] := by
      rw [wordsAt_rows hG, hat]
      rfl
    rw [eW]
    refine iteT ?_
    refine ⟨fun σ' H' => ∃ m', m' < ms.length - i ∧ ∃ i', i' ≤ ms.length ∧ m' = ms.length - i' ∧ σ' = [some (.ref p)] ∧ SAt C CS H' p l m s t (1 + i') sy fi (ms.take i') [] rows [] 0 ∧ KeepP CS p m s t H H', fun σ' H' z => z, ?_⟩
    refine ⟨_, rfl, p, dp3, _, rfl, hp3, (by kernel_rfl), ?_⟩
    have hmem : ms[i] ∈ ms := List.getElem_mem hlt
    have hnd := (List.nodup_append.mp PO.nd).1
    have hnew : ms[i].1 ∉ (ms.take i).map (·.1) := fun z => by
      obtain ⟨y, hy, e⟩ := List.mem_map.mp z
      obtain ⟨j, hj, ej⟩ := List.mem_take_iff_getElem.mp hy
      have := nodup_at hnd (i := j) (j := i) (List.getElem?_eq_getElem (by omega)) (List.getElem?_eq_getElem hlt) (by rw [ej]; exact e)
      omega
    refine ⟨p, l, m, s, t, 1 + i, sy, fi, ms.take i, [], rows, [], 0, ms[i].1, ms[i].2, rfl, S3, hms, hG, hat, by rw [List.length_take]; have := PO.c2; omega, (PO.cv _ hmem).1, (PO.cv _ hmem).2, PO.names _ (List.mem_append_left _ (List.mem_map.mpr ⟨_, hmem, rfl⟩)), hnew, by simp, fun H4 k4 S4 => ?_⟩
    refine ⟨ms.length - (i + 1), by omega, i + 1, hlt, rfl, rfl, ?_, k3.trans k4⟩
    rw [List.take_add_one, List.getElem?_eq_getElem hlt]
    exact S4
  · have e : i = ms.length := by omega
    subst e
    rw [List.take_length] at S3
    have hw : ∀ (done rest : List PartR), ps = done ++ rest → wordsAt (rows.map lineOf) (prefRows sy ms done).length 0 = match rest with | [] => [("main" : Str)] | q :: _ => [("part" : Str), q.1] := fun done rest e => by
      rw [wordsAt_rows hG]
      have h1 : rows[(prefRows sy ms done).length]? = ((rest.map partRows).flatten ++ mainRow :: ma).head? := by
        have z := at_len (a := prefRows sy ms done) (b := (rest.map partRows).flatten ++ mainRow :: ma)
        rw [← rows_cut PO e] at z
        exact z
      rw [h1]
      cases rest <;> rfl
    have e0 : 1 + ms.length = (prefRows sy ms []).length := by
      unfold prefRows
      rw [List.length_cons, List.length_append, List.length_map]
      show _ = ms.length + 0 + 1
      omega
    rw [e0] at S3 ⊢
    have eW := hw [] ps rfl
    have hn : decide ((wordsAt (rows.map lineOf) (prefRows sy ms []).length 0).take 1 = [("cell" : Str)]) = false := by
      rw [eW]
      cases ps with
      | nil => decide +kernel
      | cons q r =>
        refine decide_eq_false fun z => ?_
        have z1 : ([("part" : Str)] : List Str) = [("cell" : Str)] := z
        exact absurd z1 (by decide +kernel)
    rw [hn]
    refine iteF ?_
    -- the parts
    refine ⟨fun mm σ H2 => ∃ (done rest : List PartR) (ss : NV) (kvs : List (Key × V)), ps = done ++ rest ∧ mm = rest.length ∧ σ = [some (.ref p)] ∧ SAt C CS H2 p l m s t (prefRows sy ms done).length sy fi ms ss rows kvs (done.map (·.2.2)).sum ∧ ss.map (·.1) = done.map (·.1) ∧ KeepP CS p m s t H H2,
      ⟨_, [], ps, [], [], rfl, rfl, rfl, S3, rfl, k3⟩, ?_⟩
    rintro mm σ H5 ⟨done, rest, ss, kvs, eps, rfl, rfl, S5, hss, k5⟩
    refine ⟨p, l, m, s, t, (prefRows sy ms done).length, sy, fi, rows.map lineOf, rfl, S5.pin.ob, S5.ln, wordsOk hG _ _, by decide +kernel, fun H6 s6 => ?_⟩
    have S6 := S5.same s6
    have k6 := k5.trans (KeepP.of_same s6)
    obtain ⟨⟨dp6, hp6⟩, _⟩ := id S6.pin
    have eW := hw done rest eps
    have hsum : ∀ (a b : List PartR), ps = a ++ b → (a.map (·.2.2)).sum + (b.map (·.2.2)).sum + nm ≤ 20 := fun a b e => by
      have := PO.tot
      rw [e, List.map_append, List.sum_append] at this
      exact this
    cases rest with
    | cons qq rest' =>
      rw [eW]
      refine iteT ?_
      refine ⟨fun σ' H' => ∃ m', m' < (qq :: rest').length ∧ ∃ (done rest : List PartR) (ss : NV) (kvs : List (Key × V)), ps = done ++ rest ∧ m' = rest.length ∧ σ' = [some (.ref p)] ∧ SAt C CS H' p l m s t (prefRows sy ms done).length sy fi ms ss rows kvs (done.map (·.2.2)).sum ∧ ss.map (·.1) = done.map (·.1) ∧ KeepP CS p m s t H H', fun σ' H' z => z, ?_⟩
      refine ⟨_, rfl, p, dp6, _, rfl, hp6, (by kernel_rfl), ?_⟩
      have hat : rows[(prefRows sy ms done).length]? = some (0, [("part" : Str), qq.1]) := by
        have z := at_len (a := prefRows sy ms done) (b := ((qq :: rest').map partRows).flatten ++ mainRow :: ma)
        rw [← rows_cut PO eps] at z
        exact z
      have hrows : rows = (prefRows sy ms done ++ [(0, [("part" : Str), qq.1])]) ++ qq.2.1 ++ ((rest'.map partRows).flatten ++ mainRow :: ma) := by
        rw [rows_cut PO eps]
        unfold partRows
        simp only [List.map_cons, List.flatten_cons, List.append_assoc, List.cons_append, List.nil_append]
      have haft : AfterBod 1 ((rest'.map partRows).flatten ++ mainRow :: ma) := by
        intro r hr
        cases rest' with
        | nil =>
          have e := Option.some.inj hr
          rw [← e]
          exact Nat.zero_lt_one
        | cons a b =>
          have e := Option.some.inj hr
          rw [← e]
          exact Nat.zero_lt_one
      have hs1 := hsum (done ++ [qq]) rest' (by rw [eps]; simp)
      rw [List.map_append, List.sum_append] at hs1
      have hs2 : (done.map (·.2.2)).sum + qq.2.2 ≤ 20 := by
        have e : ([qq].map fun x : PartR => x.2.2).sum = qq.2.2 := by simp
        rw [e] at hs1
        omega
      have hpn := List.nodup_append.mp PO.nd
      have hname : qq.1 ∈ ps.map (·.1) := by rw [eps]; simp
      have hn1 : qq.1 ∉ ms.map (·.1) := fun z => hpn.2.2 _ z _ hname rfl
      have hn2 : qq.1 ∉ ss.map (·.1) := fun z => by
        rw [hss] at z
        have h1 := hpn.2.1
        rw [eps, List.map_append] at h1
        exact (List.nodup_append.mp h1).2.2 _ z _ (by simp) rfl
      have hsl : ss.length < 2 := by
        have h1 : ss.length = done.length := by
          have z := congrArg List.length hss
          rw [List.length_map, List.length_map] at z
          exact z
        have h2 := PO.p2
        rw [eps, List.length_append, List.length_cons] at h2
        omega
      refine ⟨p, l, m, s, t, (prefRows sy ms done).length, sy, fi, ms, ss, rows, prefRows sy ms done ++ [(0, [("part" : Str), qq.1])], qq.2.1, (rest'.map partRows).flatten ++ mainRow :: ma, kvs, (done.map (·.2.2)).sum, qq.2.2, qq.1, rfl, S6, hms, hG, hrows, by rw [List.length_append]; rfl, hat, PO.bod done qq rest' eps ss hss, hs2, haft, by have := PO.s4; omega, hsl, PO.names _ (List.mem_append_right _ hname), hn1, hn2, fun H7 v kvs7 k7 S7 => ?_⟩
      have el : (prefRows sy ms done).length + 1 + qq.2.1.length = (prefRows sy ms (done ++ [qq])).length := by
        unfold prefRows partRows
        simp only [List.map_append, List.flatten_append, List.length_cons, List.length_append, List.map_cons, List.map_nil, List.flatten_cons, List.flatten_nil, List.length_nil, List.append_nil]
        omega
      have ec : (done.map (·.2.2)).sum + qq.2.2 = ((done ++ [qq]).map (·.2.2)).sum := by
        rw [List.map_append, List.sum_append]
        simp
      rw [el, ec] at S7
      exact ⟨rest'.length, Nat.lt_succ_self _, done ++ [qq], rest', ss ++ [(qq.1, v)], kvs7, by rw [eps]; simp, rfl, rfl, S7, by rw [List.map_append, List.map_append, hss]; rfl, k6.trans k7⟩
    | nil =>
      rw [eW]
      refine iteF ?_
      rw [List.append_nil] at eps
      subst eps
      -- main
      refine ⟨_, rfl, p, dp6, _, rfl, hp6, (by kernel_rfl), p, l, m, s, t, (prefRows sy ms ps).length, 0, sy, fi, rows.map lineOf, rfl, S6.pin.ob, S6.ln, by omega, fun A7 H7 s7 hA7 hA71 => ⟨small (by show 1 ≤ 1000; decide), fun A8 hA8 => ?_⟩⟩
      rw [eW] at hA71
      have s8 := same_new hA8 (.lst [.str "main"])
      have okM : ∀ z ∈ ([("main" : Str)] : List Str), PyData.strOk z = true := by simp; decide +kernel
      refine ⟨.list (([("main" : Str)]).map .str), .list (([("main" : Str)]).map .str), .lst (.inl (.inl (s8 _ _ hA71))) (dp_strs [("main" : Str)]), .lst (.inl (.inl upd_same)) (dp_strs [("main" : Str)]), shaped_strs okM, shaped_strs okM, ?_⟩
      have ev : PyData.eqv (.list (([("main" : Str)]).map .str)) (.list (([("main" : Str)]).map .str)) = decide (([("main" : Str)]) = [("main" : Str)]) := eqv_strs _ _
      rw [ev, decide_eq_true rfl]
      refine ⟨_, rfl, iteF ?_⟩
      have s78 := s7.trans s8
      have S8 := S6.same s78
      have k8 := k6.trans (KeepP.of_same s78)
      generalize upd H7 A8 (.lst [.str "main"]) = H8 at S8 k8 s78 ⊢
      obtain ⟨⟨dp8, hp8⟩, _⟩ := id S8.pin
      refine ⟨_, rfl, p, dp8, _, rfl, hp8, (by kernel_rfl), ?_⟩
      have hrows : rows = (prefRows sy ms ps ++ [mainRow]) ++ ma ++ [] := by
        rw [rows_cut PO (done := ps) (rest := []) (by simp)]
        simp
      have hMain : rows[(prefRows sy ms ps).length]? = some (0, [("main" : Str)]) := by
        rw [hrows, List.append_nil, List.append_assoc, List.getElem?_append_right (Nat.le_refl _), Nat.sub_self]
        rfl
      have hs1 := hsum ps [] (by simp)
      have hs0 : (([] : List PartR).map (·.2.2)).sum = 0 := rfl
      refine ⟨p, l, m, s, t, (prefRows sy ms ps).length, sy, fi, ms, ss, rows, prefRows sy ms ps ++ [mainRow], ma, [], kvs, (ps.map (·.2.2)).sum, nm, rfl, S8, hrows, by rw [List.length_append]; rfl, hG, PO.mbod ss hss, by omega, fun r hr => (by cases hr), by have := PO.s4; omega, no_at hMain (by decide +kernel), fun v H9 kvs9 k9 S9 => ?_⟩
      obtain ⟨⟨dp9, hp9⟩, mo9, st9, nm9, ns9⟩ := id S9.pin
      refine ⟨_, rfl, p, C, dp9, _, rfl, hp9, TP.cl, TP.nFirst, (by show 7 < 1000; decide), ?_⟩
      rw [put_first]
      have n1 : l ≠ p := ne_of S9.ln.at_ hp9 (by intro z; cases z)
      have n2 : m ≠ p := ne_of mo9 hp9 (by intro z; cases z)
      have n3 : s ≠ p := ne_of st9 hp9 (by intro z; cases z)
      have n4 : t ≠ p := ne_of S9.dt hp9 (by intro z; cases z)
      have kk : Keep p t H9 (upd H9 p (.ins C dp9 (pf l ((((prefRows sy ms ps).length + 1 + ma.length : Nat) : Int) + 1) sy m s t (v : Int)))) := fun b o h n _ => by rw [upd_ne n]; exact h
      have S10 : SAt C CS (upd H9 p (.ins C dp9 (pf l ((((prefRows sy ms ps).length + 1 + ma.length : Nat) : Int) + 1) sy m s t (v : Int)))) p l m s t ((prefRows sy ms ps).length + 1 + ma.length) sy (v : Int) ms ss rows kvs9 ((ps.map (·.2.2)).sum + nm) := by
        refine ⟨⟨⟨dp9, upd_same⟩, by rw [upd_ne n2]; exact mo9, by rw [upd_ne n3]; exact st9, nm9, ns9⟩, ⟨by rw [upd_ne n1]; exact S9.ln.at_, S9.ln.few, S9.ln.short⟩, by rw [upd_ne n4]; exact S9.dt, S9.few, S9.keys, fun kv h => ?_, S9.nm, S9.ns, S9.cc, S9.al⟩
        obtain ⟨a, h1, h2⟩ := S9.ok kv h
        exact ⟨a, h1, h2.keep S9 kk⟩
      have hp10 : (upd H9 p (.ins C dp9 (pf l ((((prefRows sy ms ps).length + 1 + ma.length : Nat) : Int) + 1) sy m s t (v : Int)))) p = some (.ins C dp9 (pf l ((((prefRows sy ms ps).length + 1 + ma.length : Nat) : Int) + 1) sy m s t (v : Int))) := upd_same
      refine ⟨_, rfl, p, C, dp9, _, _, rfl, hp10, TP.cl, TP.nNumber, pf_number, _, rfl, p, C, dp9, _, _, rfl, hp10, TP.cl, TP.nLines, pf_lines, l, _, rfl, .inl (.inl (.inl S10.ln.at_)), _, _, rfl, rfl, _, rfl, ?_⟩
      have elen : rows.length = (prefRows sy ms ps).length + 1 + ma.length := by
        rw [hrows]
        simp only [List.length_append, List.length_cons, List.length_nil]
        omega
      have e1 : decide (((((prefRows sy ms ps).length + 1 + ma.length : Nat) : Int) + 1) ≤ ((((rows.map lineOf).map V.str).length : Nat) : Int)) = false := decide_eq_false (by
        rw [List.length_map, List.length_map, elen]
        omega)
      dsimp only
      rw [e1]
      refine iteF ?_
      exact q _ _ _ ss kvs9 _ (k8.trans ((k9.p (m := m) (s := s)).trans (kk.f.p))) S10 hss (by omega) (by omega)
end
end Fg
set_option Elab.async false
set_option linter.all false
set_option maxRecDepth 100000
set_option maxHeartbeats 4000000
/-! tuple(d.items()), tuple(d), list(d.values()), list(text) -/
namespace Fg
open PySem PySem.Spec PyProof.Rows L2 TL
section
variable {P : Program} {w : World} {A : Around} {E : Value → Shared → Prop} {s : Shared} {r d : Addr}
/-- what a dict's own walk gives, gathered -/
theorem collect_kdl {T : String} {n : Nat} {Pv : Nat → Value → Prop} {OK : Heap → Prop} {R : List Value → Shared → Prop} (K : PySem.W.KdlSrc P w T r d n Pv OK) (hh : A.handled = none) (hok : OK s.heap) (hn : n ≤ sizeLine)
    (hQ : ∀ (h' : Heap) (tk : Nat) (acc : Array Value), (∀ b o, s.heap.get? b = some o → h'.get? b = some o) → ItemsOf Pv acc n → R acc.toList { s with heap := h', toks := tk }) : wpAny (model P w) A (collect (.ref r)) R E s := by
  have hlt := K.there _ hok
  unfold collect
  refine wpAny_bind (wpAny_runValue (codeAny_builtin F.entry_proto_collect ?_))
  rw [Around.under_plainId F.plain_proto_collect _]
  refine wpAny_bind (m := newList []) (wpAny_newObj_type (wpAny_pure ⟨plainId_quiet F.plain_list_iadd _, codeAny_builtin F.entry_list_iadd ?_⟩))
  rw [Around.under_plainId F.plain_list_iadd _]
  have n1 : (s.heap.push { cls := .type "list", data := .seq ([] : List Value).toArray }).get? s.heap.objs.size = some { cls := .type "list", data := .seq #[] 0 } := Heap.get?_push_size _ rfl
  refine wpAny_mono (PySem.W.kdl_extend (A := A) (s := { s with heap := s.heap.push { cls := .type "list", data := .seq ([] : List Value).toArray } }) (R := fun q u => q = .ok (.ret (.ref s.heap.objs.size)) ∧ ∃ (h' : Heap) (tk : Nat) (acc : Array Value) (c : Nat), u = { s with heap := h', toks := tk } ∧ (∀ b o, s.heap.get? b = some o → h'.get? b = some o) ∧
      h'.get? s.heap.objs.size = some { cls := .type "list", dict := none, data := .seq acc c, slots := #[] } ∧ ItemsOf Pv acc n) K hh (K.keep _ _ hok fun b _ o e => Heap.get?_push_of_some _ e) s.heap.objs.size (Nat.ne_of_gt hlt.1) (Nat.ne_of_gt hlt.2) (.ref s.heap.objs.size) 0 n1
      (fun h' tk acc c k e i => ⟨rfl, h', tk, acc, c, rfl, fun b o q => k b o (Nat.ne_of_lt (Heap.lt_size q)) (Heap.get?_push_of_some _ q), e, i⟩) hn) (fun fin u z => ?_) (fun e u z => absurd z.1 (by simp))
  cases fin with
  | done f =>
    obtain ⟨e, h', tk, acc, c, rfl, k, g, i⟩ := z
    cases e
    exact wpAny_bind (m := load s.heap.objs.size) (wpAny_load g (wpAny_pure (hQ h' tk acc k i)))
  | again c' =>
    refine ⟨z.1, codeAny_mono z.2 fun q u2 y => ?_⟩
    obtain ⟨rfl, h', tk, acc, c, rfl, k, g, i⟩ := y
    exact wpAny_bind (m := load s.heap.objs.size) (wpAny_load g (wpAny_pure (hQ h' tk acc k i)))
/-- tuple(x), x gathered by its own walk -/
theorem code_tuple_by {T : String} {C : Heap → List Value → Prop} {Q₁ : Value → Shared → Prop} (hT : s.TypeIs (.ref r) T) (hTT : T = "dict" ∨ T = "dict_items")
    (col : ∀ (R : List Value → Shared → Prop), (∀ h' tk vs, C h' vs → R vs { s with heap := h', toks := tk }) → wpAny (model P w) A.in1 (collect (.ref r)) R (fun e s' => wants Q₁ E (.error e) s') s) (hsz : ∀ h' vs, C h' vs → vs.length ≤ sizeLine)
    (h : ∀ (h' : Heap) (tk : Nat) (vs : List Value), C h' vs → Q₁ (.ref h'.objs.size) { s with heap := h'.push { cls := .type "tuple", data := .seq vs.toArray }, toks := tk }) :
    codeAny (model P w) A (.call (.builtin "tuple.__new__") ⟨[.type "tuple", .ref r], []⟩) (wants Q₁ E) s := by
  refine codeAny_of_tree (wpAny_bind (m := checkBuiltinCall "tuple.__new__" ⟨[.type "tuple", .ref r], []⟩) (wpAny_of_eq (F.newCall_tuple_1 _) (wpAny_pure ⟨plainId_quiet F.plain_tuple_new _, codeAny_builtin F.entry_tuple_new ?_⟩)))
  rw [Around.under_plainId F.plain_tuple_new _]
  have hsub := sub_tuple_self
  have hinit := init_tuple_lookup
  have hmh := madeHere_tuple
  have fin : ∀ (h' : Heap) (tk : Nat) (vs : List Value), C h' vs → wpAny (model P w) A.in1 (Builtin.Tuple.tupleExact vs.toArray >>= fun v => ret v) (fun fin s' => match fin with | .done f => wants Q₁ E (.ok f) s' | .again c' => c'.quiet = true ∧ codeAny (model P w) A c' (wants Q₁ E) s') (fun e s' => wants Q₁ E (.error e) s') { s with heap := h', toks := tk } := fun h' tk vs hC => by
    unfold Builtin.Tuple.tupleExact
    exact wpAny_bind (wpAny_newObj_type (wpAny_pure (h h' tk vs hC)) (by show vs.toArray.size ≤ sizeLine; simpa using hsz h' vs hC))
  rcases hTT with rfl | rfl
  all_goals
    wp_walk using wpAny_typeOf hT, col
    intro h' tk vs hC
    exact fin h' tk vs hC
theorem call_tuple_by {T : String} {C : Heap → List Value → Prop} {Q : Value → Shared → Prop} (hT : s.TypeIs (.ref r) T) (hTT : T = "dict" ∨ T = "dict_items")
    (col : ∀ (E' : Value → Shared → Prop) (A' : Around) (R : List Value → Shared → Prop), A'.handled = A.handled → (∀ h' tk vs, C h' vs → R vs { s with heap := h', toks := tk }) → wpAny (model P w) A' (collect (.ref r)) R E' s) (hsz : ∀ h' vs, C h' vs → vs.length ≤ sizeLine)
    (hQ : ∀ (h' : Heap) (tk : Nat) (vs : List Value), C h' vs → Q (.ref h'.objs.size) { s with heap := h'.push { cls := .type "tuple", data := .seq vs.toArray }, toks := tk }) : wpAny (model P w) A (call (.type "tuple") [.ref r]) Q E s := by
  refine callType_codes (Q₁ := fun obj s₁ => s₁.TypeIs obj "tuple" ∧ Q obj s₁) F.called_tuple (F.typeCall_tuple_1 _) F.entry_object_init
    (code_tuple_by (A := A.in1) hT hTT (fun R hR => col _ _ R rfl hR) hsz fun h' tk vs hC => ⟨⟨_, Heap.get?_push_size _ rfl, rfl⟩, hQ h' tk vs hC⟩) fun obj s₁ h₁ => ?_
  exact ⟨h₁.1, F.args_object_init_2 obj _, object_init_meets F.called_tuple.init.lookup F.called_tuple.made (by decide) P w A.in1 _ s₁ ⟨h₁.1, rfl, h₁.2⟩⟩
end
/-! ### over the layer -/
section
variable {X : Cx}
/-- list(text): its signs -/
def rListT : List V → Hp → VK → Prop := fun xs H Q => ∃ z : Str, xs = [.str z] ∧ z.length ≤ 10000 ∧ ∀ p, H p = none → Q (.ref p) (upd H p (.lst ((tl z).map fun c => V.str ⟨#[c]⟩)))
theorem call_list_text (hc : X.calm = true) : CallR X (.type "list") rListT := by
  intro pins s σ H xs us Q I r h
  obtain ⟨z, rfl, hz, q⟩ := h
  cases r with
  | cons r0 rr =>
    cases rr
    obtain ⟨t, rfl⟩ := r0
    refine PySem.call_list_str (I.ok.hd hc) z t (fun h' tk acc c k hS hacc => ?_) (by
      have : z.cps.size ≤ 20000 := Nat.le_trans hz (by decide)
      exact sizeLine_big this)
    have hlen : acc.toList.length = (tl z).length := by rw [Array.length_toList, hacc.1]; exact Array.length_toList.symm
    refine ⟨.ref s.heap.objs.size, upd H s.heap.objs.size (.lst ((tl z).map fun c => V.str ⟨#[c]⟩)), I.laid (t' := tk) k (Nat.le_refl _) ⟨?_, acc.toList, c, ?_, ?_⟩, rfl, q _ (I.hok.fresh (Nat.le_refl _))⟩
    · rw [List.length_map, ← len_tl]
      exact sizeLine_big (by omega)
    · refine vals_of_at (by rw [List.length_map, hlen]) fun j x u h1 h2 => ?_
      have h3 := hacc.2 j u (by rw [← Array.getElem?_toList]; exact h2)
      rw [List.getElem?_map] at h1
      obtain ⟨c0, e1, e2⟩ := Option.map_eq_some_iff.mp h1
      subst e2
      obtain ⟨c1, u1, e3, rfl⟩ := h3
      have e4 : z.cps[j]? = some c0 := by rw [← Array.getElem?_toList]; exact e1
      rw [e4] at e3
      cases e3
      exact ⟨u1, rfl⟩
    · rw [Array.toArray_toList]
      exact hS
/-- tuple(d): its keys -/
def rTupD : List V → Hp → VK → Prop := fun xs H Q => ∃ (d : Addr) (kvs : List (Key × V)), xs = [.ref d] ∧ H d = some (.dK kvs) ∧ ∀ p, H p = none → Q (.ref p) (upd H p (.tup (kvs.map fun kv => kV kv.1)))
theorem call_tuple_d (hc : X.calm = true) : CallR X (.type "tuple") rTupD := by
  intro pins s σ H xs us Q I r h
  obtain ⟨d, kvs, rfl, hd, q⟩ := h
  rw [Vals.ref1 r]
  obtain ⟨z, lo, vs, rk, hdo⟩ := (show ObjOk X.prog X.w H s.heap d (.dK kvs) from I.hok d _ hd)
  obtain ⟨ep, hat⟩ := hdo.dictAt
  have hl : kvs.length = vs.length := Paired.length rk
  have K := PySem.W.kdl_dict (prog := X.prog) (w := X.w) (knd := mixKind X.prog X.w) (kvs := vs) (ep := ep) (d := d) lo
  refine call_tuple_by (C := fun h' us => (∀ b o, s.heap.get? b = some o → h'.get? b = some o) ∧ ∃ acc : Array Value, us = acc.toList ∧ ItemsOf (fun i v => ∃ k x, vs[i]? = some (k, x) ∧ (mixKind X.prog X.w).is k v = true) acc vs.length) (T := "dict") hdo.typeIs (.inl rfl)
    (fun E' A' R hA hR => collect_kdl K (hA.trans (I.ok.hd hc)) hat (by rw [← hl]; exact z) fun h' tk acc k i => hR h' tk _ ⟨k, acc, rfl, i⟩) (fun h' us hC => ?_) fun h' tk us hC => ?_
  · obtain ⟨_, acc, rfl, i⟩ := hC
    rw [Array.length_toList, i.1, ← hl]
    exact z
  · obtain ⟨k, acc, rfl, i⟩ := hC
    have I1 : Inv X pins σ H { s with heap := h', toks := tk } := I.kept k
    have hnew : H h'.objs.size = none := I1.hok.fresh (Nat.le_refl _)
    have hv : Vals (kvs.map fun kv => kV kv.1) acc.toList := by
      have el : acc.toList.length = acc.size := by simp
      refine vals_of_at (by rw [List.length_map, el, i.1, hl]) fun j x u h1 h2 => ?_
      obtain ⟨k0, y, hky, hi⟩ := i.2 j u (by rw [← Array.getElem?_toList]; exact h2)
      rw [List.getElem?_map] at h1
      obtain ⟨kv, e1, e2⟩ := Option.map_eq_some_iff.mp h1
      subst e2
      have e3 : (kvs.map (·.1))[j]? = some k0 := by
        rw [KV.keys rk, List.getElem?_map, hky] <;> rfl
      rw [List.getElem?_map, e1] at e3
      have e4 : kv.1 = k0 := Option.some.inj e3
      rw [e4]
      exact relV_key (show keyIs k0 u = true from hi)
    refine ⟨.ref h'.objs.size, upd H h'.objs.size (.tup (kvs.map fun kv => kV kv.1)), I1.laid (t' := tk) (fun b o e => Heap.get?_push_of_some _ e) (Nat.le_refl _) (show ObjOk X.prog X.w _ _ _ (.tup (kvs.map fun kv => kV kv.1)) from ⟨by rw [List.length_map]; exact z, acc.toList, hv, IsTup.new _ _⟩), rfl, q _ hnew⟩
variable {e : Expr} {te : TE} {p apos cpos pos : Pos}
/-- list(e.values()) -/
def tListVals (te : TE) : TE := fun σ H Q => te σ H fun x H1 => ∃ (d : Addr) (kvs : List (Key × V)), x = .ref d ∧ H1 d = some (.dK kvs) ∧ ∀ q, H1 q = none → Q (.ref q) (upd H1 q (.lst (kvs.map (·.2))))
theorem pe_listVals (hc : X.calm = true) (he : PE X e te) (hg : Gl X "list") (hm : X.mg "list" = none) (hv : bootBuiltins "list" = some (.type "list")) (hb : attributeBase e "values" X.env (eval e X.env) = eval e X.env := by rfl) (hl : (apos.endLine == cpos.line) = true := by rfl)
    (hs : starEach [.Call (.Attribute e "values" apos) [] [] cpos] X.env = (false, eval (.Call (.Attribute e "values" apos) [] [] cpos) X.env) :: starEach [] X.env := by rfl) :
    PE X (.Call (.Name "list" p) [.Call (.Attribute e "values" apos) [] [] cpos] [] pos) (tListVals te) := by
  refine ⟨fun pins s σ H Q I hq => wpAny_Call_Name_kw (ld_blt I hg hm hv (PyProof.Rows.callWith_type1 ?_ hs rfl))⟩
  rw [hs]
  refine Calls.spliced_cons (wpAny_Call_method (T := "dict") (id := "dict.values") hb rfl hl F.plainAttrs_dict F.slot_dict_values F.type_dict_values (thn (he.run pins s σ H _ I hq) fun u s1 ⟨x, H1, I1, rx, d, kvs, ex, hd, q⟩ => ?_))
  subst ex
  obtain rfl : u = Value.ref d := rx
  obtain ⟨hz, lo, vs, kv, hdo⟩ := I1.hok d _ hd
  obtain ⟨ep, hat⟩ := hdo.dictAt
  have lk : kvs.length = vs.length := Paired.length kv
  have I2 : Inv X pins σ H1 { s1 with heap := s1.heap.push { cls := .type "dict_values", data := .fields #[.ref d] } } := I1.kept (t' := s1.toks) fun b ob z => Heap.get?_push_of_some _ z
  refine ⟨hdo.typeIs, hdo.mapOf.noDict, ?_⟩
  refine method_meetsIn F.slot_dict_values F.entry_dict_values rfl (PySem.evalArgs_none ⟨rfl, hdo.typeIs, F.args_dict_values_1 _, _, meets_dict_values (mixKind X.prog X.w) d lo, ⟨vs, hdo⟩, Calls.spliced_nil ?_⟩)
  have K := PySem.W.kdl_values (prog := X.prog) (w := X.w) (knd := mixKind X.prog X.w) (kvs := vs) (ep := ep) (d := d) (r := s1.heap.objs.size)
  refine PySem.W.kdl_call K (I1.ok.hd hc) ⟨⟨_, Heap.get?_push_size _ rfl, rfl, rfl⟩, hat.push _⟩ (by rw [← lk]; exact hz) fun h' tk acc c k hS hacc => ?_
  have hsz : s1.heap.objs.size ≤ (s1.heap.push { cls := .type "dict_values", data := .fields #[.ref d] }).objs.size := by rw [Heap.size_push]; exact Nat.le_succ _
  refine ⟨.ref _, upd H1 _ (.lst (kvs.map (·.2))), I2.laid (t' := tk) k (Nat.le_refl _) (show ObjOk X.prog X.w _ _ _ (.lst (kvs.map (·.2))) from ⟨by rw [List.length_map]; exact hz, acc.toList, c, ?_, by rw [Array.toArray_toList]; exact hS⟩), rfl, q _ (I2.hok.fresh (Nat.le_refl _))⟩
  have el : acc.toList.length = acc.size := by simp
  refine vals_of_at (by rw [List.length_map, el, hacc.1, lk]) fun j y u h1 h2 => ?_
  obtain ⟨k0, hky⟩ := hacc.2 j u (by rw [← Array.getElem?_toList]; exact h2)
  rw [List.getElem?_map] at h1
  obtain ⟨kv0, e1, e2⟩ := Option.map_eq_some_iff.mp h1
  subst e2
  obtain ⟨y2, g1, g2, g3⟩ := LiI.paired_get kv e1
  rw [hky] at g1
  cases g1
  exact g3
/-- the pairs of a dict, each a new tuple -/
theorem pairs_laid {pins : List (Addr × Obj)} {σ : L2.St} {H : Hp} {s : Shared} {h' : Heap} {tk : Nat} {kvs : List (Key × V)} {vs : List (Key × Value)} {as : List Addr} {lo : Addr} (I : Inv X pins σ H s) (kv : KV kvs vs)
    (hk : ∀ b o, s.heap.get? b = some o → h'.get? b = some o) (hl : as.length = vs.length) (hlo : s.heap.objs.size ≤ lo) (hG : PySem.W.KdxG (mixKind X.prog X.w) vs lo h' as) :
    ∃ H' : Hp, Same H H' ∧ Paired (fun (t : Addr) (q : Key × V) => H' t = some (.tup [kV q.1, q.2])) as kvs ∧ (∀ b, b ∉ as → H' b = H b) ∧ (∀ t ∈ as, H t = none) ∧ Inv X pins σ H' { s with heap := h', toks := tk } := by
  have lk : kvs.length = vs.length := Paired.length kv
  have nd : as.Nodup := List.Pairwise.imp (fun {a b} (h : a < b) => Nat.ne_of_lt h) hG.rise
  have hi : ∀ t ∈ as, s.heap.objs.size ≤ t := fun t ht => Nat.le_trans hlo (Nat.le_of_lt (hG.above t ht))
  have new : ∀ t ∈ as, H t = none := fun t ht => I.hok.fresh (hi t ht)
  have at_ := LiI.putT_at as kvs H (by omega) nd
  have off : ∀ b, b ∉ as → LiI.putT H as kvs b = H b := fun b h1 => LiI.putT_off as kvs _ h1
  have low : ∀ b o, s.heap.get? b = some o → b ∉ as := fun b o e z => absurd (Heap.lt_size e) (Nat.not_lt.mpr (hi b z))
  have kp : Same H (LiI.putT H as kvs) := fun b u e => by
    rw [off b fun z => by rw [new b z] at e; cases e]
    exact e
  refine ⟨LiI.putT H as kvs, kp, at_, off, new, ?_⟩
  refine I.call' (ch := []) rfl ⟨fun b o q _ _ _ => hk b o q, fun b o q _ _ _ => ⟨o.slots, hk b o q⟩, fun b o q n _ => ?_, fun b o q _ => ⟨o, hk b o q⟩, fun b xs q => kp b _ q, fun b o u q => kp b _ q, fun b ps q => ⟨#[], by rw [kp b _ q]; simp⟩⟩ (fun b u q => ?_) I.bare fun b z => by cases z
  · rw [off b (low b o q)]
    exact n
  · by_cases hb : b ∈ as
    · obtain ⟨j, pk, e1, e2, e3⟩ := LiI.paired_ix at_ hb
      rw [e3] at q
      cases q
      obtain ⟨key, k, x, f1, f2, f3⟩ := hG.pairs j b e1
      obtain ⟨qv, g1, g2, g3⟩ := LiI.paired_get kv e2
      rw [f1] at g1
      cases g1
      have rk : RelV (kV pk.1) key := by
        rw [g2]
        exact relV_key (show keyIs k key = true from f2)
      exact ⟨small (by show 2 ≤ 1000; decide), [key, x], .cons rk (.cons g3 .nil), ⟨_, f3, rfl, _, rfl⟩⟩
    · rw [off b hb] at q
      exact (I.hok b u q).stay (fun d v _ y => hk d v y) (fun d y => kp d _ y) fun d xs y => kp d _ y
theorem paired_same {H2 H3 : Hp} {as : List Addr} {kvs : List (Key × V)} (pr : Paired (fun (t : Addr) (y : Key × V) => H2 t = some (.tup [kV y.1, y.2])) as kvs) (sn : Same H2 H3) :
    Paired (fun (t : Addr) (y : Key × V) => H3 t = some (.tup [kV y.1, y.2])) as kvs := by
  induction pr with
  | nil => exact .nil
  | cons h _ ih => exact .cons (sn _ _ h) ih
/-- tuple(e.items()) -/
def tTupItems (te : TE) : TE := fun σ H Q => te σ H fun x H1 => ∃ (d : Addr) (kvs : List (Key × V)), x = .ref d ∧ H1 d = some (.dK kvs) ∧
  ∀ (q : Addr) (H2 : Hp) (as : List Addr), Same H1 H2 → H1 q = none → H2 q = some (.tup (as.map V.ref)) → Paired (fun (t : Addr) (y : Key × V) => H2 t = some (.tup [kV y.1, y.2])) as kvs → Q (.ref q) H2
theorem pe_tupItems (hc : X.calm = true) (he : PE X e te) (hg : Gl X "tuple") (hm : X.mg "tuple" = none) (hv : bootBuiltins "tuple" = some (.type "tuple")) (hb : attributeBase e "items" X.env (eval e X.env) = eval e X.env := by rfl) (hl : (apos.endLine == cpos.line) = true := by rfl)
    (hs : starEach [.Call (.Attribute e "items" apos) [] [] cpos] X.env = (false, eval (.Call (.Attribute e "items" apos) [] [] cpos) X.env) :: starEach [] X.env := by rfl) :
    PE X (.Call (.Name "tuple" p) [.Call (.Attribute e "items" apos) [] [] cpos] [] pos) (tTupItems te) := by
  refine ⟨fun pins s σ H Q I hq => wpAny_Call_Name_kw (ld_blt I hg hm hv (PyProof.Rows.callWith_type1 ?_ hs rfl))⟩
  rw [hs]
  refine Calls.spliced_cons (wpAny_Call_method (T := "dict") (id := "dict.items") hb rfl hl F.plainAttrs_dict F.slot_dict_items F.type_dict_items (thn (he.run pins s σ H _ I hq) fun u s1 ⟨x, H1, I1, rx, d, kvs, ex, hd, q⟩ => ?_))
  subst ex
  obtain rfl : u = Value.ref d := rx
  obtain ⟨hz, lo, vs, kv, hdo⟩ := I1.hok d _ hd
  obtain ⟨ep, hat⟩ := hdo.dictAt
  have lk : kvs.length = vs.length := Paired.length kv
  have I2 : Inv X pins σ H1 { s1 with heap := s1.heap.push { cls := .type "dict_items", data := .fields #[.ref d] } } := I1.kept (t' := s1.toks) fun b ob z => Heap.get?_push_of_some _ z
  refine ⟨hdo.typeIs, hdo.mapOf.noDict, ?_⟩
  refine method_meetsIn F.slot_dict_items F.entry_dict_items rfl (PySem.evalArgs_none ⟨rfl, hdo.typeIs, F.args_dict_items_1 _, _, meets_dict_items (mixKind X.prog X.w) d lo, ⟨vs, hdo⟩, Calls.spliced_nil ?_⟩)
  have n1 : (s1.heap.push { cls := .type "dict_items", data := .fields #[.ref d] }).get? s1.heap.objs.size = some { cls := .type "dict_items", data := .fields #[.ref d] } := Heap.get?_push_size _ rfl
  refine call_tuple_by (s := { s1 with heap := s1.heap.push { cls := .type "dict_items", data := .fields #[.ref d] } }) (T := "dict_items") (C := fun h' us => (∀ b o, (s1.heap.push { cls := .type "dict_items", data := .fields #[.ref d] }).get? b = some o → h'.get? b = some o) ∧ ∃ as : List Addr, us = as.map Value.ref ∧ as.length = vs.length ∧
      PySem.W.KdxG (mixKind X.prog X.w) vs (s1.heap.push { cls := .type "dict_items", data := .fields #[.ref d] }).objs.size h' as) ⟨_, n1, rfl⟩ (.inr rfl)
    (fun E' A' R hA hR => PySem.W.kdx_collect (knd := mixKind X.prog X.w) (kvs := vs) (ep := ep) (hA.trans (I1.ok.hd hc)) ⟨_, n1, rfl, rfl⟩ (hat.push _) (by rw [← lk]; exact hz) fun h' tk as k l g => hR h' tk _ ⟨k, as, rfl, l, g⟩) (fun h' us hC => ?_) fun h' tk us hC => ?_
  · obtain ⟨_, as, rfl, l, _⟩ := hC
    rw [List.length_map, l, ← lk]
    exact hz
  · obtain ⟨k, as, rfl, l, g⟩ := hC
    obtain ⟨H2, s2, pr, off, new, J⟩ := pairs_laid (tk := tk) I2 kv k l (Nat.le_refl _) g
    have hn : H2 h'.objs.size = none := J.hok.fresh (Nat.le_refl _)
    have hn1 : H1 h'.objs.size = none := s2.free hn
    refine ⟨.ref h'.objs.size, upd H2 h'.objs.size (.tup (as.map V.ref)), J.laid (t' := tk) (fun b o e => Heap.get?_push_of_some _ e) (Nat.le_refl _) (show ObjOk X.prog X.w _ _ _ (.tup (as.map V.ref)) from ⟨by rw [List.length_map, l, ← lk]; exact hz, as.map Value.ref, LiI.vals_refs as, IsTup.new _ _⟩), rfl, q _ _ as (s2.trans (same_new hn _)) hn1 upd_same ?_⟩
    exact paired_same pr (same_new hn (.tup (as.map V.ref)))
end
end Fg
set_option Elab.async false
set_option linter.all false
set_option maxRecDepth 100000
set_option maxHeartbeats 4000000
namespace Fg
open PySem L2 TL
/-! ### Parser.__init__ -/
abbrev nl : Str := "\n"
abbrev s_Parser_init : Stmt := inClass (top 20) 0
abbrev sc_Parser_initN : List Str := ["self", "text"]
theorem sc_Parser_init : FnScope sc_Parser_initN ["self", "text"] (defScope s_Parser_init) := ⟨rfl, rfl, rfl, by decide +kernel, rfl, by decide +kernel, by decide +kernel⟩
def spPInit (C : Addr) : Sp := fun vs H Q _ => ∃ (p dx : Addr) (z : Str), vs = [.ref p, .str z] ∧ H p = some (.ins C dx []) ∧ z.length ≤ 10000 ∧
  ∀ (l m s t : Addr) (H' : Hp), H l = none → H m = none → H s = none → H t = none → m ≠ s → m ≠ t → s ≠ t → H' p = some (.ins C dx (pf l 1 "" m s t 0)) → H' l = some (.lst ((Txt.split z nl).map V.str)) → H' m = some (.dK []) → H' s = some (.dK []) → H' t = some (.dK []) → But p H H' → Q .non H'
section
variable {P : Program} {w : World} {K : PySem.W.Frag} {mg : Str → Option Value} {base : Heap}
theorem free_but {p a : Addr} {H H' : Hp} (e : But p H H') (n : a ≠ p) (h : H' a = none) : H a = none := by
  cases q : H a with
  | none => rfl
  | some o => rw [e a o q n] at h; cases h
theorem fldV {D : Ends} {σ : L2.St} {H2 : Hp} {tv : TE} {v : V} {p C dx : Addr} {F : List (Str × V)} {x : Str} (h0 : σ[0]? = some (some (.ref p))) (cl : Cls K C) (na : NoAttr K C x) (hl : F.length < 1000) (p2 : H2 p = some (.ins C dx F)) (hv : ∀ Q : VK, Q v H2 → tv σ H2 Q)
    (q : ∀ H3 : Hp, H3 p = some (.ins C dx (putF x v F)) → But p H2 H3 → D.nx σ H3) : sFld K (tVar 0) tv x D σ H2 :=
  hv _ ⟨_, h0, p, C, dx, F, rfl, p2, cl, na, hl, q _ upd_same But.upd⟩
theorem fldD {D : Ends} {σ : L2.St} {H2 : Hp} {p C dx : Addr} {F : List (Str × V)} {x : Str} (h0 : σ[0]? = some (some (.ref p))) (cl : Cls K C) (na : NoAttr K C x) (hl : F.length < 1000) (p2 : H2 p = some (.ins C dx F))
    (q : ∀ (m : Addr) (H3 : Hp), H2 m = none → H3 m = some (.dK []) → H3 p = some (.ins C dx (putF x (.ref m) F)) → But p H2 H3 → D.nx σ H3) : sFld K (tVar 0) tDNewK x D σ H2 := fun m hm => by
  have n : p ≠ m := ne_of_none p2 hm
  exact ⟨_, h0, p, C, dx, F, rfl, by rw [upd_ne n]; exact p2, cl, na, hl, q m _ hm (by rw [upd_ne n.symm]; exact upd_same) upd_same ((But.of_same (same_new hm _)).trans But.upd)⟩
theorem fldVs {D : Ends} {u : TS} {σ : L2.St} {H2 : Hp} {tv : TE} {v : V} {p C dx : Addr} {F : List (Str × V)} {x : Str} (h0 : σ[0]? = some (some (.ref p))) (cl : Cls K C) (na : NoAttr K C x) (hl : F.length < 1000) (p2 : H2 p = some (.ins C dx F)) (hv : ∀ Q : VK, Q v H2 → tv σ H2 Q)
    (q : ∀ H3 : Hp, H3 p = some (.ins C dx (putF x v F)) → But p H2 H3 → u D σ H3) : tSeq (sFld K (tVar 0) tv x) u D σ H2 := fldV h0 cl na hl p2 hv q
theorem fldDs {D : Ends} {u : TS} {σ : L2.St} {H2 : Hp} {p C dx : Addr} {F : List (Str × V)} {x : Str} (h0 : σ[0]? = some (some (.ref p))) (cl : Cls K C) (na : NoAttr K C x) (hl : F.length < 1000) (p2 : H2 p = some (.ins C dx F))
    (q : ∀ (m : Addr) (H3 : Hp), H2 m = none → H3 m = some (.dK []) → H3 p = some (.ins C dx (putF x (.ref m) F)) → But p H2 H3 → u D σ H3) : tSeq (sFld K (tVar 0) tDNewK x) u D σ H2 := fldD h0 cl na hl p2 q
theorem ok_parser_init {f C : Addr} {fd : FuncData} (F : Fun K "__init__" "Parser.__init__" s_Parser_init f fd) (T : PTxt K C) : FnOk P w K mg base CX0 1 f fd ["self", "text"] (spPInit C) := by
  refine F.ok sc_Parser_init (fun vs H Q E h => ?_) (fun cdv A outer st H vs Q E hr h => ?_)
  · obtain ⟨p, dx, z, rfl, _⟩ := h
    rfl
  obtain ⟨p, dx, z, rfl, hp, hz, q⟩ := h
  refine ⟨_, (pss_cons (ps_fld (pv 0) (pe_split (pv 1) pe_str) rfl)
(pss_cons (ps_fld (pv 0) pe_int rfl)
(pss_cons (ps_fld (pv 0) pe_str rfl)
(pss_cons (ps_fld (pv 0) pe_dnewK rfl)
(pss_cons (ps_fld (pv 0) pe_dnewK rfl)
(pss_cons (ps_fld (pv 0) pe_dnewK rfl)
(pss_one (ps_fld (pv 0) pe_int rfl)))))))), ?_⟩
  refine ⟨_, rfl, ⟨_, rfl⟩, _, _, rfl, rfl, by decide +kernel, sizeLine_big (by omega), fun l hl => ?_⟩
  have n1 : p ≠ l := ne_of_none hp hl
  refine ⟨_, rfl, p, C, dx, _, rfl, (by rw [upd_ne n1]; exact hp), T.cl, T.nLines, (by show 0 < 1000; decide), ?_⟩
  have b1 : But p H (upd (upd H l (.lst ((Txt.split z nl).map V.str))) p (HO.ins C dx (putF "lines" (.ref l) []))) := (But.of_same (same_new hl _)).trans But.upd
  have l1 : (upd (upd H l (.lst ((Txt.split z nl).map V.str))) p (HO.ins C dx (putF "lines" (.ref l) []))) l = some (.lst ((Txt.split z nl).map V.str)) := by rw [upd_ne n1.symm]; exact upd_same
  refine fldVs (tv := tC (.int 1)) (v := .int 1) (F := putF "lines" (.ref l) []) rfl T.cl T.nNumber (by show 1 < 1000; decide) upd_same (fun Q k => k) fun H2 p2 b2 => ?_
  refine fldVs (tv := tC (.str "")) (v := .str "") rfl T.cl T.nSymbols (by show 2 < 1000; decide) p2 (fun Q k => k) fun H3 p3 b3 => ?_
  refine fldDs rfl T.cl T.nMosts (by show 3 < 1000; decide) p3 fun m H4 hm m4 p4 b4 => ?_
  refine fldDs rfl T.cl T.nStarts (by show 4 < 1000; decide) p4 fun s H5 hs s5 p5 b5 => ?_
  refine fldDs rfl T.cl T.nStatements (by show 5 < 1000; decide) p5 fun t H6 ht t6 p6 b6 => ?_
  refine fldV (tv := tC (.int 0)) (v := .int 0) rfl T.cl T.nFirst (by show 6 < 1000; decide) p6 (fun Q k => k) fun H7 p7 b7 => ?_
  have b03 := (b1.trans b2).trans b3
  have b04 := b03.trans b4
  have b05 := b04.trans b5
  have nm : m ≠ p := (ne_of_none p3 hm).symm
  have ns : s ≠ p := (ne_of_none p4 hs).symm
  have nt : t ≠ p := (ne_of_none p5 ht).symm
  have m5 := b5 _ _ m4 nm
  have s6 := b6 _ _ s5 ns
  refine q l m s t H7 hl (free_but b03 nm hm) (free_but b04 ns hs) (free_but b05 nt ht) (ne_of_none m4 hs) (ne_of_none m5 ht) (ne_of_none s5 ht) ?_ ?_ ?_ ?_ ?_ (b05.trans (b6.trans b7))
  · rw [p7]
    exact congrArg (fun l => some (HO.ins C dx l)) (by kernel_rfl)
  · exact ((((b2.trans b3).trans b4).trans b5).trans (b6.trans b7)) _ _ l1 n1.symm
  · exact (b6.trans b7) _ _ m5 nm
  · exact b7 _ _ s6 ns
  · exact b7 _ _ t6 nt
end
end Fg
set_option Elab.async false
set_option linter.all false
set_option maxRecDepth 100000
set_option maxHeartbeats 4000000
namespace Fg
open PySem L2 TL
/-! ### parse -/
/-- all is as it was but statements -/
def KeepI (CS : Addr) (H H' : Hp) : Prop := ∀ b o, H b = some o → (∀ dx fs, o ≠ .ins CS dx fs) → H' b = some o
theorem KeepI.of_same {CS : Addr} {H H' : Hp} (e : Same H H') : KeepI CS H H' := fun b o h _ => e b o h
theorem KeepI.trans {CS : Addr} {H H1 H2 : Hp} (a : KeepI CS H H1) (b : KeepI CS H1 H2) : KeepI CS H H2 := fun c o h n => b c o (a c o h n) n
/-- a text that is a program -/
structure TextOk (sy : Str) (ms : NV) (ps : List PartR) (ma : List Row) (nm : Nat) (rows : List Row) (z : Str) : Prop where
  ok : ProgOk sy ms ps ma nm rows
  eq : z = Txt.join nl (rows.map lineOf)
  len : z.length ≤ 10000
  few : rows.length ≤ 1000
  short : ∀ r ∈ rows, (lineOf r).length ≤ 10000
  no : ∀ r ∈ rows, 10 ∉ tl (lineOf r)
theorem tl_nl : tl nl = [10] := by decide +kernel
theorem TextOk.lines {sy : Str} {ms : NV} {ps : List PartR} {ma : List Row} {nm : Nat} {rows : List Row} {z : Str} (h : TextOk sy ms ps ma nm rows z) : Txt.split z nl = rows.map lineOf := by
  rw [h.eq]
  refine split_join tl_nl (by decide +kernel) (fun e => ?_) (fun p hp => ?_)
  · have := h.ok.eq
    rw [List.map_eq_nil_iff.mp e] at this
    unfold headRows at this
    cases this
  · obtain ⟨r, hr, rfl⟩ := List.mem_map.mp hp
    exact h.no r hr
abbrev s_parse : Stmt := top 18
abbrev sc_parseN : List Str := ["text", "parser"]
theorem sc_parse : FnScope sc_parseN ["text"] (defScope s_parse) := ⟨rfl, rfl, rfl, by decide +kernel, rfl, by decide +kernel, by decide +kernel⟩
def spParse (C CS : Addr) : Sp := fun vs H Q _ => ∃ (sy : Str) (ms : NV) (ps : List PartR) (ma : List Row) (nm : Nat) (rows : List Row) (z : Str), vs = [.str z] ∧ TextOk sy ms ps ma nm rows z ∧
  ∀ (p l m s t : Addr) (H' : Hp) (k : Nat) (fi : Int) (ss : NV) (kvs : List (Key × V)) (cnt : Nat), KeepI CS H H' → SAt C CS H' p l m s t k sy fi ms ss rows kvs cnt → ss.map (·.1) = ps.map (·.1) → cnt ≤ 20 → rows.length ≤ k → Q (.ref p) H'
section
variable {P : Program} {w : World} {K : PySem.W.Frag} {mg : Str → Option Value} {base : Heap}
theorem ok_parse {f C CS : Addr} {fd : FuncData} (F : Fun K "parse" "parse" s_parse f fd) (T : Bare mg) (hisi : mg "isinstance" = none) (TP : PTxt K C) (cc : C ≠ CS) (MK : Maker P w K mg base C 1 "Parser" ["self", "text"] (spPInit C)) (MR : Meter P w K mg base C 15 "read_program" ["self"] (spProg C CS)) :
    FnOk P w K mg base CX0 16 f fd ["text"] (spParse C CS) := by
  refine F.ok sc_parse (fun vs H Q E h => ?_) (fun cdv A outer st H vs Q E hr h => ?_)
  · obtain ⟨sy, ms, ps, ma, nm, rows, z, rfl, _⟩ := h
    rfl
  obtain ⟨sy, ms, ps, ma, nm, rows, z, rfl, TO, q⟩ := h
  refine ⟨_, (pss_cons (ps_if (pt_not (pt_val (pe_callB call_isi (by rfl) hisi (by decide +kernel) (pa_cons (pv 0) (pa_cons (pe_bltn (v := .ty "str") (u := .type "str") (by rfl) T.str (by decide +kernel) rfl) pa_nil)))))
(pss_one ps_never)
pss_nil)
(pss_cons (ps_set (i := 1) sc_parse.nd rfl (Or.inl rfl) (pe_make MK.mkr MK.ok (hr.mono (by decide)) rfl MK.mg MK.b .nil pass0 (pa_cons (pv 0) pa_nil)))
(pss_cons (ps_expr (pe_meth0 (pv 1) TP.cl MR.m MR.ok hr MR.b .nil pass0))
(pss_one (ps_ret (pv 1)))))), ?_⟩
  refine ⟨_, rfl, .str z, .ty "str", .type "str", .type "str", true, rfl, .ty "str", .base (.str z), kit_ty (by decide +kernel), ?_⟩
  refine ⟨true, rfl, iteF ?_⟩
  refine ⟨_, rfl, fun p dx hp hdx hne => ?_⟩
  have npd : p ≠ dx := fun z => hne z.symm
  have k0 : Same H (upd (upd H dx (.own p)) p (.ins C dx [])) := (same_new hdx _).trans (same_new (by rw [upd_ne npd]; exact hp) _)
  refine ⟨p, dx, z, rfl, upd_same, TO.len, fun l m s t H2 hl hm hs ht hms hmt hst p2 l2 m2 s2 t2 b2 => ⟨rfl, ?_⟩⟩
  have hl0 : H l = none := k0.free hl
  have hm0 : H m = none := k0.free hm
  have hs0 : H s = none := k0.free hs
  have ht0 : H t = none := k0.free ht
  have kI : ∀ b o, H b = some o → H2 b = some o := fun b o h => b2 b o (k0 b o h) (ne_of_none h hp)
  refine ⟨_, rfl, p, dx, _, rfl, p2, (by kernel_rfl), ?_⟩
  rw [TO.lines] at l2
  have S2 : SAt C CS H2 p l m s t 0 "" 0 [] [] rows [] 0 := ⟨⟨⟨dx, p2⟩, m2, s2, List.nodup_nil, List.nodup_nil⟩, ⟨l2, by rw [List.length_map]; exact TO.few, fun x hx => by
      obtain ⟨r, hr, rfl⟩ := List.mem_map.mp hx
      exact TO.short r hr⟩, t2, rfl, fun kv h => (by cases h), fun kv h => (by cases h), hmt, hst, cc, fun i r h => absurd h (Nat.not_lt_zero _)⟩
  refine ⟨p, l, m, s, t, "", sy, 0, ms, ps, ma, nm, rows, rfl, S2, hms, TO.ok, fun H3 k fi ss kvs cnt k3 S3 hss hcnt hkl => ?_⟩
  refine ⟨_, rfl, q p l m s t H3 k fi ss kvs cnt (fun b o h n => ?_) S3 hss hcnt hkl⟩
  exact k3 b o (kI b o h) (ne_of_none h hp) (ne_of_none h hm0) (ne_of_none h hs0) (ne_of_none h ht0) n
end
end Fg
set_option Elab.async false
set_option linter.all false
set_option maxRecDepth 100000
set_option maxHeartbeats 4000000
namespace Fg
open PySem PySem.Spec PyProof.Rows L2 TL
/-! ### letters_of -/
theorem same_upd {H H' : Hp} {p : Addr} {o : HO} (e : Same H H') (h : H p = none) : Same H (upd H' p o) := fun b u q => by rw [upd_ne (ne_of_none q h)]; exact e _ _ q
theorem sqL_same {K : PySem.W.Frag} {H H' : Hp} {a : Addr} {xs : List V} (e : Same H H') (h : SqL K H a xs) : SqL K H' a xs := by
  rcases h with (h | ⟨o, h⟩) | h
  · exact .inl (.inl (e _ _ h))
  · exact .inl (.inr ⟨o, e _ _ h⟩)
  · exact .inr h
theorem all_snoc {α : Type} {R : Nat → α → Prop} {os : List α} {i : Nat} {o : α} (hR : ∀ j o', os[j]? = some o' → R j o') (hl : os.length = i) (hr : R i o) : ∀ j o', (os ++ [o])[j]? = some o' → R j o' := fun j o' e => by
  by_cases hj : j < os.length
  · rw [List.getElem?_append_left hj] at e
    exact hR j o' e
  · rw [List.getElem?_append_right (by omega)] at e
    by_cases h0 : j = os.length
    · subst h0
      rw [Nat.sub_self] at e
      have e : some o = some o' := e
      rw [← Option.some.inj e, hl]
      exact hr
    · rw [List.getElem?_eq_none (by show 1 ≤ _; omega)] at e
      cases e
/-- a comprehension over a list that gathers texts -/
theorem lc_sel {K : PySem.W.Frag} {a D : Addr} {xs : List V} {σ : L2.St} {H1 : Hp} {Qd : Hp → Prop} {s : Nat} {vs : List Nat} {tt : TT} {te : TE} (R : Nat → Option Str → Prop) (hS : SqL K H1 a xs) (hD : H1 D = none) (hn : xs.length ≤ 10000) (hw : ∀ v, wipe ((wipe σ vs).set s (some v)) vs = wipe σ vs)
    (he : ∀ i x, xs[i]? = some x → ∀ H : Hp, Same H1 H → ∃ o : Option Str, R i o ∧ (∀ Z : Bool → Hp → Prop, Z o.isSome H → tt ((wipe σ vs).set s (some x)) H Z) ∧ (∀ z, o = some z → ∀ Q : VK, Q (.str z) H → te ((wipe σ vs).set s (some x)) H Q))
    (hd : ∀ os : List (Option Str), os.length = xs.length → (∀ i o, os[i]? = some o → R i o) → Qd (upd H1 D (.lst ((os.filterMap id).map V.str)))) :
    ∃ W : Nat → Nat → Hp → Prop, (∃ m, W 0 m (upd H1 D (.lst []))) ∧ ∀ i m H, W i m H →
      ((Itl K a).stop i H ∧ Qd H) ∨ ((Itl K a).go i H ∧ ∃ Nx : Hp → Prop, (∀ H', Nx H' → ∃ m', m' < m ∧ W (i + 1) m' H') ∧ ∀ x H', (Itl K a).yld i H x H' → gName s x (wipe σ vs) H' fun σ2 H2 => wipe σ2 vs = wipe σ vs ∧ tt σ2 H2 fun b H3 =>
        if b = true then te σ2 H3 fun y H4 => ∃ acc, H4 D = some (.lst acc) ∧ acc.length < sizeLine ∧ Nx (upd H4 D (.lst (acc ++ [y]))) else Nx H3) := by
  refine lc_it (walk_list (xs := xs)) (fun i H => ∃ os : List (Option Str), os.length = i ∧ (∀ j o, os[j]? = some o → R j o) ∧ H = upd H1 D (.lst ((os.filterMap id).map V.str))) ⟨[], rfl, fun j o e => (by cases e), rfl⟩ (fun i H hi p => ?_) (fun i x H H' hi p y => ?_) (fun H p => ?_)
  · obtain ⟨os, _, _, rfl⟩ := p
    exact sqL_same (same_new hD _) hS
  · obtain ⟨os, h1, hR, rfl⟩ := p
    obtain ⟨rfl, hx⟩ := y
    refine ⟨hw _, ?_⟩
    obtain ⟨o, hr, h2, h3⟩ := he i x hx _ (same_new hD _)
    have hR2 := all_snoc hR h1 hr
    refine h2 _ ?_
    cases o with
    | none => exact iteF ⟨os ++ [none], (by rw [List.length_append, h1] <;> rfl), hR2, (by rw [List.filterMap_append, show ([none] : List (Option Str)).filterMap id = [] from rfl, List.append_nil])⟩
    | some z =>
      refine iteT (h3 z rfl _ ⟨_, upd_same, ?_, os ++ [some z], (by rw [List.length_append, h1] <;> rfl), hR2, ?_⟩)
      · rw [List.length_map, sizeLine_eq]
        have := List.length_filterMap_le id os
        omega
      · rw [upd_upd, List.filterMap_append, List.map_append] <;> rfl
  · obtain ⟨os, h1, hR, rfl⟩ := p
    exact hd os h1 hR
/-! ### lists of texts in order -/
theorem le_of_ltCps {a b : Str} (h : ltCps b.cps.toList a.cps.toList = false) : a.cps.toList ≤ b.cps.toList := by
  rw [ltCps_eq] at h
  exact List.not_lt.mp (of_decide_eq_false h)
theorem sorted_pair : ∀ {l : List Str}, sortedS l = true → l.Pairwise fun a b => a.cps.toList ≤ b.cps.toList := by
  have key : ∀ (l : List Str) (p : Str), risingS p l = true → (p :: l).Pairwise fun a b => a.cps.toList ≤ b.cps.toList := by
    intro l
    induction l with
    | nil => intro p _; exact List.pairwise_singleton _ _
    | cons x r ih =>
      intro p h
      have h : (!ltCps x.cps.toList p.cps.toList && risingS x r) = true := h
      rw [Bool.and_eq_true] at h
      have h1 : p.cps.toList ≤ x.cps.toList := le_of_ltCps (by simpa using h.1)
      have h2 := ih x h.2
      refine List.pairwise_cons.mpr ⟨fun y hy => ?_, h2⟩
      rcases List.mem_cons.mp hy with rfl | hy
      · exact h1
      · exact List.le_trans h1 ((List.pairwise_cons.mp h2).1 y hy)
  intro l h
  cases l with
  | nil => exact .nil
  | cons x r => exact key r x h
theorem sorted_one : ∀ {xs ys : List Str}, xs.Pairwise (fun a b => a.cps.toList ≤ b.cps.toList) → ys.Pairwise (fun a b => a.cps.toList ≤ b.cps.toList) → xs.Nodup → ys.Nodup → (∀ z, z ∈ xs ↔ z ∈ ys) → xs = ys
  | [], [], _, _, _, _, _ => rfl
  | [], y :: ys, _, _, _, _, m => absurd ((m y).mpr List.mem_cons_self) List.not_mem_nil
  | x :: xs, [], _, _, _, _, m => absurd ((m x).mp List.mem_cons_self) List.not_mem_nil
  | x :: xs, y :: ys, p1, p2, n1, n2, m => by
    obtain ⟨a1, a2⟩ := List.pairwise_cons.mp p1
    obtain ⟨b1, b2⟩ := List.pairwise_cons.mp p2
    obtain ⟨c1, c2⟩ := List.nodup_cons.mp n1
    obtain ⟨d1, d2⟩ := List.nodup_cons.mp n2
    have e : x = y := by
      rcases List.mem_cons.mp ((m x).mp List.mem_cons_self) with e | hx
      · exact e
      · rcases List.mem_cons.mp ((m y).mpr List.mem_cons_self) with e | hy
        · exact e.symm
        · exact ext_tl (List.le_antisymm (a1 y hy) (b1 x hx))
    subst e
    refine congrArg (x :: ·) (sorted_one a2 b2 c2 d2 fun z => ⟨fun h => ?_, fun h => ?_⟩)
    · rcases List.mem_cons.mp ((m z).mp (List.mem_cons_of_mem _ h)) with e | h'
      · subst e; exact absurd h c1
      · exact h'
    · rcases List.mem_cons.mp ((m z).mpr (List.mem_cons_of_mem _ h)) with e | h'
      · subst e; exact absurd h d1
      · exact h'
/-- a text's signs, each a text -/
def charsOf (sy : Str) : List Str := (tl sy).map fun c => ⟨#[c]⟩
/-- what the rows may write -/
def LettersOf (sy : Str) (rows : List Row) (x : Str) : Prop := (∃ r ∈ rows, r.2 = [("write" : Str), x]) ∨ ((∃ r ∈ rows, r.2.head? = some ("copy" : Str)) ∧ x ∈ charsOf sy)
structure LetOk (sy : Str) (rows : List Row) (zs : List Str) : Prop where
  up : sortedS zs = true
  nd : zs.Nodup
  mem : ∀ x, x ∈ zs ↔ LettersOf sy rows x
  len : zs.length ≤ 60
theorem LetOk.one {sy : Str} {rows : List Row} {xs ys : List Str} (h : LetOk sy rows xs) (k : LetOk sy rows ys) : xs = ys :=
  sorted_one (sorted_pair h.up) (sorted_pair k.up) h.nd k.nd fun z => (h.mem z).trans (k.mem z).symm
def gf (z sy : Str) (c q t : Addr) (fi : Int) : List (Str × V) :=
  [("text", .str z), ("symbols", .str sy), ("cells", .ref c), ("parts", .ref q), ("statements", .ref t), ("first", .int fi)]
theorem gf_statements {z sy : Str} {c q t : Addr} {fi : Int} : (gf z sy c q t fi).lookup ("statements" : Str) = some (V.ref t) := by kernel_rfl
theorem gf_symbols {z sy : Str} {c q t : Addr} {fi : Int} : (gf z sy c q t fi).lookup ("symbols" : Str) = some (V.str sy) := by kernel_rfl
structure GTxt (K : PySem.W.Frag) (C : Addr) : Prop where
  cl : Cls K C
  nText : NoAttr K C "text"
  nSymbols : NoAttr K C "symbols"
  nCells : NoAttr K C "cells"
  nParts : NoAttr K C "parts"
  nStatements : NoAttr K C "statements"
  nFirst : NoAttr K C "first"
  nLetters : NoAttr K C "letters"
abbrev s_letters_of : Stmt := top 23
abbrev sc_letters_ofN : List Str := ["program", "statements", "letters", "statement"]
theorem sc_letters_of : FnScope sc_letters_ofN ["program"] (defScope s_letters_of) := ⟨rfl, rfl, rfl, by decide +kernel, rfl, by decide +kernel, by decide +kernel⟩
def spLetters (CP CS : Addr) : Sp := fun vs H Q _ => ∃ (a dx t c q : Addr) (z sy : Str) (fi : Int) (kvs : List (Key × V)) (rows : List Row), vs = [.ref a] ∧ H a = some (.ins CP dx (gf z sy c q t fi)) ∧ H t = some (.dK kvs) ∧ kvs.length ≤ 20 ∧ sy.length ≤ 10 ∧
  (∀ kv ∈ kvs, ∃ b, kv.2 = V.ref b ∧ WOk CS (Said rows kv.1) H b) ∧ (∀ (i : Nat) (r : Row), rows[i]? = some r → WC r → ∃ kv ∈ kvs, kv.1 = Sum.inl ((i : Int) + 1)) ∧
  ∀ (r : Addr) (H' : Hp) (zs : List Str), Same H H' → H r = none → H' r = some (.tup (zs.map V.str)) → LetOk sy rows zs → Q (.ref r) H'
/-- the statement at a place of the dict -/
def StAt (kvs : List (Key × V)) (rows : List Row) (i : Nat) (wd : Str) (o : Option Str) : Prop := ∃ (kv : Key × V) (j : Nat) (r : Row), kvs[i]? = some kv ∧ kv.1 = Sum.inl ((j : Int) + 1) ∧ rows[j]? = some r ∧ r.2.head? = some wd ∧ (wd = "write" → ∃ z, o = some z ∧ r.2 = [("write" : Str), z]) ∧ (wd ≠ "write" → o = none)
theorem mem_filterMap_id {os : List (Option Str)} {x : Str} : x ∈ os.filterMap id ↔ ∃ i : Nat, os[i]? = some (some x) := by
  rw [List.mem_filterMap]
  constructor
  · rintro ⟨o, ho, e⟩
    have e : o = some x := e
    subst e
    exact List.mem_iff_getElem?.mp ho
  · rintro ⟨i, e⟩
    exact ⟨some x, List.mem_of_getElem? e, rfl⟩
theorem writes_mem {kvs : List (Key × V)} {rows : List Row} {os : List (Option Str)} (hl : os.length = kvs.length) (hR : ∀ i o, os[i]? = some o → ∃ wd, StAt kvs rows i wd o) (al : ∀ (i : Nat) (r : Row), rows[i]? = some r → WC r → ∃ kv ∈ kvs, kv.1 = Sum.inl ((i : Int) + 1)) (x : Str) :
    x ∈ os.filterMap id ↔ ∃ r ∈ rows, r.2 = [("write" : Str), x] := by
  rw [mem_filterMap_id]
  constructor
  · rintro ⟨i, e⟩
    obtain ⟨wd, kv, j, r, _, _, h3, _, h5, h6⟩ := hR i _ e
    by_cases hw : wd = "write"
    · obtain ⟨z, h7, h8⟩ := h5 hw
      cases h7
      exact ⟨r, List.mem_of_getElem? h3, h8⟩
    · have := h6 hw
      cases this
  · rintro ⟨r, hr, e⟩
    obtain ⟨j, hj⟩ := List.mem_iff_getElem?.mp hr
    have hh : r.2.head? = some ("write" : Str) := by rw [e]; rfl
    obtain ⟨kv, hkv, hk⟩ := al j r hj (.inl hh)
    obtain ⟨i, hi⟩ := List.mem_iff_getElem?.mp hkv
    have hil : i < os.length := by
      rw [hl]
      exact (List.getElem?_eq_some_iff.mp hi).1
    obtain ⟨wd, kv', j', r', h1, h2, h3, h4, h5, h6⟩ := hR i _ (List.getElem?_eq_getElem hil)
    rw [hi] at h1
    cases h1
    rw [hk] at h2
    have hjj : j' = j := by
      have := Sum.inl.inj h2
      omega
    subst hjj
    rw [hj] at h3
    cases h3
    rw [hh] at h4
    obtain ⟨z, h7, h8⟩ := h5 (Option.some.inj h4).symm
    rw [e] at h8
    have hz : x = z := by
      injection h8 with _ h9
      injection h9
    refine ⟨i, ?_⟩
    rw [List.getElem?_eq_getElem hil, h7, hz]
theorem copies_mem {kvs : List (Key × V)} {rows : List Row} {os : List (Option Str)} (hl : os.length = kvs.length) (hR : ∀ i o, os[i]? = some o → ∃ wd o', o = some wd ∧ StAt kvs rows i wd o') (al : ∀ (i : Nat) (r : Row), rows[i]? = some r → WC r → ∃ kv ∈ kvs, kv.1 = Sum.inl ((i : Int) + 1)) :
    ("copy" : Str) ∈ os.filterMap id ↔ ∃ r ∈ rows, r.2.head? = some ("copy" : Str) := by
  rw [mem_filterMap_id]
  constructor
  · rintro ⟨i, e⟩
    obtain ⟨wd, o', h0, kv, j, r, _, _, h3, h4, _, _⟩ := hR i _ e
    cases h0
    exact ⟨r, List.mem_of_getElem? h3, h4⟩
  · rintro ⟨r, hr, hh⟩
    obtain ⟨j, hj⟩ := List.mem_iff_getElem?.mp hr
    obtain ⟨kv, hkv, hk⟩ := al j r hj (.inr hh)
    obtain ⟨i, hi⟩ := List.mem_iff_getElem?.mp hkv
    have hil : i < os.length := by
      rw [hl]
      exact (List.getElem?_eq_some_iff.mp hi).1
    obtain ⟨wd, o', h0, kv', j', r', h1, h2, h3, h4, _, _⟩ := hR i _ (List.getElem?_eq_getElem hil)
    rw [hi] at h1
    cases h1
    rw [hk] at h2
    have hjj : j' = j := by
      have := Sum.inl.inj h2
      omega
    subst hjj
    rw [hj] at h3
    cases h3
    rw [hh] at h4
    refine ⟨i, ?_⟩
    rw [List.getElem?_eq_getElem hil, h0, Option.some.inj h4]
section
variable {P : Program} {w : World} {K : PySem.W.Frag} {mg : Str → Option Value} {base : Heap}
theorem ok_letters_of {f CP CS : Addr} {fd : FuncData} (F : Fun K "letters_of" "letters_of" s_letters_of f fd) (T : Bare mg) (hset : mg "set" = none) (hsorted : mg "sorted" = none) (TG : GTxt K CP) (TS : STxt K CS) : FnOk P w K mg base CX0 1 f fd ["program"] (spLetters CP CS) := by
  refine F.ok sc_letters_of (fun vs H Q E h => ?_) (fun cdv A outer st H vs Q E hr h => ?_)
  · obtain ⟨a, dx, t, c, q, z, sy, fi, kvs, rows, rfl, _⟩ := h
    rfl
  obtain ⟨a, dx, t, c, q, z, sy, fi, kvs, rows, rfl, ha, ht, hk, hsy, hw, al, k⟩ := h
  refine ⟨_, (pss_cons (ps_set (i := 1) sc_letters_of.nd rfl (Or.inl rfl) (pe_listVals rfl (pe_fld (pv 0) rfl) (by rfl) T.list (by decide +kernel)))
(pss_cons (ps_setLc (i := 2) (own := [("statement", 3)]) (g := gName 3) rfl sc_letters_of.nd rfl rfl (sw_true rfl rfl rfl (by decide +kernel)) (pi_list (pv 1)) (blkOk_by (N := sc_letters_ofN) (sc := defScope s_letters_of) (by decide +kernel)) (fun _ _ _ _ _ => pg_name (i := 3) sc_letters_of.nd rfl (Or.inl rfl)) (fun _ _ _ _ _ => (pts_one (pt_cmpR op_eq (show PE _ _ (tFld K (tVar 3) "word") from pe_fld (pv 3) rfl) pe_str (nomark _)))) (fun _ _ _ _ _ => (show PE _ _ (tFld K (tVar 3) "given") from pe_fld (pv 3) rfl)))
(pss_cons (ps_if (pt_cmpR op_in_seq pe_str (pe_lc (own := [("statement", 3)]) (g := gName 3) rfl sc_letters_of.nd (pi_list (pv 1)) (blkOk_by (N := sc_letters_ofN) (sc := defScope s_letters_of) (by decide +kernel)) (fun _ _ _ _ _ => pg_name (i := 3) sc_letters_of.nd rfl (Or.inl rfl)) (fun _ _ _ _ _ => pts_nil) (fun _ _ _ _ _ => (show PE _ _ (tFld K (tVar 3) "word") from pe_fld (pv 3) rfl))) (by rfl))
(pss_one (ps_expr (pe_bm PySem.F.plainAttrs_list PySem.F.slot_list_extend PySem.F.type_list_extend mt_extend (pv 2) (pa_cons (pe_callTy (call_list_text rfl) (by rfl) T.list (by decide +kernel) (pa_cons (pe_fld (pv 0) rfl) pa_nil)) pa_nil))))
pss_nil)
(pss_one (ps_ret (pe_callTy call_tuple_of (by rfl) T.tuple (by decide +kernel) (pa_cons (pe_callB (cr_sortedG sorts_str rfl) (by rfl) hsorted (by decide +kernel) (pa_cons (pe_callTy (cr_setOf (kdStr _ _) rfl) (by rfl) hset (by decide +kernel) (pa_cons (pv 2) pa_nil)) pa_nil)) pa_nil))))))), ?_⟩
  refine ⟨_, rfl, a, CP, dx, _, _, rfl, ha, TG.cl, TG.nStatements, gf_statements, t, kvs, rfl, ht, fun l hl => ?_⟩
  obtain ⟨H1, e1⟩ : ∃ H1 : Hp, H1 = upd H l (.lst (kvs.map (·.2))) := ⟨_, rfl⟩
  have s1 : Same H H1 := by rw [e1]; exact same_new hl _
  have l1 : H1 l = some (.lst (kvs.map (·.2))) := by rw [e1]; exact upd_same
  have hlen : (kvs.map (·.2)).length ≤ 20 := by rw [List.length_map]; exact hk
  have st1 : ∀ (i : Nat) (x : V), (kvs.map (·.2))[i]? = some x → ∀ H2 : Hp, Same H1 H2 → ∃ (b dxs : Addr) (ln : Int) (wd : Str) (g : V) (li lo : Addr) (fo : Int) (o : Option Str), x = V.ref b ∧ H2 b = some (.ins CS dxs (sf ln wd g li lo fo)) ∧ StAt kvs rows i wd o ∧ o.isSome = decide (V.str wd = V.str "write") ∧ (∀ z, o = some z → g = .str z) := fun i x hx H2 s2 => by
    rw [List.getElem?_map] at hx
    obtain ⟨kv, hkv, rfl⟩ := Option.map_eq_some_iff.mp hx
    obtain ⟨b, e, dxs, ln, wd, g, li, lo, fo, h1, j, r, h2, h3, h4, h5⟩ := hw kv (List.mem_of_getElem? hkv)
    by_cases ew : wd = "write"
    · obtain ⟨z, h6, h7⟩ := h5 ew
      exact ⟨b, dxs, ln, wd, g, li, lo, fo, some z, e, s2 _ _ (s1 _ _ h1), ⟨kv, j, r, hkv, h2, h3, h4, fun _ => ⟨z, rfl, h7⟩, fun n => absurd ew n⟩, by rw [ew]; rw [decide_eq_true rfl]; rfl, fun y e => by cases e; exact h6⟩
    · exact ⟨b, dxs, ln, wd, g, li, lo, fo, none, e, s2 _ _ (s1 _ _ h1), ⟨kv, j, r, hkv, h2, h3, h4, fun n => absurd n ew, fun _ => rfl⟩, (decide_eq_false fun n => ew (V.str.inj n)).symm, fun y e => by cases e⟩
  refine ⟨_, rfl, l, rfl, ⟨_, .inl (.inl upd_same)⟩, ?_⟩
  rw [← e1]
  refine fun D hD => lc_sel (xs := kvs.map (·.2)) (fun i o => ∃ wd, StAt kvs rows i wd o) (.inl (.inl l1)) hD (by omega) (fun _ => rfl) (fun i x hx H2 s2 => ?_) (fun os hos hR => ?_)
  · obtain ⟨b, dxs, ln, wd, g, li, lo, fo, o, rfl, h1, h2, h3, h4⟩ := st1 i x hx H2 s2
    refine ⟨o, ⟨wd, h2⟩, fun R hR => ⟨_, rfl, b, CS, dxs, _, _, rfl, h1, TS.cl, TS.nWord, sf_word, rfl, _, rfl, by rw [← h3]; exact hR⟩, fun z e Q k => ⟨_, rfl, b, CS, dxs, _, _, rfl, h1, TS.cl, TS.nGiven, sf_given, by rw [h4 z e]; exact k⟩⟩
  have hwm := writes_mem (by rw [hos, List.length_map]) hR al
  have hz : (os.filterMap id).length ≤ 20 := Nat.le_trans (List.length_filterMap_le id os) (by omega)
  generalize os.filterMap id = zs at hwm hz ⊢
  have hD0 : H D = none := s1.free hD
  obtain ⟨H2, e2⟩ : ∃ H2 : Hp, H2 = upd H1 D (.lst (zs.map V.str)) := ⟨_, rfl⟩
  have s2 : Same H1 H2 := by rw [e2]; exact same_new hD _
  have d2 : H2 D = some (.lst (zs.map V.str)) := by rw [e2]; exact upd_same
  refine ⟨_, rfl, l, rfl, ⟨_, .inl (.inl (same_new hD _ _ _ l1))⟩, ?_⟩
  rw [← e2]
  refine fun D2 hD2 => lc_sel (xs := kvs.map (·.2)) (fun i o => ∃ wd o', o = some wd ∧ StAt kvs rows i wd o') (.inl (.inl (s2 _ _ l1))) hD2 (by omega) (fun _ => rfl) (fun i x hx H3 s3 => ?_) (fun os2 hos2 hR2 => ?_)
  · obtain ⟨b, dxs, ln, wd, g, li, lo, fo, o, rfl, h1, h2, h3, h4⟩ := st1 i x hx H3 (s2.trans s3)
    exact ⟨some wd, ⟨wd, o, rfl, h2⟩, fun R hR => hR, fun z e Q k => ⟨_, rfl, b, CS, dxs, _, _, rfl, h1, TS.cl, TS.nWord, sf_word, by cases e; exact k⟩⟩
  have hcm := copies_mem (by rw [hos2, List.length_map]) hR2 al
  generalize os2.filterMap id = ws at hcm ⊢
  have s3 : Same H2 (upd H2 D2 (.lst (ws.map V.str))) := same_new hD2 _
  have d3 := s3 _ _ d2
  have s03 := (s1.trans s2).trans s3
  refine ⟨D2, _, rfl, .inl (.inl (.inl upd_same)), rfl, flats _, _, rfl, ?_⟩
  generalize upd H2 D2 (.lst (ws.map V.str)) = H3 at s3 d3 s03 ⊢
  dsimp only
  rw [inV_str]
  refine ite2 (fun ec => ?_) (fun ec => ?_)
  · refine ⟨_, rfl, .inl ⟨rfl, _, .inl (.inl d3)⟩, _, rfl, a, CP, dx, _, _, rfl, s03 _ _ ha, TG.cl, TG.nSymbols, gf_symbols, sy, rfl, by omega, fun L hL => ?_⟩
    have nDL : D ≠ L := ne_of_none d3 hL
    have s04 := s03.trans (same_new hL (.lst ((tl sy).map fun c => V.str ⟨#[c]⟩)))
    have hT : (tl sy).length ≤ 10 := by rw [← len_tl]; exact hsy
    refine ⟨D, L, _, _, rfl, rfl, by rw [upd_ne nDL]; exact d3, upd_same, ?_, ?_⟩
    · rw [List.length_map, List.length_map]
      exact small (by omega)
    have eL : (zs.map V.str ++ (tl sy).map fun c => V.str ⟨#[c]⟩) = (zs ++ (tl sy).map fun c => (⟨#[c]⟩ : Str)).map V.str := by
      rw [List.map_append, List.map_map]
      rfl
    rw [eL]
    have s05 : Same H (upd (upd H3 L (.lst ((tl sy).map fun c => V.str ⟨#[c]⟩))) D (.lst ((zs ++ (tl sy).map fun c => (⟨#[c]⟩ : Str)).map V.str))) := same_upd s04 hD0
    have hN : (zs ++ (tl sy).map fun c => (⟨#[c]⟩ : Str)).length ≤ 30 := by
      rw [List.length_append, List.length_map]
      omega
    refine ⟨_, rfl, D, zs ++ (tl sy).map fun c => (⟨#[c]⟩ : Str), rfl, .inl (.inl upd_same), by omega, fun p kt g1 g2 g3 hp => ?_⟩
    refine ⟨p, kt, rfl, upd_same, by omega, fun ys p2 g4 g5 hp2 => ?_⟩
    refine ⟨p2, _, rfl, .inl ⟨.inl (.inl upd_same), fun r hr => ?_⟩⟩
    have sA := s05.trans (same_new hp (SetO2 (kdStr P w) p kt))
    have sB := sA.trans (same_new hp2 (.lst (ys.map V.str)))
    refine k r _ ys (sB.trans (same_new hr _)) (sB.free hr) upd_same ⟨g5, (g4.nodup_iff).mpr g3, fun x => ?_, by rw [g4.length_eq, List.length_map]; omega⟩
    rw [g4.mem_iff, g2 x, List.mem_append, hwm x]
    exact ⟨fun h => h.elim .inl fun h => .inr ⟨hcm.mp (of_decide_eq_true ec), h⟩, fun h => h.elim .inl fun h => .inr h.2⟩
  · refine ⟨_, rfl, D, zs, rfl, .inl (.inl d3), by omega, fun p kt g1 g2 g3 hp => ?_⟩
    refine ⟨p, kt, rfl, upd_same, by omega, fun ys p2 g4 g5 hp2 => ?_⟩
    refine ⟨p2, _, rfl, .inl ⟨.inl (.inl upd_same), fun r hr => ?_⟩⟩
    have sA := s03.trans (same_new hp (SetO2 (kdStr P w) p kt))
    have sB := sA.trans (same_new hp2 (.lst (ys.map V.str)))
    refine k r _ ys (sB.trans (same_new hr _)) (sB.free hr) upd_same ⟨g5, (g4.nodup_iff).mpr g3, fun x => ?_, by rw [g4.length_eq, List.length_map]; omega⟩
    rw [g4.mem_iff, g2 x, hwm x]
    exact ⟨.inl, fun h => h.elim id fun h => absurd (decide_eq_true (hcm.mpr h.1)) ec⟩
end
end Fg
set_option Elab.async false
set_option linter.all false
set_option maxRecDepth 100000
set_option maxHeartbeats 4000000
namespace Fg
open PySem L2 TL
/-! ### Program.__init__ -/
abbrev s_Program_init : Stmt := inClass (top 22) 0
abbrev sc_Program_initN : List Str := ["self", "text", "parser"]
theorem sc_Program_init : FnScope sc_Program_initN ["self", "text"] (defScope s_Program_init) := ⟨rfl, rfl, rfl, by decide +kernel, rfl, by decide +kernel, by decide +kernel⟩
/-- a program's fields -/
def gl (z sy : Str) (c q t : Addr) (fi : Int) (r : Addr) : List (Str × V) :=
  [("text", .str z), ("symbols", .str sy), ("cells", .ref c), ("parts", .ref q), ("statements", .ref t), ("first", .int fi), ("letters", .ref r)]
/-- pairs at addresses -/
def Pairs (H : Hp) (as : List Addr) (kvs : List (Key × V)) : Prop := Paired (fun (t : Addr) (y : Key × V) => H t = some (.tup [kV y.1, y.2])) as kvs
/-- all but what stands at a, and statements, is as it was -/
def KeepA (CS a : Addr) (H H' : Hp) : Prop := ∀ b o, H b = some o → b ≠ a → (∀ dx fs, o ≠ .ins CS dx fs) → H' b = some o
structure ProgAt (CP : Addr) (H : Hp) (a : Addr) (z sy : Str) (ms : NV) (pn : List Str) (rows : List Row) : Prop where
  it : ∃ (dx c q t r : Addr) (fi : Int) (as : List Addr) (zs : List Str), H a = some (.ins CP dx (gl z sy c q t fi r)) ∧ H c = some (.tup (as.map V.ref)) ∧ Pairs H as (kvS ms) ∧ H q = some (.tup (pn.map V.str)) ∧ H r = some (.tup (zs.map V.str)) ∧ LetOk sy rows zs
def spGInit (CP CS : Addr) : Sp := fun vs H Q _ => ∃ (a dx : Addr) (sy : Str) (ms : NV) (ps : List PartR) (ma : List Row) (nm : Nat) (rows : List Row) (z : Str), vs = [.ref a, .str z] ∧ H a = some (.ins CP dx []) ∧ TextOk sy ms ps ma nm rows z ∧
  ∀ H' : Hp, KeepA CS a H H' → ProgAt CP H' a z sy ms (ps.map (·.1)) rows → Q .non H'
theorem pairs_but {a : Addr} {H H' : Hp} {as : List Addr} {kvs : List (Key × V)} (pr : Pairs H as kvs) (b : But a H H') (ha : ∃ C dx fs, H a = some (.ins C dx fs)) : Pairs H' as kvs := by
  obtain ⟨C, dx, fs, ha⟩ := ha
  unfold Pairs at pr ⊢
  induction pr with
  | nil => exact .nil
  | cons h _ ih => exact .cons (b _ _ h (ne_of h ha (by intro z; cases z))) ih
theorem pairs_same {H H' : Hp} {as : List Addr} {kvs : List (Key × V)} (pr : Pairs H as kvs) (b : Same H H') : Pairs H' as kvs := by
  unfold Pairs at pr ⊢
  induction pr with
  | nil => exact .nil
  | cons h _ ih => exact .cons (b _ _ h) ih
section
variable {P : Program} {w : World} {K : PySem.W.Frag} {mg : Str → Option Value} {base : Heap}
theorem ok_program_init {f C CS CP : Addr} {fd : FuncData} (F : Fun K "__init__" "Program.__init__" s_Program_init f fd) (T : Bare mg) (TP : PTxt K C) (TG : GTxt K CP) (c1 : CP ≠ CS) (c2 : CP ≠ C)
    (CA : Callee P w K mg base 16 "parse" ["text"] (spParse C CS)) (CL : Callee P w K mg base 1 "letters_of" ["program"] (spLetters CP CS)) : FnOk P w K mg base CX0 17 f fd ["self", "text"] (spGInit CP CS) := by
  refine F.ok sc_Program_init (fun vs H Q E h => ?_) (fun cdv A outer st H vs Q E hr h => ?_)
  · obtain ⟨a, dx, sy, ms, ps, ma, nm, rows, z, rfl, _⟩ := h
    rfl
  obtain ⟨a, dx, sy, ms, ps, ma, nm, rows, z, rfl, ha, TO, q⟩ := h
  refine ⟨_, (pss_cons (ps_set (i := 2) sc_Program_init.nd rfl (Or.inl rfl) (pe_call CA.ok (hr.mono (by decide)) rfl CA.mg CA.kp CA.b .nil pass0 (pa_cons (pv 1) pa_nil)))
(pss_cons (ps_fld (pv 0) (pv 1) rfl)
(pss_cons (ps_fld (pv 0) (pe_fld (pv 2) rfl) rfl)
(pss_cons (ps_fld (pv 0) (pe_tupItems rfl (pe_fld (pv 2) rfl) (by rfl) T.tuple (by decide +kernel)) rfl)
(pss_cons (ps_fld (pv 0) (pe_callTy (call_tuple_d rfl) (by rfl) T.tuple (by decide +kernel) (pa_cons (pe_fld (pv 2) rfl) pa_nil)) rfl)
(pss_cons (ps_fld (pv 0) (pe_fld (pv 2) rfl) rfl)
(pss_cons (ps_fld (pv 0) (pe_fld (pv 2) rfl) rfl)
(pss_one (ps_fld (pv 0) (pe_call CL.ok (hr.mono (by decide)) rfl CL.mg CL.kp CL.b .nil pass0 (pa_cons (pv 0) pa_nil)) rfl))))))))), ?_⟩
  refine ⟨_, rfl, sy, ms, ps, ma, nm, rows, z, rfl, TO, fun p l m s t H1 k fi ss kvs cnt kI S1 hss hcnt hkl => ?_⟩
  have a1 : H1 a = some (.ins CP dx []) := kI _ _ ha fun dx fs e => by injection e with e1; exact c1 e1
  obtain ⟨⟨dp, hp⟩, mo, sto, _, _⟩ := id S1.pin
  have npa : p ≠ a := ne_of hp a1 (by intro e; injection e with e1; exact c2 e1.symm)
  have nin : ∀ {b o}, H1 b = some o → (∀ dx fs, o ≠ HO.ins CP dx fs) → b ≠ a := fun {b o} h n => ne_of h a1 (n _ _)
  have nma : m ≠ a := nin mo (by intro _ _ e; cases e)
  have nsa : s ≠ a := nin sto (by intro _ _ e; cases e)
  have nta : t ≠ a := nin S1.dt (by intro _ _ e; cases e)
  refine fldVs (tv := tVar 1) (v := .str z) rfl TG.cl TG.nText (by show 0 < 1000; decide) a1 (fun Q k => ⟨_, rfl, k⟩) fun H2 a2 b2 => ?_
  refine fldVs (tv := tFld K (tVar 2) "symbols") (v := .str sy) rfl TG.cl TG.nSymbols (by show 1 < 1000; decide) a2 (fun Q k => ⟨_, rfl, p, C, dp, _, _, rfl, b2 _ _ hp npa, TP.cl, TP.nSymbols, pf_symbols, k⟩) fun H3 a3 b3 => ?_
  have b13 := b2.trans b3
  refine ⟨_, rfl, p, C, dp, _, _, rfl, b13 _ _ hp npa, TP.cl, TP.nMosts, pf_mosts, m, kvS ms, rfl, b13 _ _ mo nma, fun c H4 as s4 hc c4 pr4 => ?_⟩
  have a4 := s4 _ _ a3
  have nca : c ≠ a := ne_of c4 a4 (by intro e; cases e)
  refine ⟨_, rfl, a, CP, dx, _, rfl, a4, TG.cl, TG.nCells, (by show 2 < 1000; decide), ?_⟩
  obtain ⟨H5, e5⟩ : ∃ H5 : Hp, H5 = upd H4 a (.ins CP dx (putF "cells" (.ref c) (putF "symbols" (.str sy) (putF "text" (.str z) [])))) := ⟨_, rfl⟩
  have b5 : But a H4 H5 := by rw [e5]; exact But.upd
  have a5 : H5 a = some (.ins CP dx (putF "cells" (.ref c) (putF "symbols" (.str sy) (putF "text" (.str z) [])))) := by rw [e5]; exact upd_same
  have b15 := (b13.trans (But.of_same s4)).trans b5
  have c5 := b5 _ _ c4 nca
  have pr5 : Pairs H5 as (kvS ms) := pairs_but pr4 b5 ⟨_, _, _, a4⟩
  rw [← e5]
  refine ⟨_, rfl, p, C, dp, _, _, rfl, b15 _ _ hp npa, TP.cl, TP.nStarts, pf_starts, s, kvS ss, rfl, b15 _ _ sto nsa, fun q1 hq => ?_⟩
  have nqa : a ≠ q1 := ne_of_none a5 hq
  refine ⟨_, rfl, a, CP, dx, _, rfl, by rw [upd_ne nqa]; exact a5, TG.cl, TG.nParts, (by show 3 < 1000; decide), ?_⟩
  obtain ⟨H6, e6⟩ : ∃ H6 : Hp, H6 = upd (upd H5 q1 (.tup ((kvS ss).map fun kv => kV kv.1))) a (.ins CP dx (putF "parts" (.ref q1) (putF "cells" (.ref c) (putF "symbols" (.str sy) (putF "text" (.str z) []))))) := ⟨_, rfl⟩
  have b6 : But a H5 H6 := by rw [e6]; exact (But.of_same (same_new hq _)).trans But.upd
  have a6 : H6 a = some (.ins CP dx (putF "parts" (.ref q1) (putF "cells" (.ref c) (putF "symbols" (.str sy) (putF "text" (.str z) []))))) := by rw [e6]; exact upd_same
  have q6 : H6 q1 = some (.tup ((kvS ss).map fun kv => kV kv.1)) := by rw [e6, upd_ne nqa.symm]; exact upd_same
  rw [← e6]
  have b16 := b15.trans b6
  refine fldVs (tv := tFld K (tVar 2) "statements") (v := .ref t) rfl TG.cl TG.nStatements (by show 4 < 1000; decide) a6 (fun Q k => ⟨_, rfl, p, C, dp, _, _, rfl, b16 _ _ hp npa, TP.cl, TP.nStatements, pf_statements, k⟩) fun H7 a7 b7 => ?_
  have b17 := b16.trans b7
  refine fldVs (tv := tFld K (tVar 2) "first") (v := .int fi) rfl TG.cl TG.nFirst (by show 5 < 1000; decide) a7 (fun Q k => ⟨_, rfl, p, C, dp, _, _, rfl, b17 _ _ hp npa, TP.cl, TP.nFirst, pf_first, k⟩) fun H8 a8 b8 => ?_
  have b18 := b17.trans b8
  have b58 := (b6.trans b7).trans b8
  have a8' : H8 a = some (.ins CP dx (gf z sy c q1 t fi)) := a8.trans (congrArg (fun l => some (HO.ins CP dx l)) (by kernel_rfl))
  have hsy : sy.length ≤ 10 := by have := TO.ok.s4; omega
  refine ⟨_, rfl, a, dx, t, c, q1, z, sy, fi, kvs, rows, rfl, a8', b18 _ _ S1.dt nta, by rw [S1.few]; exact hcnt, hsy, fun kv hkv => ?_, fun i r hi => S1.al i r (Nat.lt_of_lt_of_le (List.getElem?_eq_some_iff.mp hi).1 hkl) hi, fun r H9 zs s9 hr r9 lok => ?_⟩
  · obtain ⟨b, h1, dxs, ln, wd, g, li, lo, fo, h2, h3⟩ := S1.ok kv hkv
    exact ⟨b, h1, dxs, ln, wd, g, li, lo, fo, b18 _ _ h2 (nin h2 (by intro _ _ e; injection e with e1; exact c1 e1.symm)), h3⟩
  have a9 := s9 _ _ a8'
  refine ⟨_, rfl, a, CP, dx, _, rfl, a9, TG.cl, TG.nLetters, (by show 6 < 1000; decide), ?_⟩
  have b89 : But a H8 (upd H9 a (.ins CP dx (putF "letters" (.ref r) (gf z sy c q1 t fi)))) := (But.of_same s9).trans But.upd
  have b59 := b58.trans b89
  refine q _ (fun b o h n ni => (b18.trans b89) _ _ (kI _ _ h ni) n) ⟨dx, c, q1, t, r, fi, as, zs, upd_same.trans (congrArg (fun l => some (HO.ins CP dx l)) (by kernel_rfl)), b59 _ _ c5 nca, pairs_but pr5 b59 ⟨_, _, _, a5⟩, ?_, ?_, lok⟩
  have e : (ps.map (·.1)).map V.str = (kvS ss).map fun kv => kV kv.1 := by
    rw [← hss]
    unfold kvS
    rw [List.map_map, List.map_map]
    rfl
  · rw [e]
    exact ((b7.trans b8).trans b89) _ _ q6 nqa.symm
  · rw [upd_ne (ne_of r9 a9 (by intro e; cases e))]
    exact r9
end
end Fg
set_option Elab.async false
set_option linter.all false
set_option maxRecDepth 100000
set_option maxHeartbeats 4000000
namespace Fg
open PySem L2 TL
/-! ### the lore of the law's own programs -/
def eight : List Str := ["n", "k", "cells", "mainly", "ab", "abcdefgh", "rightly", "z"]
def sixS : List Str := ["ab", "abc", "az", "mnyz", "xy", "abcd"]
structure LoreOk (sy : Str) (ms : NV) (pn : List Str) : Prop where
  sy : sy ∈ sixS
  m2 : ms.length ≤ 2
  mv : ∀ c ∈ ms, 1 ≤ c.2 ∧ c.2 ≤ 2
  p2 : pn.length ≤ 2
  names : ∀ z ∈ ms.map (·.1) ++ pn, z ∈ eight
  nd : (ms.map (·.1) ++ pn).Nodup
def lkv (sy : Str) (left : Nat) (cl pl : Addr) : List (Key × V) := [(Sum.inr ("symbols" : Str), .str sy), (Sum.inr ("left" : Str), .int (left : Int)), (Sum.inr ("cells" : Str), .ref cl), (Sum.inr ("parts" : Str), .ref pl)]
structure Lore (H : Hp) (p lo cl pl : Addr) (sy : Str) (ms : NV) (pn : List Str) (left : Nat) : Prop where
  at_ : H lo = some (.dK (lkv sy left cl pl))
  cs : ∃ as : List Addr, H cl = some (.lst (as.map V.ref)) ∧ Pairs H as (kvS ms)
  ps : H pl = some (.lst (pn.map V.str))
  n1 : cl ≠ p
  n2 : pl ≠ p
theorem pairs_by {H H' : Hp} {as : List Addr} {kvs : List (Key × V)} (pr : Pairs H as kvs) (b : ∀ a xs, H a = some (.tup xs) → H' a = some (.tup xs)) : Pairs H' as kvs := by
  unfold Pairs at pr ⊢
  induction pr with
  | nil => exact .nil
  | cons h _ ih => exact .cons (b _ _ h) ih
theorem Lore.but {H H' : Hp} {p lo cl pl : Addr} {sy : Str} {ms : NV} {pn : List Str} {left n : Nat} (L : Lore H p lo cl pl sy ms pn left) (P : Pot H p n) (b : But p H H') : Lore H' p lo cl pl sy ms pn left := by
  obtain ⟨_, _, _, hp, _⟩ := P.at_
  obtain ⟨as, h1, h2⟩ := L.cs
  exact ⟨b _ _ L.at_ (ne_of L.at_ hp (by intro e; cases e)), ⟨as, b _ _ h1 L.n1, pairs_by h2 fun a xs h => b _ _ h (ne_of h hp (by intro e; cases e))⟩, b _ _ L.ps L.n2, L.n1, L.n2⟩
theorem Lore.same {H H' : Hp} {p lo cl pl : Addr} {sy : Str} {ms : NV} {pn : List Str} {left : Nat} (L : Lore H p lo cl pl sy ms pn left) (b : Same H H') : Lore H' p lo cl pl sy ms pn left := by
  obtain ⟨as, h1, h2⟩ := L.cs
  exact ⟨b _ _ L.at_, ⟨as, b _ _ h1, pairs_same h2 b⟩, b _ _ L.ps, L.n1, L.n2⟩
section
variable {K : PySem.W.Frag} {H : Hp}
def cellD (c : Str × Nat) : PyData := .tuple [.str c.1, .int (c.2 : Int)]
theorem dp_pairs : ∀ {ms : NV} {as : List Addr}, Pairs H as (kvS ms) → DpAll K H (as.map V.ref) (ms.map cellD)
  | [], _, .nil => .nil
  | c :: ms, a :: as, .cons h t => .cons (.tup (.inl (.inl h)) (.cons (.str _) (.cons (.int _) .nil))) (dp_pairs t)
theorem lay_cells : ∀ ms : NV, (∀ c ∈ ms, PyData.strOk c.1 = true) → PyData.canLayAll0 (ms.map cellD) = true
  | [], _ => rfl
  | c :: r, h => by
    have h1 := h c List.mem_cons_self
    have h2 := lay_cells r fun y hy => h y (List.mem_cons_of_mem _ hy)
    show ((PyData.strOk c.1 && true) && PyData.canLayAll0 (r.map cellD)) = true
    rw [h1, h2]
    rfl
theorem dep_cells : ∀ ms : NV, PyData.depthAll (ms.map cellD) ≤ 1
  | [] => Nat.zero_le _
  | c :: r => by
    have h2 := dep_cells r
    show max 1 (PyData.depthAll (r.map cellD)) ≤ 1
    omega
theorem shaped_cells {ms : NV} (h : ∀ c ∈ ms, PyData.strOk c.1 = true) : SeqAt.shaped (.list (ms.map cellD)) = true := by
  unfold SeqAt.shaped
  rw [Bool.and_eq_true]
  refine ⟨lay_cells ms h, decide_eq_true ?_⟩
  show PyData.depthAll (ms.map cellD) + 1 ≤ 64
  have := dep_cells ms
  omega
theorem eqv_cells (ms : NV) : PyData.eqv (.list (ms.map cellD)) (.list []) = ms.isEmpty := by cases ms <;> rfl
theorem eqv_strs0 (zs : List Str) : PyData.eqv (.list (zs.map PyData.str)) (.list []) = zs.isEmpty := by cases zs <;> rfl
end
theorem eight_ok : ∀ z ∈ eight, PyData.strOk z = true ∧ tl z ≠ [] ∧ 32 ∉ tl z ∧ z.length ≤ 8 ∧ ofLetters z = true ∧ z ∉ reserved := by decide +kernel
theorem LoreOk.strs {sy : Str} {ms : NV} {pn : List Str} (h : LoreOk sy ms pn) : ∀ c ∈ ms, PyData.strOk c.1 = true := fun c hc => (eight_ok _ (h.names _ (List.mem_append_left _ (List.mem_map.mpr ⟨c, hc, rfl⟩)))).1
/-! ### words in a row -/
theorem w2 {a a' b : Str} (h : tl a' = tl a ++ [32]) : a' ++ b = Txt.join blank [a, b] := ext_tl (by
  rw [tl_append, h, join_eq, tl_join, tl_blank]
  show (tl a ++ [32]) ++ tl b = tl a ++ ([32] ++ tl b)
  rw [List.append_assoc])
theorem w3 {a a' b c : Str} (h : tl a' = tl a ++ [32]) : (a' ++ b) ++ (" " : Str) ++ c = Txt.join blank [a, b, c] := ext_tl (by
  rw [tl_append, tl_append, tl_append, h, join_eq, tl_join, tl_blank]
  show ((tl a ++ [32]) ++ tl b ++ tl (" " : Str)) ++ tl c = tl a ++ ([32] ++ (tl b ++ ([32] ++ tl c)))
  rw [show tl (" " : Str) = [32] by decide +kernel]
  simp only [List.append_assoc])
theorem w1 {a : Str} : a = Txt.join blank [a] := ext_tl (by
  rw [join_eq, tl_join]
  rfl)
/-- what the law's own programs have as plain statements -/
structure PlainOk (sy : Str) (ms : NV) (kn : List Str) (ws : List Str) : Prop where
  good : GoodWs ws
  giv : ∀ ss : NV, ss.map (·.1) = kn → Giv sy ms ss ws
  noif : ∃ x r, ws = x :: r ∧ x ≠ "if" ∧ x ≠ "while"
  ln : (Txt.join blank ws).length ≤ 40 ∧ 10 ∉ tl (Txt.join blank ws)
theorem good_of {ws : List Str} (h : (!ws.isEmpty && ws.all fun x => decide (tl x ≠ []) && decide (32 ∉ tl x) && (PyData.strOk x && noSp x)) = true) : GoodWs ws := by
  rw [Bool.and_eq_true] at h
  refine ⟨fun e => by rw [e] at h; exact absurd h.1 (by decide), fun x hx => ?_, fun x hx => ?_, fun x hx => ?_⟩
  · have := List.all_eq_true.mp h.2 x hx
    simp only [Bool.and_eq_true, decide_eq_true_eq] at this
    exact this.1
  · have := List.all_eq_true.mp h.2 x hx
    simp only [Bool.and_eq_true, decide_eq_true_eq] at this
    exact this.2.1
  · have := List.all_eq_true.mp h.2 x hx
    simp only [Bool.and_eq_true, decide_eq_true_eq] at this
    exact this.2.2
theorem do_ok : ∀ z ∈ eight, (([("do" : Str), z] : List Str).all fun x => decide (tl x ≠ []) && decide (32 ∉ tl x) && (PyData.strOk x && noSp x)) = true ∧ (Txt.join blank [("do" : Str), z]).length ≤ 40 ∧ 10 ∉ tl (Txt.join blank [("do" : Str), z]) := by decide +kernel
theorem set_ok : ∀ u ∈ ([("set" : Str), "add"] : List Str), ∀ z ∈ eight, ∀ v ∈ [0, 1, 2], (([u, z, numS v] : List Str).all fun x => decide (tl x ≠ []) && decide (32 ∉ tl x) && (PyData.strOk x && noSp x)) = true ∧ (Txt.join blank [u, z, numS v]).length ≤ 40 ∧ 10 ∉ tl (Txt.join blank [u, z, numS v]) := by decide +kernel
def firstS (sy : Str) : Str := ⟨#[sy.cps.getD 0 0]⟩
theorem six_ok : ∀ sy ∈ sixS, (([("write" : Str), firstS sy] : List Str).all fun x => decide (tl x ≠ []) && decide (32 ∉ tl x) && (PyData.strOk x && noSp x)) = true ∧ (Txt.join blank [("write" : Str), firstS sy]).length ≤ 40 ∧ 10 ∉ tl (Txt.join blank [("write" : Str), firstS sy]) ∧ (firstS sy).length = 1 ∧ ofLetters (firstS sy) = true ∧ sy.cps[0]? = some (sy.cps.getD 0 0) := by decide +kernel
theorem bare_ok : ∀ u ∈ ([("right" : Str), "left", "copy", "stop"] : List Str), ∀ sy ms ss, Giv sy ms ss [u] := by
  intro u hu sy ms ss
  simp only [List.mem_cons, List.not_mem_nil, or_false] at hu
  rcases hu with rfl | rfl | rfl | rfl
  · exact .right
  · exact .left
  · exact .copy
  · exact .stop
theorem plain_bare {sy : Str} {ms : NV} {kn : List Str} : ∀ u ∈ ([("right" : Str), "left", "copy", "stop"] : List Str), PlainOk sy ms kn [u] := fun u hu => by
  have h : ∀ u ∈ ([("right" : Str), "left", "copy", "stop"] : List Str), (([u] : List Str).all fun x => decide (tl x ≠ []) && decide (32 ∉ tl x) && (PyData.strOk x && noSp x)) = true ∧ (Txt.join blank [u]).length ≤ 40 ∧ 10 ∉ tl (Txt.join blank [u]) ∧ u ≠ "if" ∧ u ≠ "while" := by decide +kernel
  obtain ⟨h1, h2, h3, h4, h5⟩ := h u hu
  exact ⟨good_of (by rw [h1]; rfl), fun ss _ => bare_ok u hu _ _ _, ⟨u, [], rfl, h4, h5⟩, h2, h3⟩
theorem plain_write {sy : Str} {ms : NV} {kn : List Str} {z : Str} (h : (([("write" : Str), z] : List Str).all fun x => decide (tl x ≠ []) && decide (32 ∉ tl x) && (PyData.strOk x && noSp x)) = true) (h2 : (Txt.join blank [("write" : Str), z]).length ≤ 40) (h3 : 10 ∉ tl (Txt.join blank [("write" : Str), z])) (h4 : z.length = 1) (h5 : ofLetters z = true) : PlainOk sy ms kn [("write" : Str), z] :=
  ⟨good_of (by rw [h]; rfl), fun ss _ => .write z h4 h5, ⟨_, _, rfl, by decide +kernel, by decide +kernel⟩, h2, h3⟩
theorem plain_do {sy : Str} {ms : NV} {kn : List Str} {z : Str} (h : z ∈ eight) (hk : z ∈ kn) : PlainOk sy ms kn [("do" : Str), z] := by
  obtain ⟨h1, h2, h3⟩ := do_ok z h
  refine ⟨good_of (by rw [h1]; rfl), fun ss e => ?_, ⟨_, _, rfl, by decide +kernel, by decide +kernel⟩, h2, h3⟩
  rw [← e] at hk
  obtain ⟨c, hc, rfl⟩ := List.mem_map.mp hk
  obtain ⟨i, hi, e1⟩ := List.mem_iff_getElem.mp hc
  exact .do_ c.1 i c.2 (by rw [List.getElem?_eq_getElem hi, e1])
theorem plain_set {sy : Str} {ms : NV} {kn : List Str} {c : Str × Nat} {i v : Nat} (h : c.1 ∈ eight) (hc : ms[i]? = some c) (h2 : c.2 ≤ 2) (hv : v ≤ c.2) : PlainOk sy ms kn [("set" : Str), c.1, numS v] := by
  have hv3 : v ∈ [0, 1, 2] := by
    have : v = 0 ∨ v = 1 ∨ v = 2 := by omega
    simpa using this
  obtain ⟨h1, h4, h3⟩ := set_ok "set" (by decide +kernel) c.1 h v hv3
  exact ⟨good_of (by rw [h1]; rfl), fun ss _ => .set c.1 i v c.2 hc hv h2, ⟨_, _, rfl, by decide +kernel, by decide +kernel⟩, h4, h3⟩
theorem plain_add {sy : Str} {ms : NV} {kn : List Str} {c : Str × Nat} {i v : Nat} (h : c.1 ∈ eight) (hc : ms[i]? = some c) (h2 : 1 ≤ v) (hv : v ≤ 2) : PlainOk sy ms kn [("add" : Str), c.1, numS v] := by
  have hv3 : v ∈ [0, 1, 2] := by
    have : v = 0 ∨ v = 1 ∨ v = 2 := by omega
    simpa using this
  obtain ⟨h1, h4, h3⟩ := set_ok "add" (by decide +kernel) c.1 h v hv3
  exact ⟨good_of (by rw [h1]; rfl), fun ss _ => .add c.1 i v c.2 hc h2 hv, ⟨_, _, rfl, by decide +kernel, by decide +kernel⟩, h4, h3⟩
end Fg
set_option Elab.async false
set_option linter.all false
set_option maxRecDepth 100000
set_option maxHeartbeats 4000000
namespace Fg
open PySem L2 TL
/-! ### _law_wide_plain -/
abbrev s_wide_plain : Stmt := top 30
abbrev sc_wide_plainN : List Str := ["_law_pot", "_law_lore", "_law_known", "_law_way", "_law_name", "_law_most", "_law_number"]
theorem sc_wide_plain : FnScope sc_wide_plainN ["_law_pot", "_law_lore", "_law_known"] (defScope s_wide_plain) := ⟨rfl, rfl, rfl, by decide +kernel, rfl, by decide +kernel, by decide +kernel⟩
def spPlain : Sp := fun vs H Q _ => ∃ (p lo cl pl kl : Addr) (n left : Nat) (sy : Str) (ms : NV) (pn kn : List Str), vs = [.ref p, .ref lo, .ref kl] ∧ Pot H p n ∧ n + 10 < 100000 ∧ Lore H p lo cl pl sy ms pn left ∧ LoreOk sy ms pn ∧
  H kl = some (.lst (kn.map V.str)) ∧ kl ≠ p ∧ kn.length ≤ 2 ∧ (∀ z ∈ kn, z ∈ pn) ∧ ∀ (ws : List Str) (H' : Hp), PlainOk sy ms kn ws → Pot H' p (n + 5) → But p H H' → Q (.str (Txt.join blank ws)) H'
def tPl1 (K : PySem.W.Frag) : TT := fun σ H Q => ∃ (w0 : Int) (kl : Addr) (kn : List Str), σ[3]? = some (some (.int w0)) ∧ σ[2]? = some (some (.ref kl)) ∧ SqL K H kl (kn.map V.str) ∧ (∀ z ∈ kn, PyData.strOk z = true) ∧ ∀ H', Same H H' → Q (decide (w0 = 0) && !kn.isEmpty) H'
def tPl2 (K : PySem.W.Frag) : TT := fun σ H Q => ∃ (w0 : Int) (lo cl : Addr) (kvs : List (Key × V)) (as : List Addr) (ms : NV), σ[3]? = some (some (.int w0)) ∧ σ[1]? = some (some (.ref lo)) ∧ H lo = some (.dK kvs) ∧ valV kvs (Sum.inr ("cells" : Str) : Key) = some (.ref cl) ∧ H cl = some (.lst (as.map V.ref)) ∧ Pairs H as (kvS ms) ∧ (∀ c ∈ ms, PyData.strOk c.1 = true) ∧
  ∀ H', Same H H' → Q (decide (w0 < 3) && !ms.isEmpty) H'
theorem shaped_nil : SeqAt.shaped (.list []) = true := by decide +kernel
theorem lkv_cells {sy : Str} {left : Nat} {cl pl : Addr} : valV (lkv sy left cl pl) (Sum.inr ("cells" : Str) : Key) = some (V.ref cl) := by kernel_rfl
theorem lkv_symbols {sy : Str} {left : Nat} {cl pl : Addr} : valV (lkv sy left cl pl) (Sum.inr ("symbols" : Str) : Key) = some (V.str sy) := by kernel_rfl
theorem lkv_left {sy : Str} {left : Nat} {cl pl : Addr} : valV (lkv sy left cl pl) (Sum.inr ("left" : Str) : Key) = some (V.int (left : Int)) := by kernel_rfl
theorem lkv_parts {sy : Str} {left : Nat} {cl pl : Addr} : valV (lkv sy left cl pl) (Sum.inr ("parts" : Str) : Key) = some (V.ref pl) := by kernel_rfl
theorem Lore.gCells {H : Hp} {p lo cl pl : Addr} {sy : Str} {ms : NV} {pn : List Str} {left : Nat} (L : Lore H p lo cl pl sy ms pn left) : DGet H lo (.str "cells") (some (.ref cl)) := by
  have := DGet.k (k := Sum.inr ("cells" : Str)) L.at_
  rw [lkv_cells] at this
  exact this
theorem Lore.gSymbols {H : Hp} {p lo cl pl : Addr} {sy : Str} {ms : NV} {pn : List Str} {left : Nat} (L : Lore H p lo cl pl sy ms pn left) : DGet H lo (.str "symbols") (some (.str sy)) := by
  have := DGet.k (k := Sum.inr ("symbols" : Str)) L.at_
  rw [lkv_symbols] at this
  exact this
theorem Lore.gLeft {H : Hp} {p lo cl pl : Addr} {sy : Str} {ms : NV} {pn : List Str} {left : Nat} (L : Lore H p lo cl pl sy ms pn left) : DGet H lo (.str "left") (some (.int (left : Int))) := by
  have := DGet.k (k := Sum.inr ("left" : Str)) L.at_
  rw [lkv_left] at this
  exact this
theorem Lore.gParts {H : Hp} {p lo cl pl : Addr} {sy : Str} {ms : NV} {pn : List Str} {left : Nat} (L : Lore H p lo cl pl sy ms pn left) : DGet H lo (.str "parts") (some (.ref pl)) := by
  have := DGet.k (k := Sum.inr ("parts" : Str)) L.at_
  rw [lkv_parts] at this
  exact this
theorem pairs_get {H : Hp} : ∀ {ms : NV} {as : List Addr}, Pairs H as (kvS ms) → ∀ {i : Nat} {t : Addr}, as[i]? = some t → ∃ c, ms[i]? = some c ∧ H t = some (.tup [.str c.1, .int (c.2 : Int)])
  | [], _, .nil, i, t, h => by cases i <;> cases h
  | c :: ms, a :: as, .cons h r, 0, t, e => by
    cases e
    exact ⟨c, rfl, h⟩
  | c :: ms, a :: as, .cons h r, i + 1, t, e => pairs_get r (i := i) e
theorem pairs_len {H : Hp} : ∀ {ms : NV} {as : List Addr}, Pairs H as (kvS ms) → as.length = ms.length
  | [], _, .nil => rfl
  | _ :: _, _ :: _, .cons _ r => congrArg (· + 1) (pairs_len r)
theorem dec_int' {i j : Int} : decide (V.int i = V.int j) = decide (i = j) := by
  by_cases e : i = j
  · subst e; simp
  · rw [decide_eq_false e, decide_eq_false fun z => e (V.int.inj z)]
section
variable {P : Program} {w : World} {K : PySem.W.Frag} {mg : Str → Option Value} {base : Heap}
theorem ok_wide_plain {f : Addr} {fd : FuncData} (F : Fun K "_law_wide_plain" "_law_wide_plain" s_wide_plain f fd) (T : Bare mg) (CT : Callee P w K mg base 1 "_law_take" ["_law_pot", "_law_upto"] spTake) (CO : Callee P w K mg base 2 "_law_of" ["_law_pot", "_law_some"] (spOf K)) :
    FnOk P w K mg base CX0 3 f fd ["_law_pot", "_law_lore", "_law_known"] spPlain := by
  refine F.ok sc_wide_plain (fun vs H Q E h => ?_) (fun cdv A outer st H vs Q E hr h => ?_)
  · obtain ⟨p, lo, cl, pl, kl, n, left, sy, ms, pn, kn, rfl, _⟩ := h
    rfl
  obtain ⟨p, lo, cl, pl, kl, n, left, sy, ms, pn, kn, rfl, hp, hn, L, LO, hk, nk, hk2, hkn, q⟩ := h
  have hu := hu_of hr
  refine ⟨_, (pss_cons (ps_set (i := 3) sc_wide_plain.nd rfl (Or.inl rfl) (pe_call CT.ok (hr.mono (by decide)) rfl CT.mg CT.kp CT.b .nil pass0 (pa_cons (pv 0) (pa_cons pe_int pa_nil))))
(pss_cons (ps_if (pt_weak (t' := tPl1 K) (PW.pt (pw_and (pt_cmpR op_eq (pv 3) pe_int (nomark _)) (pw_and1 (pt_cmpR (op_neD hr.units) (pv 2) (pe_lst pa_nil) (nomark _))))) (fun σ H1 Q1 h => by
    obtain ⟨w0, kl, kn, h3, h2, hS, hz, q1⟩ := h
    refine ⟨_, h3, rfl, _, rfl, ?_⟩
    rw [dec_int']
    refine ite2 (fun e => ?_) (fun e => ?_)
    · refine ⟨_, h2, small (by show 0 ≤ 1000; decide), fun A hA => ⟨.list (kn.map .str), .list [], .lst ((same_new hA _).seq hS) (dp_strs kn), .lst (.inl (.inl upd_same)) .nil, shaped_strs hz, shaped_nil, _, congrArg (fun b => V.bl (!b)) (eqv_strs0 kn), ?_⟩⟩
      have := q1 _ (same_new hA (.lst []))
      rw [e] at this
      exact this
    · have := q1 H1 (fun _ _ z => z)
      rw [Bool.eq_false_iff.mpr e] at this
      exact this))
(pss_one (ps_ret (pe_op op_add_str pe_str (pe_call CO.ok hr rfl CO.mg CO.kp CO.b .nil pass0 (pa_cons (pv 0) (pa_cons (pv 2) pa_nil))))))
pss_nil)
(pss_cons (ps_if (pt_weak (t' := tPl2 K) (PW.pt (pw_and (pt_cmpR op_lt (pv 3) pe_int (nomark _)) (pw_and1 (pt_cmpR (op_neD hr.units) (pe_dget hu (pv 1) pe_str (fun _ _ => rfl)) (pe_lst pa_nil) (nomark _))))) (fun σ H1 Q1 h => by
    obtain ⟨w0, lo, cl, kvs, as, ms, h3, h1, hl, hv, hc, hP, hz, q1⟩ := h
    refine ⟨_, h3, _, _, rfl, rfl, _, rfl, ?_⟩
    refine ite2 (fun e => ?_) (fun e => ?_)
    · refine ⟨_, h1, lo, _, rfl, hv ▸ DGet.k (k := Sum.inr ("cells" : Str)) hl, small (by show 0 ≤ 1000; decide), fun A hA => ⟨.list (ms.map cellD), .list [], .lst ((same_new hA _).seq (.inl (.inl hc))) (dp_pairs (pairs_same hP (same_new hA _))), .lst (.inl (.inl upd_same)) .nil, shaped_cells hz, shaped_nil, _, congrArg (fun b => V.bl (!b)) (eqv_cells ms), ?_⟩⟩
      have := q1 _ (same_new hA (.lst []))
      rw [e] at this
      exact this
    · have := q1 H1 (fun _ _ z => z)
      rw [Bool.eq_false_iff.mpr e] at this
      exact this))
(pss_cons (ps_asg (pe_call CO.ok hr rfl CO.mg CO.kp CO.b .nil pass0 (pa_cons (pv 0) (pa_cons (pe_dget hu (pv 1) pe_str (fun _ _ => rfl)) pa_nil))) (pg_tup (by rfl) (pgs_cons (pg_name (i := 4) sc_wide_plain.nd rfl (Or.inl rfl)) (pgs_cons (pg_name (i := 5) sc_wide_plain.nd rfl (Or.inl rfl)) pgs_nil))))
(pss_cons (ps_set (i := 6) sc_wide_plain.nd rfl (Or.inl rfl) (pe_ifExp (pt_cmpR op_eq (pv 3) pe_int (nomark _)) (pe_call CT.ok (hr.mono (by decide)) rfl CT.mg CT.kp CT.b .nil pass0 (pa_cons (pv 0) (pa_cons (pe_op op_add (pv 5) pe_int) pa_nil))) (pe_op op_add pe_int (pe_call CT.ok (hr.mono (by decide)) rfl CT.mg CT.kp CT.b .nil pass0 (pa_cons (pv 0) (pa_cons pe_int pa_nil))))))
(pss_one (ps_ret (pe_op op_add_str (pe_op op_add_str (pe_op op_add_str (pe_ifExp (pt_cmpR op_eq (pv 3) pe_int (nomark _)) pe_str pe_str) (pv 4)) pe_str) (pe_callTy call_str_int (by rfl) T.str (by decide +kernel) (pa_cons (pv 6) pa_nil)))))))
pss_nil)
(pss_one (ps_ret (pe_call CO.ok hr rfl CO.mg CO.kp CO.b .nil pass0 (pa_cons (pv 0) (pa_cons (pe_lst (pa_cons pe_str (pa_cons pe_str (pa_cons pe_str (pa_cons pe_str (pa_cons pe_str (pa_cons (pe_op op_add_str pe_str (pe_ix ix_str (pe_dget hu (pv 1) pe_str (fun _ _ => rfl)) pe_int (fun _ _ => rfl))) (pa_cons pe_str pa_nil)))))))) pa_nil)))))))), ?_⟩
  refine ⟨.ref p, rfl, p, 9, n, rfl, hp, by omega, by decide, by decide, fun w0 H1 d0 d1 hp1 b1 => ?_⟩
  have L1 := L.but hp b1
  have k1 := b1 _ _ hk nk
  have kz : ∀ z ∈ kn, z ∈ eight := fun z hz => LO.names _ (List.mem_append_right _ (hkn z hz))
  refine ⟨w0, kl, kn, rfl, rfl, .inl (.inl k1), fun z hz => (eight_ok z (kz z hz)).1, fun H2 s2 => ?_⟩
  have hp2 := hp1.same s2
  have b2 := b1.trans (But.of_same s2)
  have L2 := L1.same s2
  refine ite2 (fun e => ?_) (fun e => ?_)
  · have hne : kn ≠ [] := fun z => by rw [z] at e; simp at e
    have hlen : 0 < (kn.map V.str).length := by rw [List.length_map]; exact List.length_pos_iff.mpr hne
    refine ⟨.ref p, rfl, .ref kl, rfl, p, kl, _, n + 1, rfl, hp2, by omega, .inl (.inl (s2 _ _ k1)), nk, hlen, by rw [List.length_map]; omega, fun i v H3 hv hp3 b3 => ?_⟩
    rw [List.getElem?_map] at hv
    obtain ⟨z, hz, rfl⟩ := Option.map_eq_some_iff.mp hv
    have hm := List.mem_of_getElem? hz
    have l8 := (eight_ok z (kz z hm)).2.2.2.1
    refine ⟨_, z, rfl, rfl, small (by rw [show (("do " : Str)).length = 3 by decide +kernel]; omega), ?_⟩
    rw [w2 (a := "do") (by decide +kernel)]
    exact q _ H3 (plain_do (kz z hm) hm) (hp3.more (by omega)) (b2.trans b3)
  clear e
  obtain ⟨as, hcl, hpr⟩ := L2.cs
  refine ⟨w0, lo, cl, _, as, ms, rfl, rfl, L2.at_, lkv_cells, hcl, hpr, LO.strs, fun H3 s3 => ?_⟩
  have hp3 := hp2.same s3
  have b3 := b2.trans (But.of_same s3)
  have L3 := L2.same s3
  refine ite2 (fun e => ?_) (fun e => ?_)
  · obtain ⟨as3, hcl3, hpr3⟩ := L3.cs
    have hne : ms ≠ [] := fun z => by rw [z] at e; simp at e
    have hlen : 0 < (as3.map V.ref).length := by rw [List.length_map, pairs_len hpr3]; exact List.length_pos_iff.mpr hne
    refine ⟨.ref p, rfl, .ref lo, rfl, lo, .ref cl, rfl, L3.gCells, p, cl, _, n + 1, rfl, hp3, by omega, .inl (.inl hcl3), L3.n1, hlen, by rw [List.length_map, pairs_len hpr3]; have := LO.m2; omega, fun i v H4 hv hp4 b4 => ?_⟩
    rw [List.getElem?_map] at hv
    obtain ⟨t, ht, rfl⟩ := Option.map_eq_some_iff.mp hv
    obtain ⟨c, hc, ht3⟩ := pairs_get hpr3 ht
    obtain ⟨_, _, _, hpp, _⟩ := hp3.at_
    have ht4 := b4 _ _ ht3 (ne_of ht3 hpp (by intro z; cases z))
    have b04 := b3.trans b4
    have hcm := List.mem_of_getElem? hc
    have c8 : c.1 ∈ eight := LO.names _ (List.mem_append_left _ (List.mem_map.mpr ⟨c, hcm, rfl⟩))
    have l8 := (eight_ok _ c8).2.2.2.1
    have cv := LO.mv _ hcm
    refine ⟨t, _, rfl, .inl (.inl ht4), rfl, _, _, rfl, _, _, rfl, rfl, ?_⟩
    refine ⟨.int w0, rfl, rfl, _, rfl, ?_⟩
    rw [dec_int']
    have fin : ∀ (d : Int) (u a : Str), 0 ≤ d → d ≤ 2 → a.length ≤ 4 → tl a = tl u ++ [32] → (a ++ c.1) ++ (" " : Str) ++ (Str.ofString (toString d)) = Txt.join blank [u, c.1, numS d.toNat] := fun d u a h0 h1 h2 h3 => by
      have e : Str.ofString (toString d) = numS d.toNat := by
        unfold numS
        rw [Int.toNat_of_nonneg h0]
      rw [e]
      exact w3 h3
    have lS : ("set " : Str).length = 4 := by decide +kernel
    have lA : ("add " : Str).length = 4 := by decide +kernel
    have lB : (" " : Str).length = 1 := by decide +kernel
    refine ite2 (fun e1 => ?_) (fun e1 => ?_)
    · refine ⟨.ref p, rfl, _, rfl, _, 1, rfl, rfl, p, _, n + 2, rfl, hp4, by omega, by omega, by omega, fun d H5 g0 g1 hp5 b5 => ?_⟩
      refine ⟨.int w0, rfl, rfl, _, rfl, ?_⟩
      rw [dec_int', e1]
      refine iteT ⟨_, rfl, _, _, rfl, rfl, small (by omega), _, _, rfl, rfl, small (by rw [len_app]; omega), .int d, rfl, d, rfl, ?_, _, _, rfl, rfl, ?_, ?_⟩
      · have : d = 0 ∨ d = 1 ∨ d = 2 := by omega
        rcases this with rfl | rfl | rfl <;> decide
      · have : d = 0 ∨ d = 1 ∨ d = 2 := by omega
        have l1 : (Str.ofString (toString d)).length = 1 := by rcases this with rfl | rfl | rfl <;> decide +kernel
        refine small ?_
        show _ + (Str.ofString (toString d)).length ≤ 1000
        rw [len_app, len_app]
        omega
      · have := fin d "set" "set " g0 (by omega) (by omega) (by decide +kernel)
        refine Eq.mp (congrArg (fun z => Q (V.str z) H5) this.symm) ?_
        exact q _ H5 (plain_set c8 hc cv.2 (by omega)) (hp5.more (by omega)) (b04.trans b5)
    · refine ⟨.ref p, rfl, p, 2, n + 2, rfl, hp4, by omega, by decide, by decide, fun d H5 g0 g1 hp5 b5 => ?_⟩
      refine ⟨1, d, rfl, rfl, ?_⟩
      refine ⟨.int w0, rfl, rfl, _, rfl, ?_⟩
      rw [dec_int', Bool.eq_false_iff.mpr e1]
      refine iteF ⟨_, rfl, _, _, rfl, rfl, small (by omega), _, _, rfl, rfl, small (by rw [len_app]; omega), .int (1 + d), rfl, 1 + d, rfl, ?_, _, _, rfl, rfl, ?_, ?_⟩
      · have : d = 0 ∨ d = 1 := by omega
        rcases this with rfl | rfl <;> decide
      · have : d = 0 ∨ d = 1 := by omega
        have l1 : (Str.ofString (toString (1 + d))).length = 1 := by rcases this with rfl | rfl <;> decide +kernel
        refine small ?_
        show _ + (Str.ofString (toString (1 + d))).length ≤ 1000
        rw [len_app, len_app]
        omega
      · have := fin (1 + d) "add" "add " (by omega) (by omega) (by omega) (by decide +kernel)
        refine Eq.mp (congrArg (fun z => Q (V.str z) H5) this.symm) ?_
        exact q _ H5 (plain_add c8 hc (by omega) (by omega)) (hp5.more (by omega)) (b04.trans b5)
  clear e
  obtain ⟨h1, h2, h3, h4, h5, h6⟩ := six_ok sy LO.sy
  have hsy : sy.length ≤ 4 := by
    have : ∀ z ∈ sixS, z.length ≤ 4 := by decide +kernel
    exact this sy LO.sy
  have h7 : atI sy.cps.toList 0 = some (sy.cps.getD 0 0) := by
    have : ∀ z ∈ sixS, atI z.cps.toList 0 = some (z.cps.getD 0 0) := by decide +kernel
    exact this sy LO.sy
  refine ⟨.ref p, rfl, .ref lo, rfl, lo, .str sy, rfl, L3.gSymbols, sy, 0, _, rfl, rfl, small (by omega), h7, _, _, rfl, rfl, small (by rw [show ("write " : Str).length = 6 by decide +kernel]; show 6 + 1 ≤ 1000; decide), small (by show 7 ≤ 1000; decide), fun l hl => ?_⟩
  have s4 := same_new hl (.lst [.str "right", .str "right", .str "left", .str "copy", .str "write x", .str (("write " : Str) ++ firstS sy), .str "stop"])
  have npl : l ≠ p := fun e => by
    obtain ⟨_, _, _, hpp, _⟩ := hp3.at_
    rw [e, hpp] at hl
    cases hl
  refine ⟨p, l, _, n + 1, rfl, hp3.same s4, by omega, .inl (.inl upd_same), npl, (by show 0 < 7; decide), (by show 7 < 1000; decide), fun i v H5 hv hp5 b5 => ?_⟩
  have b05 := (b3.trans (But.of_same s4)).trans b5
  have hp6 := hp5.more (m := n + 5) (by omega)
  have put : ∀ (ws : List Str) (z : Str), z = Txt.join blank ws → PlainOk sy ms kn ws → Q (.str z) H5 := fun ws z e k => by
    rw [e]
    exact q ws H5 k hp6 b05
  match i, hv with
  | 0, hv => cases hv; exact put _ _ w1 (plain_bare _ (by decide +kernel))
  | 1, hv => cases hv; exact put _ _ w1 (plain_bare _ (by decide +kernel))
  | 2, hv => cases hv; exact put _ _ w1 (plain_bare _ (by decide +kernel))
  | 3, hv => cases hv; exact put _ _ w1 (plain_bare _ (by decide +kernel))
  | 4, hv => cases hv; exact put [("write" : Str), "x"] _ (by decide +kernel) (plain_write (by decide +kernel) (by decide +kernel) (by decide +kernel) (by decide +kernel) (by decide +kernel))
  | 5, hv => cases hv; exact put [("write" : Str), firstS sy] _ (w2 (by decide +kernel)) (plain_write h1 h2 h3 h4 h5)
  | 6, hv => cases hv; exact put _ _ w1 (plain_bare _ (by decide +kernel))
  | j + 7, hv => cases hv
end
end Fg
set_option Elab.async false
set_option linter.all false
set_option maxRecDepth 100000
set_option maxHeartbeats 4000000
namespace Fg
open PySem L2 TL
/-! ### _law_wide_asked -/
theorem tlj (ws : List Str) : tl (Txt.join blank ws) = joinL [32] (ws.map tl) := by rw [join_eq, tl_join, tl_blank]
theorem wcons {a a' y : Str} {ws : List Str} (h : tl a' = tl a ++ [32]) : a' ++ Txt.join blank (y :: ws) = Txt.join blank (a :: y :: ws) := ext_tl (by
  rw [tl_append, h, tlj, tlj]
  show (tl a ++ [32]) ++ joinL [32] ((y :: ws).map tl) = tl a ++ ([32] ++ joinL [32] ((y :: ws).map tl))
  rw [List.append_assoc])
def subs {α : Type} : List α → List (List α)
  | [] => [[]]
  | x :: r => subs r ++ (subs r).map (x :: ·)
theorem subs_of {α : Type} : ∀ {l m : List α}, m.Sublist l → m ∈ subs l := by
  intro l m h
  induction h with
  | slnil => exact List.mem_singleton.mpr rfl
  | cons a _ ih => exact List.mem_append_left _ ih
  | cons_cons a _ ih => exact List.mem_append_right _ (List.mem_map.mpr ⟨_, ih, rfl⟩)
def signsT (sy : Str) : Str := (("<" : Str) ++ sy) ++ (">" : Str)
def signsOf (sy : Str) : List Str := (tl (signsT sy)).map fun c => (⟨#[c]⟩ : Str)
def wordsGood (ws : List Str) : Bool := ws.all (fun x => decide (tl x ≠ []) && decide (32 ∉ tl x) && (PyData.strOk x && noSp x)) && decide ((Txt.join blank ws).length ≤ 38) && decide (10 ∉ tl (Txt.join blank ws))
/-- conditions of the law's own programs -/
structure AskedOk (sy : Str) (ms : NV) (ws : List Str) : Prop where
  cond : CondOk sy ms ws
  good : wordsGood ws = true
  ne : ws ≠ []
def chkAt (sy : Str) (z : Str) : Bool := decide (z.length ≤ 6) && wordsGood ["at", z] && wordsGood ["not", "at", z] && decide (-1 ∉ places z (ordOf sy)) && decide ((places z (ordOf sy)).Pairwise (· < ·)) && decide (∀ i ∈ places z (ordOf sy), 0 ≤ i)
theorem at_ok : ∀ sy ∈ sixS, ∀ zs ∈ subs (signsOf sy), zs ≠ [] → chkAt sy (Txt.join "" zs) = true := by decide +kernel
theorem eq_ok : ∀ z ∈ eight, ∀ v ∈ [0, 1, 2], wordsGood [z, "=", numS v] = true ∧ wordsGood ["not", z, "=", numS v] = true ∧ z ≠ "not" ∧ PyData.strOk z = true := by decide +kernel
theorem asked_at {sy : Str} {ms : NV} {zs : List Str} (h : sy ∈ sixS) (hz : zs ∈ subs (signsOf sy)) (hn : zs ≠ []) : AskedOk sy ms ["at", Txt.join "" zs] ∧ AskedOk sy ms ["not", "at", Txt.join "" zs] ∧ (Txt.join "" zs).length ≤ 6 := by
  have := at_ok sy h zs hz hn
  unfold chkAt at this
  simp only [Bool.and_eq_true, decide_eq_true_eq] at this
  obtain ⟨⟨⟨⟨⟨h1, h2⟩, h3⟩, _⟩, h4⟩, h5⟩ := this
  have c : Core sy ms ["at", Txt.join "" zs] := .at_ _ (by omega) ⟨h4, h5⟩
  exact ⟨⟨.inl c, h2, by simp⟩, ⟨.inr ⟨_, rfl, c⟩, h3, by simp⟩, h1⟩
theorem asked_eq {sy : Str} {ms : NV} {c : Str × Nat} {i v : Nat} (h : c.1 ∈ eight) (hc : ms[i]? = some c) (h2 : c.2 ≤ 2) (hv : v ≤ c.2) : AskedOk sy ms [c.1, "=", numS v] ∧ AskedOk sy ms ["not", c.1, "=", numS v] := by
  have hv3 : v ∈ [0, 1, 2] := by
    have : v = 0 ∨ v = 1 ∨ v = 2 := by omega
    simpa using this
  obtain ⟨h3, h4, h5, h6⟩ := eq_ok c.1 h v hv3
  have k : Core sy ms [c.1, "=", numS v] := .eq c.1 i v c.2 hc hv h2 h5 h6
  exact ⟨⟨.inl k, h3, by simp⟩, ⟨.inr ⟨_, rfl, k⟩, h4, by simp⟩⟩
abbrev s_wide_asked : Stmt := top 29
abbrev sc_wide_askedN : List Str := ["_law_pot", "_law_lore", "_law_signs", "_law_some", "_law_asked", "_law_name", "_law_most", "_law_sign"]
theorem sc_wide_asked : FnScope sc_wide_askedN ["_law_pot", "_law_lore"] (defScope s_wide_asked) := ⟨rfl, rfl, rfl, by decide +kernel, rfl, by decide +kernel, by decide +kernel⟩
def spAsked : Sp := fun vs H Q _ => ∃ (p lo cl pl : Addr) (n left : Nat) (sy : Str) (ms : NV) (pn : List Str), vs = [.ref p, .ref lo] ∧ Pot H p n ∧ n + 20 < 100000 ∧ Lore H p lo cl pl sy ms pn left ∧ LoreOk sy ms pn ∧
  ∀ (ws : List Str) (H' : Hp), AskedOk sy ms ws → Pot H' p (n + 12) → But p H H' → Q (.str (Txt.join blank ws)) H'
/-- lore['cells'] != [] and take(pot, 2) == 0 -/
def tAs2 (p : Addr) : TT := fun σ H Q => ∃ (lo cl : Addr) (as : List Addr) (ms : NV) (n : Nat), σ[0]? = some (some (.ref p)) ∧ σ[1]? = some (some (.ref lo)) ∧ DGet H lo (.str "cells") (some (.ref cl)) ∧ H cl = some (.lst (as.map V.ref)) ∧ Pairs H as (kvS ms) ∧ (∀ c ∈ ms, PyData.strOk c.1 = true) ∧ Pot H p n ∧ n + 10 < 100000 ∧
  ∀ (b : Bool) (H' : Hp), (b = true → ms ≠ []) → Pot H' p (n + 1) → But p H H' → Q b H'
/-- ''.join(some if some != [] else [of(pot, signs)]) -/
def tAs1 (p : Addr) : TE := fun σ H Q => ∃ (ls D : Addr) (n : Nat) (zs sg : List Str), σ[0]? = some (some (.ref p)) ∧ σ[2]? = some (some (.ref ls)) ∧ σ[3]? = some (some (.ref D)) ∧ Pot H p n ∧ n + 10 < 100000 ∧ H ls = some (.lst (sg.map V.str)) ∧ ls ≠ p ∧ D ≠ p ∧ H D = some (.lst (zs.map V.str)) ∧ zs ∈ subs sg ∧ sg ≠ [] ∧ sg.length ≤ 100 ∧ (∀ z ∈ sg, PyData.strOk z = true ∧ z.length ≤ 1) ∧ zs.length ≤ sg.length ∧ (∀ z ∈ zs, z ∈ sg) ∧ (∀ z ∈ sg, [z] ∈ subs sg) ∧
  ∀ (ys : List Str) (H' : Hp), ys ∈ subs sg → ys ≠ [] → Pot H' p (n + 1) → But p H H' → Q (.str (Txt.join "" ys)) H'
section
variable {P : Program} {w : World} {K : PySem.W.Frag} {mg : Str → Option Value} {base : Heap}
theorem pe_weak {X : Cx} {e : Expr} {t t' : TE} (h : PE X e t) (i : ∀ σ H Q, t' σ H Q → t σ H Q) : PE X e t' := ⟨fun pins s σ H Q I q => h.run pins s σ H Q I (i _ _ _ q)⟩
theorem ok_wide_asked {f : Addr} {fd : FuncData} (F : Fun K "_law_wide_asked" "_law_wide_asked" s_wide_asked f fd) (T : Bare mg) (CT : Callee P w K mg base 1 "_law_take" ["_law_pot", "_law_upto"] spTake) (CO : Callee P w K mg base 2 "_law_of" ["_law_pot", "_law_some"] (spOf K)) :
    FnOk P w K mg base CX0 3 f fd ["_law_pot", "_law_lore"] spAsked := by
  refine F.ok sc_wide_asked (fun vs H Q E h => ?_) (fun cdv A outer st H vs Q E hr h => ?_)
  · obtain ⟨p, lo, cl, pl, n, left, sy, ms, pn, rfl, _⟩ := h
    rfl
  obtain ⟨p, lo, cl, pl, n, left, sy, ms, pn, rfl, hp, hn, L, LO, q⟩ := h
  have hu := hu_of hr
  refine ⟨_, (pss_cons (ps_set (i := 2) sc_wide_asked.nd rfl (Or.inl rfl) (pe_callTy (call_list_text rfl) (by rfl) T.list (by decide +kernel) (pa_cons (pe_op op_add_str (pe_op op_add_str pe_str (pe_dget hu (pv 1) pe_str (fun _ _ => rfl))) pe_str) pa_nil)))
(pss_cons (ps_setLc (i := 3) (own := [("_law_sign", 7)]) (g := gName 7) rfl sc_wide_asked.nd rfl rfl (sw_true rfl rfl rfl (by decide +kernel)) (pi_list (pv 2)) (blkOk_by (N := sc_wide_askedN) (sc := defScope s_wide_asked) (by decide +kernel)) (fun _ _ _ _ _ => pg_name (i := 7) sc_wide_asked.nd rfl (Or.inl rfl)) (fun _ _ _ _ _ => (pts_one (pt_cmpR op_eq (pe_call CT.ok (hr.mono (by decide)) rfl CT.mg CT.kp CT.b .nil pass0 (pa_cons (pv 0) (pa_cons pe_int pa_nil))) pe_int (nomark _)))) (fun _ _ _ _ _ => (pv 7)))
(pss_cons (ps_set (i := 4) sc_wide_asked.nd rfl (Or.inl rfl) (pe_op op_add_str pe_str (pe_weak (t' := tAs1 p) (pe_join pe_str (pe_ifExp (pt_cmpR (op_neD hr.units) (pv 3) (pe_lst pa_nil) (nomark _)) (pv 3) (pe_lst (pa_cons (pe_call CO.ok hr rfl CO.mg CO.kp CO.b .nil pass0 (pa_cons (pv 0) (pa_cons (pv 2) pa_nil))) pa_nil)))) (fun σ H1 Q1 h => by
    obtain ⟨ls, D, m, zs, sg, h0, h2, h3, hp1, hm, hls, nls, nD, hD, hz, hsg, hl, hok, hzl, hzm, hone, q1⟩ := h
    refine ⟨⟨_, rfl⟩, ?_⟩
    refine ⟨_, h3, small (by show 0 ≤ 1000; decide), fun A hA => ⟨.list (zs.map .str), .list [], .lst (.inl (.inl (same_new hA _ _ _ hD))) (dp_strs zs), .lst (.inl (.inl upd_same)) .nil, shaped_strs (fun z hz => (hok z (hzm z hz)).1), shaped_nil, _, congrArg (fun b => V.bl (!b)) (eqv_strs0 zs), ?_⟩⟩
    have sA := same_new hA (.lst [])
    generalize upd H1 A (.lst []) = H2 at sA ⊢
    have sum1 : ∀ ys : List Str, (∀ y ∈ ys, y.length ≤ 1) → (ys.map (·.length)).sum ≤ ys.length := fun ys h => by
      induction ys with
      | nil => exact Nat.le_refl _
      | cons y r ih =>
        have h1 := h y List.mem_cons_self
        have h2 := ih fun x hx => h x (List.mem_cons_of_mem _ hx)
        rw [List.map_cons, List.sum_cons, List.length_cons]
        omega
    have l0 : ("" : Str).length = 0 := by decide +kernel
    refine ite2 (fun e => ?_) (fun e => ?_)
    · refine ⟨_, h3, _, D, zs, rfl, rfl, .inl (.inl (.inl (sA _ _ hD))), ?_, ?_⟩
      · have := sum1 zs fun y hy => (hok y (hzm y hy)).2
        rw [l0]
        omega
      · exact q1 zs H2 hz (fun z => by rw [z] at e; simp at e) ((hp1.same sA).more (by omega)) (But.of_same sA)
    · refine ⟨_, h0, _, h2, p, ls, _, m, rfl, hp1.same sA, by omega, .inl (.inl (sA _ _ hls)), nls, by rw [List.length_map]; exact List.length_pos_iff.mpr hsg, by rw [List.length_map]; omega, fun i v H3 hv hp3 b3 => ?_⟩
      rw [List.getElem?_map] at hv
      obtain ⟨z, hz1, rfl⟩ := Option.map_eq_some_iff.mp hv
      have hzm1 := List.mem_of_getElem? hz1
      refine ⟨small (by show 1 ≤ 1000; decide), fun B hB => ?_⟩
      have sB := same_new hB (.lst [.str z])
      refine ⟨_, B, [z], rfl, rfl, .inl (.inl (.inl upd_same)), ?_, ?_⟩
      · have := (hok z hzm1).2
        show (z.length + 0) + 1 * _ ≤ _
        rw [l0]
        omega
      · exact q1 [z] _ (hone z hzm1) (by simp) (hp3.same sB) (((But.of_same sA).trans b3).trans (But.of_same sB))))))
(pss_cons (ps_if (pt_weak (t' := tAs2 p) (PW.pt (pw_and (pt_cmpR (op_neD hr.units) (pe_dget hu (pv 1) pe_str (fun _ _ => rfl)) (pe_lst pa_nil) (nomark _)) (pw_and1 (pt_cmpR op_eq (pe_call CT.ok (hr.mono (by decide)) rfl CT.mg CT.kp CT.b .nil pass0 (pa_cons (pv 0) (pa_cons pe_int pa_nil))) pe_int (nomark _))))) (fun σ H1 Q1 h => by
    obtain ⟨lo, cl, as, ms, m, h0, h1, hg, hcl, hpr, hz, hp1, hm, q1⟩ := h
    refine ⟨_, h1, lo, _, rfl, hg, small (by show 0 ≤ 1000; decide), fun A hA => ⟨.list (ms.map cellD), .list [], .lst ((same_new hA _).seq (.inl (.inl hcl))) (dp_pairs (pairs_same hpr (same_new hA _))), .lst (.inl (.inl upd_same)) .nil, shaped_cells hz, shaped_nil, _, congrArg (fun b => V.bl (!b)) (eqv_cells ms), ?_⟩⟩
    have sA := same_new hA (.lst [])
    generalize upd H1 A (.lst []) = H2 at sA ⊢
    refine ite2 (fun e => ?_) (fun e => ?_)
    · refine ⟨_, h0, p, 2, m, rfl, hp1.same sA, by omega, by decide, by decide, fun d H3 g0 g1 hp3 b3 => ?_⟩
      refine ⟨rfl, _, rfl, q1 _ H3 (fun _ z => by rw [z] at e; simp at e) hp3 ((But.of_same sA).trans b3)⟩
    · exact q1 false H2 (fun z => by cases z) ((hp1.same sA).more (by omega)) (But.of_same sA)))
(pss_cons (ps_asg (pe_call CO.ok hr rfl CO.mg CO.kp CO.b .nil pass0 (pa_cons (pv 0) (pa_cons (pe_dget hu (pv 1) pe_str (fun _ _ => rfl)) pa_nil))) (pg_tup (by rfl) (pgs_cons (pg_name (i := 5) sc_wide_asked.nd rfl (Or.inl rfl)) (pgs_cons (pg_name (i := 6) sc_wide_asked.nd rfl (Or.inl rfl)) pgs_nil))))
(pss_one (ps_set (i := 4) sc_wide_asked.nd rfl (Or.inl rfl) (pe_op op_add_str (pe_op op_add_str (pv 5) pe_str) (pe_callTy call_str_int (by rfl) T.str (by decide +kernel) (pa_cons (pe_call CT.ok (hr.mono (by decide)) rfl CT.mg CT.kp CT.b .nil pass0 (pa_cons (pv 0) (pa_cons (pe_op op_add (pv 6) pe_int) pa_nil))) pa_nil))))))
pss_nil)
(pss_one (ps_ret (pe_op op_add_str (pe_ifExp (pt_cmpR op_eq (pe_call CT.ok (hr.mono (by decide)) rfl CT.mg CT.kp CT.b .nil pass0 (pa_cons (pv 0) (pa_cons pe_int pa_nil))) pe_int (nomark _)) pe_str pe_str) (pv 4)))))))), ?_⟩
  have hsy : sy.length ≤ 4 := by
    have : ∀ z ∈ sixS, z.length ≤ 4 := by decide +kernel
    exact this sy LO.sy
  have lL : ("<" : Str).length = 1 := by decide +kernel
  have lG : (">" : Str).length = 1 := by decide +kernel
  refine ⟨.ref lo, rfl, lo, .str sy, rfl, L.gSymbols, _, _, rfl, rfl, small (by omega), _, _, rfl, rfl, small (by rw [len_app]; omega), signsT sy, rfl, ?_, fun ls hls => ?_⟩
  · unfold signsT
    rw [len_app, len_app]
    omega
  have esg : ((tl (signsT sy)).map fun c => V.str ⟨#[c]⟩) = (signsOf sy).map V.str := by
    unfold signsOf
    rw [List.map_map]
    rfl
  have hsl : (signsOf sy).length ≤ 6 := by
    unfold signsOf signsT
    rw [List.length_map, ← len_tl, len_app, len_app]
    omega
  have sgok : ∀ sy ∈ sixS, (∀ z ∈ signsOf sy, PyData.strOk z = true ∧ z.length ≤ 1) ∧ (∀ z ∈ signsOf sy, [z] ∈ subs (signsOf sy)) ∧ signsOf sy ≠ [] := by decide +kernel
  obtain ⟨sg1, sg2, sg3⟩ := sgok sy LO.sy
  have s1 := same_new hls (.lst ((tl (signsT sy)).map fun c => V.str ⟨#[c]⟩))
  have l1 : (upd H ls (.lst ((tl (signsT sy)).map fun c => V.str ⟨#[c]⟩))) ls = some (.lst ((signsOf sy).map V.str)) := by rw [upd_same, esg]
  obtain ⟨o0, b0, c0, hpp, hp'⟩ := id hp.at_
  have nls : ls ≠ p := (ne_of_none hpp hls).symm
  refine ⟨_, rfl, ls, rfl, ⟨_, .inl (.inl l1)⟩, ?_⟩
  generalize upd H ls (.lst ((tl (signsT sy)).map fun c => V.str ⟨#[c]⟩)) = H1 at s1 l1 ⊢
  have hp1 := hp.same s1
  refine fun D hD => lc_it (walk_list (xs := (signsOf sy).map V.str)) (fun i H' => ∃ zs : List Str, zs.Sublist ((signsOf sy).take i) ∧ H' D = some (.lst (zs.map V.str)) ∧ Pot H' p (n + i) ∧ But p H1 H') ⟨[], List.nil_sublist _, upd_same, hp1.same (same_new hD _), But.of_same (same_new hD _)⟩ (fun i H' hi pv => ?_) (fun i x H' H2 hi pv y => ?_) (fun H' pv => ?_)
  · obtain ⟨zs, _, _, _, h4⟩ := pv
    exact h4.seq nls (.inl (.inl l1))
  · obtain ⟨zs, h1, h2, h3, h4⟩ := pv
    obtain ⟨rfl, hx⟩ := y
    rw [List.length_map] at hi
    have nDp : D ≠ p := fun e => by
      obtain ⟨_, _, _, hq, _⟩ := hp1.at_
      rw [e, hq] at hD
      cases hD
    rw [List.getElem?_map] at hx
    obtain ⟨z, hz, rfl⟩ := Option.map_eq_some_iff.mp hx
    refine ⟨rfl, ?_⟩
    refine ⟨.ref p, rfl, p, 2, n + i, rfl, h3, by omega, by decide, by decide, fun d H5 g0 g1 hp5 b5 => ?_⟩
    refine ⟨rfl, _, rfl, ?_⟩
    have hzl : zs.length ≤ i := by
      have := h1.length_le
      rw [List.length_take] at this
      omega
    have et : (signsOf sy).take (i + 1) = (signsOf sy).take i ++ [z] := by
      rw [List.take_add_one, hz]
      rfl
    refine ite2 (fun _ => ?_) (fun _ => ?_)
    · refine ⟨_, rfl, _, b5 _ _ h2 nDp, ?_, zs ++ [z], ?_, ?_, ?_, ?_⟩
      · rw [List.length_map]
        exact Nat.lt_of_lt_of_le (by omega : zs.length < 1000) (small (Nat.le_refl _))
      · rw [et]
        exact h1.append (List.Sublist.refl _)
      · rw [upd_same, List.map_append]
        rfl
      · obtain ⟨o, b, c, e, r⟩ := hp5.at_
        exact ⟨o, b, c, by rw [upd_ne nDp.symm]; exact e, r⟩
      · intro b o h nb
        have := (h4.trans b5) b o h nb
        rw [upd_ne (ne_of_none h hD)]
        exact this
    · refine ⟨zs, ?_, b5 _ _ h2 nDp, hp5, h4.trans b5⟩
      rw [et]
      exact h1.trans (List.sublist_append_left _ _)
  obtain ⟨zs, h1, h2, h3, h4⟩ := pv
  rw [List.length_map] at h1 h3
  rw [List.take_length] at h1
  have nDp : D ≠ p := fun e => by
    obtain ⟨_, _, _, hq, _⟩ := hp1.at_
    rw [e, hq] at hD
    cases hD
  have hzs : zs ∈ subs (signsOf sy) := subs_of h1
  have hp3 : Pot H' p (n + 6) := h3.more (by omega)
  have b03 : But p H H' := (But.of_same s1).trans h4
  refine ⟨ls, D, n + 6, zs, signsOf sy, rfl, rfl, rfl, hp3, by omega, h4 _ _ l1 nls, nls, nDp, h2, hzs, sg3, by omega, sg1, h1.length_le, fun z hz => h1.subset hz, sg2, fun ys H4 hys hyn hp4 b4 => ?_⟩
  obtain ⟨aA, aN, aL⟩ := asked_at (ms := ms) LO.sy hys hyn
  have lAt : ("at " : Str).length = 3 := by decide +kernel
  have lNot : ("not " : Str).length = 4 := by decide +kernel
  have lE : ("" : Str).length = 0 := by decide +kernel
  have nilA : ∀ z : Str, ("" : Str) ++ z = z := fun z => ext_tl (by rw [tl_append]; rfl)
  refine ⟨_, _, rfl, rfl, small (by omega), ?_⟩
  have eA : (("at " : Str) ++ Txt.join "" ys) = Txt.join blank ["at", Txt.join "" ys] := w2 (by decide +kernel)
  have lA1 : (("at " : Str) ++ Txt.join "" ys).length ≤ 9 := by rw [len_app]; omega
  have b04 := b03.trans b4
  have L4 := L.but hp b04
  obtain ⟨as4, hc4, hpr4⟩ := L4.cs
  refine ⟨lo, cl, as4, ms, n + 7, rfl, rfl, L4.gCells, hc4, hpr4, LO.strs, hp4, by omega, fun b H5 hb hp5 b5 => ?_⟩
  have b05 := b04.trans b5
  have L5 := L.but hp b05
  cases b with
  | false =>
    refine iteF ?_
    refine ⟨.ref p, rfl, p, 3, n + 8, rfl, hp5, by omega, by decide, by decide, fun dd H9 gg0 gg1 hp9 b9 => ?_⟩
    refine ⟨rfl, _, rfl, ?_⟩
    have eN : (("not " : Str) ++ (("at " : Str) ++ Txt.join "" ys)) = Txt.join blank ["not", "at", Txt.join "" ys] := by
      rw [eA]
      exact wcons (by decide +kernel)
    have eP : (("" : Str) ++ (("at " : Str) ++ Txt.join "" ys)) = Txt.join blank ["at", Txt.join "" ys] := (nilA _).trans eA
    have bb := (b05).trans b9
    refine ite2 (fun _ => ?_) (fun _ => ?_)
    · refine ⟨_, rfl, _, _, rfl, rfl, small (by rw [lNot]; omega), ?_⟩
      refine Eq.mp (congrArg (fun z => Q (V.str z) H9) eN.symm) ?_
      exact q _ H9 aN (hp9.more (by omega)) bb
    · refine ⟨_, rfl, _, _, rfl, rfl, small (by rw [lE]; omega), ?_⟩
      refine Eq.mp (congrArg (fun z => Q (V.str z) H9) eP.symm) ?_
      exact q _ H9 aA (hp9.more (by omega)) bb
  | true =>
    refine iteT ?_
    obtain ⟨as5, hc5, hpr5⟩ := L5.cs
    have hlen : 0 < (as5.map V.ref).length := by rw [List.length_map, pairs_len hpr5]; exact List.length_pos_iff.mpr (hb rfl)
    refine ⟨.ref p, rfl, .ref lo, rfl, lo, .ref cl, rfl, L5.gCells, p, cl, _, n + 8, rfl, hp5, by omega, .inl (.inl hc5), L5.n1, hlen, by rw [List.length_map, pairs_len hpr5]; have := LO.m2; omega, fun i v H6 hv hp6 b6 => ?_⟩
    rw [List.getElem?_map] at hv
    obtain ⟨t, ht, rfl⟩ := Option.map_eq_some_iff.mp hv
    obtain ⟨c, hc, ht3⟩ := pairs_get hpr5 ht
    obtain ⟨_, _, _, hq5, _⟩ := hp5.at_
    have ht4 := b6 _ _ ht3 (ne_of ht3 hq5 (by intro z; cases z))
    have hcm := List.mem_of_getElem? hc
    have c8 : c.1 ∈ eight := LO.names _ (List.mem_append_left _ (List.mem_map.mpr ⟨c, hcm, rfl⟩))
    have l8 := (eight_ok _ c8).2.2.2.1
    have cv := LO.mv _ hcm
    have lQ : (" = " : Str).length = 3 := by decide +kernel
    refine ⟨t, _, rfl, .inl (.inl ht4), rfl, _, _, rfl, _, _, rfl, rfl, ?_⟩
    refine ⟨_, rfl, _, _, rfl, rfl, small (by omega), .ref p, rfl, _, rfl, _, 1, rfl, rfl, p, _, n + 9, rfl, hp6, by omega, by omega, by omega, fun d H7 g0 g1 hp7 b7 => ?_⟩
    have hd : d = 0 ∨ d = 1 ∨ d = 2 := by omega
    have l1d : (Str.ofString (toString d)).length = 1 := by rcases hd with rfl | rfl | rfl <;> decide +kernel
    refine ⟨d, rfl, by rcases hd with rfl | rfl | rfl <;> decide, _, _, rfl, rfl, small (by rw [len_app]; show _ + (Str.ofString (toString d)).length ≤ 1000; omega), ?_⟩
    have eD : Str.ofString (toString d) = numS d.toNat := by
      unfold numS
      rw [Int.toNat_of_nonneg g0]
    obtain ⟨aE, aF⟩ := asked_eq (sy := sy) (v := d.toNat) c8 hc cv.2 (by omega)
    have eQ : (c.1 ++ (" = " : Str)) ++ (Str.ofString (toString d)) = Txt.join blank [c.1, "=", numS d.toNat] := ext_tl (by
      rw [eD, tl_append, tl_append, join_eq, tl_join, tl_blank, show tl (" = " : Str) = [32] ++ (tl ("=" : Str) ++ [32]) by decide +kernel]
      show (tl c.1 ++ ([32] ++ (tl ("=" : Str) ++ [32]))) ++ tl (numS d.toNat) = tl c.1 ++ ([32] ++ (tl ("=" : Str) ++ ([32] ++ tl (numS d.toNat))))
      simp only [List.append_assoc])
    have lW : ((c.1 ++ (" = " : Str)) ++ (Str.ofString (toString d))).length ≤ 12 := by
      rw [len_app, len_app]
      omega
    have b07 := (b05.trans b6).trans b7
    generalize hWW : (c.1 ++ (" = " : Str)) ++ (Str.ofString (toString d)) = WW at eQ lW
    refine ⟨.ref p, rfl, p, 3, n + 10, rfl, hp7, by omega, by decide, by decide, fun dd H9 gg0 gg1 hp9 b9 => ?_⟩
    refine ⟨rfl, _, rfl, ?_⟩
    have eN : (("not " : Str) ++ WW) = Txt.join blank ["not", c.1, "=", numS d.toNat] := by
      rw [eQ]
      exact wcons (by decide +kernel)
    have eP : (("" : Str) ++ WW) = Txt.join blank [c.1, "=", numS d.toNat] := (nilA _).trans eQ
    have bb := (b07).trans b9
    refine ite2 (fun _ => ?_) (fun _ => ?_)
    · refine ⟨_, rfl, _, _, rfl, rfl, small (by rw [lNot]; omega), ?_⟩
      refine Eq.mp (congrArg (fun z => Q (V.str z) H9) eN.symm) ?_
      exact q _ H9 aF (hp9.more (by omega)) bb
    · refine ⟨_, rfl, _, _, rfl, rfl, small (by rw [lE]; omega), ?_⟩
      refine Eq.mp (congrArg (fun z => Q (V.str z) H9) eP.symm) ?_
      exact q _ H9 aE (hp9.more (by omega)) bb
end
end Fg
set_option Elab.async false
set_option linter.all false
set_option maxRecDepth 100000
set_option maxHeartbeats 4000000
namespace Fg
open PySem L2 TL
/-! ### _law_wide_body -/
theorem Bod.snoc {sy : Str} {ms ss : NV} {d : Nat} : ∀ (k : Nat) {s t : List Row} {n m : Nat}, s.length ≤ k → Bod sy ms ss d s n → Stm sy ms ss d t m → Bod sy ms ss d (s ++ t) (n + m)
  | 0, s, t, n, m, hk, hs, ht => by
    obtain ⟨x, r, rest, e, _⟩ := hs.first
    rw [e] at hk
    exact absurd hk (by simp)
  | k + 1, s, t, n, m, hk, hs, ht => by
    obtain ⟨s1, t1, i, j, rfl, rfl, h1, h2⟩ := hs.split
    obtain ⟨x, r, rest, e, _⟩ := h1.first
    rcases h2 with ⟨rfl, rfl⟩ | h2
    · rw [List.append_nil, Nat.add_zero]
      exact .more _ _ _ _ _ h1 (.one _ _ _ ht)
    · have : t1.length ≤ k := by
        rw [e] at hk
        simp at hk
        omega
      have ih := Bod.snoc k this h2 ht
      rw [List.append_assoc, Nat.add_assoc]
      exact .more _ _ _ _ _ h1 ih
/-- rows of the law's own programs: words that stand, lines that are short -/
def RowsOk (rows : List Row) : Prop := ∀ r ∈ rows, GoodWs r.2 ∧ (lineOf r).length ≤ 60 ∧ 10 ∉ tl (lineOf r)
theorem RowsOk.append {a b : List Row} (h : RowsOk a) (k : RowsOk b) : RowsOk (a ++ b) := fun r hr => by
  rcases List.mem_append.mp hr with h1 | h1
  · exact h r h1
  · exact k r h1
theorem row_ok {d : Nat} {ws : List Str} (hd : d ≤ 4) (g : GoodWs ws) (hl : (Txt.join blank ws).length ≤ 50) (h10 : 10 ∉ tl (Txt.join blank ws)) : RowsOk [(d, ws)] := fun r hr => by
  have := List.mem_singleton.mp hr
  subst this
  refine ⟨g, ?_, ?_⟩
  · unfold lineOf
    rw [len_app, len_ind]
    show 2 * d + (Txt.join blank ws).length ≤ 60
    omega
  · unfold lineOf
    rw [tl_append, tl_ind]
    intro h
    rcases List.mem_append.mp h with h | h
    · have := (List.mem_replicate.mp h).2
      omega
    · exact h10 h
theorem AskedOk.row {sy : Str} {ms : NV} {ws : List Str} (h : AskedOk sy ms ws) : GoodWs ws ∧ (Txt.join blank ws).length ≤ 38 ∧ 10 ∉ tl (Txt.join blank ws) := by
  have := h.good
  unfold wordsGood at this
  simp only [Bool.and_eq_true, decide_eq_true_eq] at this
  obtain ⟨⟨h1, h2⟩, h3⟩ := this
  refine ⟨good_of ?_, h2, h3⟩
  rw [Bool.and_eq_true]
  refine ⟨?_, h1⟩
  cases ws with
  | nil => exact absurd rfl h.ne
  | cons _ _ => rfl
/-- "if ..", "while .." in front of a condition -/
theorem cond_row {sy : Str} {ms : NV} {ws : List Str} {d : Nat} {x : Str} (hx : x = "if" ∨ x = "while") (hd : d ≤ 4) (h : AskedOk sy ms ws) : RowsOk [(d, x :: ws)] := by
  obtain ⟨g, h2, h3⟩ := h.row
  have gx : tl x ≠ [] ∧ 32 ∉ tl x ∧ PyData.strOk x = true ∧ x.length ≤ 5 ∧ 10 ∉ tl x ∧ noSp x = true := by rcases hx with rfl | rfl <;> decide +kernel
  cases ws with
  | nil => exact absurd rfl h.ne
  | cons y r =>
    have ej : tl (Txt.join blank (x :: y :: r)) = tl x ++ ([32] ++ tl (Txt.join blank (y :: r))) := by
      rw [tlj, tlj]
      rfl
    refine row_ok hd ⟨by simp, fun z hz => ?_, fun z hz => ?_, fun z hz => ?_⟩ ?_ ?_
    · rcases List.mem_cons.mp hz with rfl | hz
      · exact ⟨gx.1, gx.2.1⟩
      · exact g.w z hz
    · rcases List.mem_cons.mp hz with rfl | hz
      · exact gx.2.2.1
      · exact g.ok z hz
    · rcases List.mem_cons.mp hz with rfl | hz
      · exact gx.2.2.2.2.2
      · exact g.sp z hz
    · rw [len_tl, ej]
      simp only [List.length_append, List.length_cons, List.length_nil]
      rw [← len_tl, ← len_tl]
      have := gx.2.2.2.1
      omega
    · rw [ej]
      intro hm
      rcases List.mem_append.mp hm with hm | hm
      · exact gx.2.2.2.2.1 hm
      · rcases List.mem_append.mp hm with hm | hm
        · exact absurd (List.mem_singleton.mp hm) (by decide)
        · exact h3 hm
theorem plain_row {sy : Str} {ms : NV} {kn : List Str} {ws : List Str} {d : Nat} (hd : d ≤ 4) (h : PlainOk sy ms kn ws) : RowsOk [(d, ws)] := row_ok hd h.good (by have := h.ln.1; omega) h.ln.2
theorem else_row {d : Nat} (hd : d ≤ 4) : RowsOk [(d, [("else" : Str)])] := row_ok hd (good_of (by decide +kernel)) (by decide +kernel) (by decide +kernel)
abbrev s_wide_body : Stmt := top 31
abbrev sc_wide_bodyN : List Str := ["_law_pot", "_law_lore", "_law_known", "_law_depth", "_law_found", "_law_blanks", "_law_turn", "_law_kind"]
theorem sc_wide_body : FnScope sc_wide_bodyN ["_law_pot", "_law_lore", "_law_known", "_law_depth"] (defScope s_wide_body) := ⟨rfl, rfl, rfl, by decide +kernel, rfl, by decide +kernel, by decide +kernel⟩
theorem Lore.off {H : Hp} {p lo cl pl fl : Addr} {sy : Str} {ms : NV} {pn : List Str} {left : Nat} {xs : List V} {o : HO} (L : Lore H p lo cl pl sy ms pn left) (hf : H fl = some (.lst xs)) (n2 : cl ≠ fl) (n3 : pl ≠ fl) : Lore (upd H fl o) p lo cl pl sy ms pn left := by
  obtain ⟨as, h1, h2⟩ := L.cs
  exact ⟨by rw [upd_ne (ne_of L.at_ hf (by intro e; cases e))]; exact L.at_, ⟨as, by rw [upd_ne n2]; exact h1, pairs_by h2 fun a xs h => by rw [upd_ne (ne_of h hf (by intro e; cases e))]; exact h⟩, by rw [upd_ne n3]; exact L.ps, L.n1, L.n2⟩
/-- all but the pot and the lore is as it was -/
def But2 (p lo : Addr) (H H' : Hp) : Prop := ∀ b o, H b = some o → b ≠ p → b ≠ lo → H' b = some o
def tBo1 (p : Addr) : TT := fun σ H Q => ∃ (lo cl pl : Addr) (d n left : Nat) (sy : Str) (ms : NV) (pn : List Str), σ[0]? = some (some (.ref p)) ∧ σ[1]? = some (some (.ref lo)) ∧ σ[3]? = some (some (.int (d : Int))) ∧ Pot H p n ∧ n + 10 < 100000 ∧ Lore H p lo cl pl sy ms pn left ∧
  ∀ (b : Bool) (H' : Hp), (b = true → d < 4 ∧ 0 < left) → Pot H' p (n + 1) → But p H H' → Q b H'
def tBo2 (p : Addr) : TT := fun σ H Q => ∃ (lo cl pl : Addr) (kd : Str) (n left : Nat) (sy : Str) (ms : NV) (pn : List Str), σ[0]? = some (some (.ref p)) ∧ σ[1]? = some (some (.ref lo)) ∧ σ[7]? = some (some (.str kd)) ∧ Pot H p n ∧ n + 10 < 100000 ∧ Lore H p lo cl pl sy ms pn left ∧
  ∀ (b : Bool) (H' : Hp), (b = true → kd = "if" ∧ 0 < left) → Pot H' p (n + 1) → But p H H' → Q b H'
theorem cond_line {d : Nat} {kd y : Str} {ws : List Str} : ((ind d ++ kd) ++ (" " : Str)) ++ Txt.join blank (y :: ws) = lineOf (d, kd :: y :: ws) := ext_tl (by
  unfold lineOf
  rw [tl_append, tl_append, tl_append, tl_append, tlj, tlj, show tl (" " : Str) = [32] by decide +kernel]
  show ((tl (ind d) ++ tl kd) ++ [32]) ++ joinL [32] ((y :: ws).map tl) = tl (ind d) ++ (tl kd ++ ([32] ++ joinL [32] ((y :: ws).map tl)))
  simp only [List.append_assoc])
theorem free2 {p lo b : Addr} {H H' : Hp} (e : But2 p lo H H') (n1 : b ≠ p) (n2 : b ≠ lo) (h : H' b = none) : H b = none := by
  cases q0 : H b with
  | none => rfl
  | some o => rw [e _ _ q0 n1 n2] at h; cases h
def spLBody (d : Nat) : Sp := fun vs H Q _ => ∃ (p lo cl pl kl : Addr) (n left : Nat) (sy : Str) (ms : NV) (pn kn : List Str), vs = [.ref p, .ref lo, .ref kl, .int (d : Int)] ∧ Pot H p n ∧ n + 30 * left + 100 < 100000 ∧ Lore H p lo cl pl sy ms pn left ∧ LoreOk sy ms pn ∧
  H kl = some (.lst (kn.map V.str)) ∧ kl ≠ p ∧ kn.length ≤ 2 ∧ (∀ z ∈ kn, z ∈ pn) ∧ 1 ≤ left ∧ left ≤ 20 ∧
  ∀ (lb : Addr) (rows : List Row) (m : Nat) (H' : Hp), 1 ≤ m → m ≤ left → rows.length ≤ 2 * m → RowsOk rows → (∀ ss : NV, ss.map (·.1) = kn → Bod sy ms ss d rows m) → H lb = none → H' lb = some (.lst ((rows.map lineOf).map V.str)) → Pot H' p (n + 30 * m - 20) → Lore H' p lo cl pl sy ms pn (left - m) → But2 p lo H H' → Q (.ref lb) H'
theorem lkv_put {sy : Str} {left k : Nat} {cl pl : Addr} : putK (lkv sy left cl pl) (Sum.inr ("left" : Str)) (.int (k : Int)) = lkv sy k cl pl := by kernel_rfl
theorem Lore.put {H : Hp} {p lo cl pl : Addr} {sy : Str} {ms : NV} {pn : List Str} {left k : Nat} (L : Lore H p lo cl pl sy ms pn left) : Lore (upd H lo (.dK (lkv sy k cl pl))) p lo cl pl sy ms pn k := by
  obtain ⟨as, h1, h2⟩ := L.cs
  exact ⟨upd_same, ⟨as, by rw [upd_ne (ne_of h1 L.at_ (by intro e; cases e))]; exact h1, pairs_by h2 fun a xs h => by rw [upd_ne (ne_of h L.at_ (by intro e; cases e))]; exact h⟩, by rw [upd_ne (ne_of L.ps L.at_ (by intro e; cases e))]; exact L.ps, L.n1, L.n2⟩
/-- the body one deeper, where there is one -/
def spNext (d : Nat) : Sp := fun vs H Q E => d < 4 ∧ spLBody (d + 1) vs H Q E
section
variable {P : Program} {w : World} {K : PySem.W.Frag} {mg : Str → Option Value} {base : Heap}
theorem ok_wide_body {f : Addr} {fd : FuncData} {d k : Nat} (F : Fun K "_law_wide_body" "_law_wide_body" s_wide_body f fd) (T : Bare mg) (hd0 : 1 ≤ d) (hd : d ≤ 4) (hk : 3 ≤ k) (CT : Callee P w K mg base 1 "_law_take" ["_law_pot", "_law_upto"] spTake) (CO : Callee P w K mg base 2 "_law_of" ["_law_pot", "_law_some"] (spOf K))
    (CA : Callee P w K mg base 3 "_law_wide_asked" ["_law_pot", "_law_lore"] spAsked) (CP : Callee P w K mg base 3 "_law_wide_plain" ["_law_pot", "_law_lore", "_law_known"] spPlain) (CB : Callee P w K mg base k "_law_wide_body" ["_law_pot", "_law_lore", "_law_known", "_law_depth"] (spNext d)) :
    FnOk P w K mg base CX0 (k + 1) f fd ["_law_pot", "_law_lore", "_law_known", "_law_depth"] (spLBody d) := by
  refine F.ok sc_wide_body (fun vs H Q E h => ?_) (fun cdv A outer st H vs Q E hr h => ?_)
  · obtain ⟨p, lo, cl, pl, kl, n, left, sy, ms, pn, kn, rfl, _⟩ := h
    rfl
  obtain ⟨p, lo, cl, pl, kl, n, left, sy, ms, pn, kn, rfl, hp, hn, L, LO, hkl, nkl, hk2, hkn, hl1, hl2, q⟩ := h
  have hu := hu_of hr
  have hr1 : Room 1 _ := hr.mono (by omega)
  refine ⟨_, (pss_cons (ps_par (i := 4) (j := 5) (by rfl) sc_wide_body.nd rfl rfl (by decide) rfl rfl (pa_cons (pe_lst pa_nil) (pa_cons (pe_op op_mulS pe_str (pv 3)) pa_nil)) (by rfl))
(pss_cons (ps_for PassesOwn.never rfl (pi_range1 (by rfl) T.range (pa_cons (pe_op op_add pe_int (pe_call CT.ok (hr.mono (by omega)) rfl CT.mg CT.kp CT.b .nil pass0 (pa_cons (pv 0) (pa_cons pe_int pa_nil)))) pa_nil)) (pg_name (i := 6) sc_wide_body.nd rfl (Or.inl rfl))
(pss_one (ps_if (pt_cmpR op_gt (pe_dget hu (pv 1) pe_str (fun _ _ => rfl)) pe_int (nomark _))
(pss_cons (ps_dput hu (pv 1) pe_str (pe_op op_sub (pe_dget hu (pv 1) pe_str (fun _ _ => rfl)) pe_int) rfl)
(pss_one (ps_if (pt_weak (t' := tBo1 p) (PW.pt (pw_and (pt_cmpR op_lt (pv 3) pe_int (nomark _)) (pw_and (pt_cmpR op_gt (pe_dget hu (pv 1) pe_str (fun _ _ => rfl)) pe_int (nomark _)) (pw_and1 (pt_cmpR op_eq (pe_call CT.ok (hr.mono (by omega)) rfl CT.mg CT.kp CT.b .nil pass0 (pa_cons (pv 0) (pa_cons pe_int pa_nil))) pe_int (nomark _)))))) (fun σ H1 Q1 h => by
    obtain ⟨lo, cl, pl, d, n, left, sy, ms, pn, h0, h1, h3, hp1, hn1, L1, q1⟩ := h
    refine ⟨_, h3, _, _, rfl, rfl, _, rfl, ite2 (fun e => ?_) (fun e => ?_)⟩
    · refine ⟨_, h1, lo, _, rfl, L1.gLeft, _, _, rfl, rfl, _, rfl, ite2 (fun e2 => ?_) (fun e2 => ?_)⟩
      · refine ⟨_, h0, p, 3, n, rfl, hp1, by omega, by decide, by decide, fun u H2 u0 u1 hp2 b2 => ?_⟩
        refine ⟨rfl, _, rfl, q1 _ H2 (fun _ => ⟨?_, ?_⟩) hp2 b2⟩
        · have := of_decide_eq_true e
          omega
        · have := of_decide_eq_true e2
          omega
      · exact q1 false H1 (fun z => by cases z) (hp1.more (by omega)) (But.refl _ _)
    · exact q1 false H1 (fun z => by cases z) (hp1.more (by omega)) (But.refl _ _)))
(pss_cons (ps_set (i := 7) sc_wide_body.nd rfl (Or.inl rfl) (pe_call CO.ok (hr.mono (by omega)) rfl CO.mg CO.kp CO.b .nil pass0 (pa_cons (pv 0) (pa_cons (pe_lst (pa_cons pe_str (pa_cons pe_str (pa_cons pe_str pa_nil)))) pa_nil))))
(pss_cons (ps_set (i := 4) sc_wide_body.nd rfl (Or.inl rfl) (pe_op op_cat (pv 4) (pe_lst (pa_cons (pe_op op_add_str (pe_op op_add_str (pe_op op_add_str (pv 5) (pv 7)) pe_str) (pe_call CA.ok (hr.mono (by omega)) rfl CA.mg CA.kp CA.b .nil pass0 (pa_cons (pv 0) (pa_cons (pv 1) pa_nil)))) pa_nil))))
(pss_cons (ps_set (i := 4) sc_wide_body.nd rfl (Or.inl rfl) (pe_op op_cat (pv 4) (pe_call CB.ok hr rfl CB.mg CB.kp CB.b .nil pass0 (pa_cons (pv 0) (pa_cons (pv 1) (pa_cons (pv 2) (pa_cons (pe_op op_add (pv 3) pe_int) pa_nil)))))))
(pss_one (ps_if (pt_weak (t' := tBo2 p) (PW.pt (pw_and (pt_cmpR op_eq (pv 7) pe_str (nomark _)) (pw_and (pt_cmpR op_gt (pe_dget hu (pv 1) pe_str (fun _ _ => rfl)) pe_int (nomark _)) (pw_and1 (pt_cmpR op_eq (pe_call CT.ok (hr.mono (by omega)) rfl CT.mg CT.kp CT.b .nil pass0 (pa_cons (pv 0) (pa_cons pe_int pa_nil))) pe_int (nomark _)))))) (fun σ H1 Q1 h => by
    obtain ⟨lo, cl, pl, kd, n, left, sy, ms, pn, h0, h1, h7, hp1, hn1, L1, q1⟩ := h
    refine ⟨_, h7, rfl, _, rfl, ite2 (fun e => ?_) (fun e => ?_)⟩
    · refine ⟨_, h1, lo, _, rfl, L1.gLeft, _, _, rfl, rfl, _, rfl, ite2 (fun e2 => ?_) (fun e2 => ?_)⟩
      · refine ⟨_, h0, p, 2, n, rfl, hp1, by omega, by decide, by decide, fun u H2 u0 u1 hp2 b2 => ?_⟩
        refine ⟨rfl, _, rfl, q1 _ H2 (fun _ => ⟨?_, ?_⟩) hp2 b2⟩
        · exact V.str.inj (of_decide_eq_true e)
        · have := of_decide_eq_true e2
          omega
      · exact q1 false H1 (fun z => by cases z) (hp1.more (by omega)) (But.refl _ _)
    · exact q1 false H1 (fun z => by cases z) (hp1.more (by omega)) (But.refl _ _)))
(pss_one (ps_set (i := 4) sc_wide_body.nd rfl (Or.inl rfl) (pe_op op_cat (pe_op op_cat (pv 4) (pe_lst (pa_cons (pe_op op_add_str (pv 5) pe_str) pa_nil))) (pe_call CB.ok hr rfl CB.mg CB.kp CB.b .nil pass0 (pa_cons (pv 0) (pa_cons (pv 1) (pa_cons (pv 2) (pa_cons (pe_op op_add (pv 3) pe_int) pa_nil))))))))
pss_nil)))))
(pss_one (ps_expr (pe_bm PySem.F.plainAttrs_list PySem.F.slot_list_append PySem.F.type_list_append mt_append (pv 4) (pa_cons (pe_op op_add_str (pv 5) (pe_call CP.ok (hr.mono (by omega)) rfl CP.mg CP.kp CP.b .nil pass0 (pa_cons (pv 0) (pa_cons (pv 1) (pa_cons (pv 2) pa_nil))))) pa_nil)))))))
pss_nil)))
(pss_one (ps_ret (pv 4))))), ?_⟩
  obtain ⟨o0, b0, c0, hpp, hp'⟩ := id hp.at_
  refine ⟨small (by show 0 ≤ 1000; decide), fun l0 hl0 => ?_⟩
  refine ⟨_, rfl, d, rfl, rfl, by omega, _, _, rfl, ?_⟩
  have s1 := same_new hl0 (.lst [])
  have l1 : (upd H l0 (.lst [])) l0 = some (.lst []) := upd_same
  have nl0 : l0 ≠ p := (ne_of_none hpp hl0).symm
  generalize upd H l0 (.lst []) = H1 at s1 l1 ⊢
  refine ⟨.ref p, rfl, p, 4, n, rfl, hp.same s1, by omega, by decide, by decide, fun u H2 u0 u1 hp2 b2 => ?_⟩
  have L2 := (L.same s1).but (hp.same s1) b2
  refine ⟨1, u, rfl, rfl, 1 + u, rfl, by omega, by omega, for_range (lo := 0) (n := (1 + u).toNat) (fun i σ H' => ∃ (fl : Addr) (rows : List Row) (m kk : Nat) (x y : Option V), σ = [some (.ref p), some (.ref lo), some (.ref kl), some (.int (d : Int)), some (.ref fl), some (.str (ind d)), x, y] ∧ H' fl = some (.lst ((rows.map lineOf).map V.str)) ∧ H fl = none ∧
    ((i = 0 ∧ rows = [] ∧ m = 0) ∨ (1 ≤ i ∧ 1 ≤ m ∧ ∀ ss : NV, ss.map (·.1) = kn → Bod sy ms ss d rows m)) ∧ m ≤ left ∧ rows.length ≤ 2 * m ∧ RowsOk rows ∧ Pot H' p kk ∧ (m = 0 → kk ≤ n + 1) ∧ (1 ≤ m → kk + 20 ≤ n + 30 * m) ∧ Lore H' p lo cl pl sy ms pn (left - m) ∧ But2 p lo H H') ?_ ?_ ?_⟩
  · refine ⟨l0, [], 0, n + 1, none, none, rfl, b2 _ _ l1 nl0, hl0, .inl ⟨rfl, rfl, rfl⟩, Nat.zero_le _, Nat.le_refl _, fun r hr => (by cases hr), hp2, fun _ => Nat.le_refl _, fun h => absurd h (by decide), L2, fun b o h nb _ => b2 b o (s1 b o h) nb⟩
  · rintro i σ H3 hi ⟨fl, rows, m, kk, x, y, rfl, hfl, hfl0, hrow, hml, hrl, hro, hp3, hk0, hk1, L3, b3⟩
    refine ⟨_, rfl, lo, _, rfl, L3.gLeft, _, _, rfl, rfl, _, rfl, ?_⟩
    refine ite2 (fun e => ?_) (fun e => ?_)
    rotate_left
    · -- nothing is left
      rcases hrow with ⟨h1, h2, h3⟩ | hrow
      · exact absurd (decide_eq_true (by subst h3; omega)) e
      · exact ⟨fl, rows, m, kk, _, _, rfl, hfl, hfl0, .inr ⟨by omega, hrow.2.1, hrow.2.2⟩, hml, hrl, hro, hp3, hk0, hk1, L3, b3⟩
    have hlm : m < left := by
      have := of_decide_eq_true e
      omega
    have big4 : 4 < sizeLine := Nat.lt_of_lt_of_le (by decide : 4 < 1000) (small (Nat.le_refl _))
    refine ⟨_, rfl, lo, _, rfl, L3.gLeft, _, 1, rfl, rfl, _, rfl, lo, _, rfl, DPut.k (k := Sum.inr ("left" : Str)) L3.at_ big4, ?_⟩
    have eI : (((left - m : Nat) : Int) - 1) = ((left - (m + 1) : Nat) : Int) := by omega
    have eP : ∀ z : Int, z = ((left - (m + 1) : Nat) : Int) → putK (lkv sy (left - m) cl pl) (Sum.inr ("left" : Str)) (.int z) = lkv sy (left - (m + 1)) cl pl := fun z e => by rw [e, lkv_put]
    rw [eP _ eI]
    have L4 := L3.put (k := left - (m + 1))
    obtain ⟨o3, c3, d3, hpp3, hpr3⟩ := id hp3.at_
    have nlp : lo ≠ p := ne_of L3.at_ hpp3 (by intro z; cases z)
    have hp4 : Pot (upd H3 lo (.dK (lkv sy (left - (m + 1)) cl pl))) p kk := ⟨o3, c3, d3, by rw [upd_ne nlp.symm]; exact hpp3, hpr3⟩
    have keep4 : ∀ b o, H3 b = some o → b ≠ lo → (upd H3 lo (.dK (lkv sy (left - (m + 1)) cl pl))) b = some o := fun b o h n => by rw [upd_ne n]; exact h
    generalize (upd H3 lo (.dK (lkv sy (left - (m + 1)) cl pl))) = H4 at L4 hp4 keep4 ⊢
    have hkk : kk + 20 ≤ n + 30 * m + 21 := by
      by_cases h : m = 0
      · have := hk0 h
        omega
      · have := hk1 (by omega)
        omega
    have fl4 := keep4 _ _ hfl (ne_of hfl L3.at_ (by intro z; cases z))
    have nfl : fl ≠ p := fun e => by rw [e, hpp] at hfl0; cases hfl0
    have b4 : But2 p lo H H4 := fun b o h n1 n2 => keep4 _ _ (b3 b o h n1 n2) n2
    refine ⟨lo, cl, pl, d, kk, left - (m + 1), sy, ms, pn, rfl, rfl, rfl, hp4, by omega, L4, fun b H5 hb hp5 b5 => ?_⟩
    have L5 := L4.but hp4 b5
    have fl5 := b5 _ _ fl4 nfl
    have b05 : But2 p lo H H5 := fun b o h n1 n2 => b5 _ _ (b4 b o h n1 n2) n1
    have kl5 := b05 _ _ hkl nkl (ne_of hkl L.at_ (by intro z; cases z))
    obtain ⟨as0, hcl0, _⟩ := L.cs
    have ncl : cl ≠ fl := ne_of_none hcl0 hfl0
    have npl : pl ≠ fl := ne_of_none L.ps hfl0
    have lines : ∀ (rs : List Row), (rs.map lineOf).map V.str = rs.map fun r => V.str (lineOf r) := fun rs => by rw [List.map_map]; rfl
    have grow : ∀ (t : List Row) (mm : Nat), (∀ ss : NV, ss.map (·.1) = kn → Stm sy ms ss d t mm) → ∀ ss : NV, ss.map (·.1) = kn → Bod sy ms ss d (rows ++ t) (m + mm) := fun t mm h ss e9 => by
      rcases hrow with ⟨_, rfl, rfl⟩ | ⟨_, _, h2⟩
      · rw [List.nil_append, Nat.zero_add]
        exact .one _ _ _ (h ss e9)
      · exact Bod.snoc _ (Nat.le_refl _) (h2 ss e9) (h ss e9)
    cases b with
    | true =>
      refine iteT ?_
      obtain ⟨hd4, hl0'⟩ := hb rfl
      obtain ⟨o5, c5, d5, hpp5, hpr5⟩ := id hp5.at_
      refine ⟨.ref p, rfl, small (by show 3 ≤ 1000; decide), fun k3 hk3 => ?_⟩
      have s6 := same_new hk3 (.lst [.str "if", .str "if", .str "while"])
      have nk3 : k3 ≠ p := (ne_of_none hpp5 hk3).symm
      refine ⟨p, k3, _, kk + 1, rfl, hp5.same s6, by omega, .inl (.inl upd_same), nk3, (by show 0 < 3; decide), (by show 3 < 1000; decide), fun i3 v H6 hv hp6 b6 => ?_⟩
      obtain ⟨kd, rfl, hkd⟩ : ∃ kd : Str, v = .str kd ∧ (kd = "if" ∨ kd = "while") := by
        match i3, hv with
        | 0, hv => cases hv; exact ⟨_, rfl, .inl rfl⟩
        | 1, hv => cases hv; exact ⟨_, rfl, .inl rfl⟩
        | 2, hv => cases hv; exact ⟨_, rfl, .inr rfl⟩
        | j + 3, hv => cases hv
      have lkd : kd.length ≤ 5 := by rcases hkd with rfl | rfl <;> decide +kernel
      have b56 : But p H5 H6 := (But.of_same s6).trans b6
      have L6 := L5.but hp5 b56
      have fl6 := b56 _ _ fl5 nfl
      have kl6 := b56 _ _ kl5 nkl
      have lB : (" " : Str).length = 1 := by decide +kernel
      refine ⟨_, rfl, _, rfl, _, rfl, _, _, rfl, rfl, small (by rw [len_ind]; omega), _, _, rfl, rfl, small (by rw [len_app, len_ind]; omega), .ref p, rfl, .ref lo, rfl, p, lo, cl, pl, kk + 2, left - (m + 1), sy, ms, pn, rfl, hp6, by omega, L6, LO, fun ws H7 hw hp7 b7 => ?_⟩
      have hlw := hw.row.2.1
      have L7 := L6.but hp6 b7
      have fl7 := b7 _ _ fl6 nfl
      have kl7 := b7 _ _ kl6 nkl
      refine ⟨_, _, rfl, rfl, small (by rw [len_app, len_app, len_ind]; omega), small (by show 1 ≤ 1000; decide), fun A hA => ?_⟩
      obtain ⟨y0, ws0, rfl⟩ : ∃ y0 ws0, ws = y0 :: ws0 := by
        cases ws with
        | nil => exact absurd rfl hw.ne
        | cons a r => exact ⟨a, r, rfl⟩
      have sA := same_new hA (.lst [V.str (((ind d ++ kd) ++ (" " : Str)) ++ Txt.join blank (y0 :: ws0))])
      refine ⟨fl, A, _, _, rfl, rfl, sA _ _ fl7, upd_same, ?_, fun l1 hl1 => ?_⟩
      · rw [List.length_map, List.length_map]
        exact small (by show rows.length + 1 ≤ 1000; omega)
      have eL1 : (rows.map lineOf).map V.str ++ [V.str (((ind d ++ kd) ++ (" " : Str)) ++ Txt.join blank (y0 :: ws0))] = ((rows ++ [(d, kd :: y0 :: ws0)]).map lineOf).map V.str := by
        rw [cond_line, List.map_append, List.map_append]
        rfl
      have sL1 := same_new hl1 (.lst ((rows.map lineOf).map V.str ++ [V.str (((ind d ++ kd) ++ (" " : Str)) ++ Txt.join blank (y0 :: ws0))]))
      obtain ⟨H8, e8⟩ : ∃ H8 : Hp, H8 = upd (upd H7 A (.lst [V.str (((ind d ++ kd) ++ (" " : Str)) ++ Txt.join blank (y0 :: ws0))])) l1 (.lst ((rows.map lineOf).map V.str ++ [V.str (((ind d ++ kd) ++ (" " : Str)) ++ Txt.join blank (y0 :: ws0))])) := ⟨_, rfl⟩
      have s8 : Same H7 H8 := by rw [e8]; exact sA.trans sL1
      have l18 : H8 l1 = some (.lst (((rows ++ [(d, kd :: y0 :: ws0)]).map lineOf).map V.str)) := by rw [e8, upd_same, eL1]
      have hl10 : H7 l1 = none := sA.free hl1
      have b07 : But2 p lo H H7 := fun b o h n1 n2 => b7 _ _ (b56 _ _ (b05 b o h n1 n2) n1) n1
      obtain ⟨o7, c7, d7, hpp7, hpr7⟩ := id hp7.at_
      have nl1 : l1 ≠ p := (ne_of_none hpp7 hl10).symm
      have nl1lo : l1 ≠ lo := (ne_of_none L7.at_ hl10).symm
      have hl1H : H l1 = none := by
        cases q0 : H l1 with
        | none => rfl
        | some o => rw [b07 _ _ q0 nl1 nl1lo] at hl10; cases hl10
      have b08 : But2 p lo H H8 := fun b o h n1 n2 => s8 _ _ (b07 b o h n1 n2)
      rw [← e8]
      refine ⟨_, rfl, .ref p, rfl, .ref lo, rfl, .ref kl, rfl, _, rfl, _, 1, rfl, rfl, hd4, p, lo, cl, pl, kl, kk + 14, left - (m + 1), sy, ms, pn, kn, rfl, hp7.same s8, by omega, L7.same s8, LO, s8 _ _ kl7, nkl, hk2, hkn, by omega, by omega, fun lb rws mm H9 g1 g2 g3 g4 g5 g6 g7 g8 g9 g10 => ?_⟩
      have l19 := g10 _ _ l18 nl1 nl1lo
      refine ⟨l1, lb, _, _, rfl, rfl, l19, g7, ?_, fun l2 hl2 => ?_⟩
      · rw [List.length_map, List.length_map, List.length_map, List.length_map, List.length_append]
        exact small (by show rows.length + 1 + rws.length ≤ 1000; omega)
      obtain ⟨o9, c9, d9, hpp9, hpr9⟩ := id g8.at_
      have nl2 : l2 ≠ p := (ne_of_none hpp9 hl2).symm
      have nl2lo : l2 ≠ lo := (ne_of_none g9.at_ hl2).symm
      have b09 : But2 p lo H H9 := fun b o h n1 n2 => g10 _ _ (b08 b o h n1 n2) n1 n2
      have hl2H : H l2 = none := free2 b09 nl2 nl2lo hl2
      have eL2 : ((rows ++ [(d, kd :: y0 :: ws0)]).map lineOf).map V.str ++ (rws.map lineOf).map V.str = ((rows ++ ((d, kd :: y0 :: ws0) :: rws)).map lineOf).map V.str := by
        rw [← List.map_append, ← List.map_append, List.append_assoc]
        rfl
      obtain ⟨H10, e10⟩ : ∃ H10 : Hp, H10 = upd H9 l2 (.lst (((rows ++ [(d, kd :: y0 :: ws0)]).map lineOf).map V.str ++ (rws.map lineOf).map V.str)) := ⟨_, rfl⟩
      have s10 : Same H9 H10 := by rw [e10]; exact same_new hl2 _
      have l210 : H10 l2 = some (.lst (((rows ++ ((d, kd :: y0 :: ws0) :: rws)).map lineOf).map V.str)) := by rw [e10, upd_same, eL2]
      rw [← e10]
      have r0 := cond_row hkd hd hw
      have rAll : RowsOk ((d, kd :: y0 :: ws0) :: rws) := r0.append g4
      refine ⟨lo, cl, pl, kd, kk + 14 + 30 * mm - 20, left - (m + 1) - mm, sy, ms, pn, rfl, rfl, rfl, g8.same s10, by omega, g9.same s10, fun b H11 hb2 hp11 b11 => ?_⟩
      have L11 := (g9.same s10).but (g8.same s10) b11
      have l211 := b11 _ _ l210 nl2
      have b011 : But2 p lo H H11 := fun b o h n1 n2 => b11 _ _ (s10 _ _ (b09 b o h n1 n2)) n1
      cases b with
      | false =>
        refine iteF ?_
        have stm : ∀ ss : NV, ss.map (·.1) = kn → Stm sy ms ss d ((d, kd :: y0 :: ws0) :: rws) (mm + 1) := fun ss e9 => by
          rcases hkd with rfl | rfl
          · exact .cond d _ rws mm (.if_ _ hw.cond) hd (g5 ss e9)
          · exact .loop d _ rws mm (.while_ _ hw.cond) hd (g5 ss e9)
        have eleft : left - (m + 1) - mm = left - (m + (mm + 1)) := by omega
        rw [eleft] at L11
        exact ⟨l2, rows ++ ((d, kd :: y0 :: ws0) :: rws), m + (mm + 1), _, _, _, rfl, l211, hl2H, .inr ⟨by omega, by omega, grow _ _ stm⟩, by omega, by rw [List.length_append, List.length_cons]; omega, hro.append rAll, hp11, fun h => absurd h (by omega), fun _ => by omega, L11, b011⟩
      | true =>
        refine iteT ?_
        obtain ⟨ekd, hl11⟩ := hb2 rfl
        have kl11 := b011 _ _ hkl nkl (ne_of hkl L.at_ (by intro z; cases z))
        have lEl : ("else" : Str).length = 4 := by decide +kernel
        refine ⟨_, rfl, _, rfl, _, _, rfl, rfl, small (by rw [len_ind]; omega), small (by show 1 ≤ 1000; decide), fun B hB => ?_⟩
        have sB := same_new hB (.lst [V.str (ind d ++ ("else" : Str))])
        refine ⟨l2, B, _, _, rfl, rfl, sB _ _ l211, upd_same, ?_, fun l3 hl3 => ?_⟩
        · rw [List.length_map, List.length_map, List.length_append, List.length_cons]
          exact small (by show rows.length + (rws.length + 1) + 1 ≤ 1000; omega)
        obtain ⟨oa, ca, da, hppa, hpra⟩ := id hp11.at_
        have hl30 : H11 l3 = none := sB.free hl3
        have nl3 : l3 ≠ p := (ne_of_none hppa hl30).symm
        have nl3lo : l3 ≠ lo := (ne_of_none L11.at_ hl30).symm
        have eL3 : ((rows ++ ((d, kd :: y0 :: ws0) :: rws)).map lineOf).map V.str ++ [V.str (ind d ++ ("else" : Str))] = ((rows ++ ((d, kd :: y0 :: ws0) :: (rws ++ [(d, [("else" : Str)])]))).map lineOf).map V.str := by
          have e1 : ind d ++ ("else" : Str) = lineOf (d, [("else" : Str)]) := congrArg (ind d ++ ·) w1
          have e2 : rows ++ ((d, kd :: y0 :: ws0) :: (rws ++ [(d, [("else" : Str)])])) = (rows ++ ((d, kd :: y0 :: ws0) :: rws)) ++ [(d, [("else" : Str)])] := by
            rw [List.append_assoc]
            rfl
          have gen : ∀ (Y : List Row) (r : Row), (Y.map lineOf).map V.str ++ [V.str (lineOf r)] = ((Y ++ [r]).map lineOf).map V.str := fun Y r => by
            rw [List.map_append, List.map_append]
            rfl
          rw [e1, e2]
          exact gen _ _
        obtain ⟨H13, e13⟩ : ∃ H13 : Hp, H13 = upd (upd H11 B (.lst [V.str (ind d ++ ("else" : Str))])) l3 (.lst (((rows ++ ((d, kd :: y0 :: ws0) :: rws)).map lineOf).map V.str ++ [V.str (ind d ++ ("else" : Str))])) := ⟨_, rfl⟩
        have s13 : Same H11 H13 := by rw [e13]; exact sB.trans (same_new hl3 _)
        have l313 : H13 l3 = some (.lst (((rows ++ ((d, kd :: y0 :: ws0) :: (rws ++ [(d, [("else" : Str)])]))).map lineOf).map V.str)) := by rw [e13, upd_same, eL3]
        rw [← e13]
        refine ⟨.ref p, rfl, .ref lo, rfl, .ref kl, rfl, _, rfl, _, 1, rfl, rfl, hd4, p, lo, cl, pl, kl, kk + 14 + 30 * mm - 20 + 1, left - (m + 1) - mm, sy, ms, pn, kn, rfl, hp11.same s13, by omega, L11.same s13, LO, s13 _ _ kl11, nkl, hk2, hkn, by omega, by omega, fun lb2 rws2 mm2 H14 k1 k2 k3 k4 k5 k6 k7 k8 k9 k10 => ?_⟩
        have l314 := k10 _ _ l313 nl3 nl3lo
        refine ⟨l3, lb2, _, _, rfl, rfl, l314, k7, ?_, fun l4 hl4 => ?_⟩
        · rw [List.length_map, List.length_map, List.length_map, List.length_map, List.length_append, List.length_cons, List.length_append]
          exact small (by show rows.length + (rws.length + 1 + 1) + rws2.length ≤ 1000; omega)
        obtain ⟨ob, cb, db, hppb, hprb⟩ := id k8.at_
        have nl4 : l4 ≠ p := (ne_of_none hppb hl4).symm
        have nl4lo : l4 ≠ lo := (ne_of_none k9.at_ hl4).symm
        have b014 : But2 p lo H H14 := fun b o h n1 n2 => k10 _ _ (s13 _ _ (b011 b o h n1 n2)) n1 n2
        have s15 := same_new hl4 (.lst (((rows ++ ((d, kd :: y0 :: ws0) :: (rws ++ [(d, [("else" : Str)])]))).map lineOf).map V.str ++ (rws2.map lineOf).map V.str))
        have eL4 : ((rows ++ ((d, kd :: y0 :: ws0) :: (rws ++ [(d, [("else" : Str)])]))).map lineOf).map V.str ++ (rws2.map lineOf).map V.str = ((rows ++ ((d, kd :: y0 :: ws0) :: (rws ++ (d, [("else" : Str)]) :: rws2))).map lineOf).map V.str := by
          rw [← List.map_append, ← List.map_append]
          congr 2
          simp only [List.append_assoc, List.cons_append, List.nil_append]
        have stm : ∀ ss : NV, ss.map (·.1) = kn → Stm sy ms ss d ((d, kd :: y0 :: ws0) :: (rws ++ (d, [("else" : Str)]) :: rws2)) (mm + 1 + mm2) := fun ss e9 => by
          subst ekd
          exact .both d _ rws rws2 mm mm2 (.if_ _ hw.cond) hd (g5 ss e9) (k5 ss e9)
        have rAll2 : RowsOk ((d, kd :: y0 :: ws0) :: (rws ++ (d, [("else" : Str)]) :: rws2)) := r0.append (g4.append ((else_row hd).append k4))
        have L15 := k9.same s15
        have eleft : left - (m + 1) - mm - mm2 = left - (m + (mm + 1 + mm2)) := by omega
        rw [eleft] at L15
        refine ⟨l4, rows ++ ((d, kd :: y0 :: ws0) :: (rws ++ (d, [("else" : Str)]) :: rws2)), m + (mm + 1 + mm2), _, _, _, rfl, ?_, free2 b014 nl4 nl4lo hl4, .inr ⟨by omega, by omega, grow _ _ stm⟩, by omega, ?_, hro.append rAll2, k8.same s15, fun h => absurd h (by omega), fun _ => by omega, L15, fun b o h n1 n2 => s15 _ _ (b014 b o h n1 n2)⟩
        · rw [upd_same, eL4]
        · rw [List.length_append, List.length_cons, List.length_append, List.length_cons]
          omega
    | false =>
      refine iteF ?_
      refine ⟨_, rfl, .inl ⟨rfl, _, .inl (.inl fl5)⟩, _, rfl, .ref p, rfl, .ref lo, rfl, .ref kl, rfl, p, lo, cl, pl, kl, kk + 1, left - (m + 1), sy, ms, pn, kn, rfl, hp5, by omega, L5, LO, kl5, nkl, hk2, hkn, fun ws H6 hw hp6 b6 => ?_⟩
      have hlw := hw.ln.1
      have fl6 := b6 _ _ fl5 nfl
      refine ⟨_, _, rfl, rfl, small (by rw [len_ind]; omega), fl, _, _, rfl, rfl, fl6, ?_, ?_⟩
      · rw [List.length_map, List.length_map]
        exact Nat.lt_of_lt_of_le (by omega : rows.length < 1000) (small (Nat.le_refl _))
      have nfll : fl ≠ lo := ne_of fl5 L5.at_ (by intro z; injection z)
      have L6 := L5.but hp5 b6
      obtain ⟨o6, c6, d6, hpp6, hpr6⟩ := id hp6.at_
      have stm : ∀ ss : NV, ss.map (·.1) = kn → Stm sy ms ss d [(d, ws)] 1 := fun ss e => by
        obtain ⟨x, r, rfl, n1, n2⟩ := hw.noif
        exact .plain d x r (hw.giv ss e) n1 n2 hd
      refine ⟨fl, rows ++ [(d, ws)], m + 1, kk + 6, _, _, rfl, ?_, hfl0, .inr ⟨by omega, by omega, grow _ _ stm⟩, by omega, by rw [List.length_append]; show _ + 1 ≤ _; omega, hro.append (plain_row hd hw), ⟨o6, c6, d6, by rw [upd_ne nfl.symm]; exact hpp6, hpr6⟩, fun h => absurd h (by omega), fun _ => by omega, ?_, ?_⟩
      · rw [upd_same, List.map_append, List.map_append]
        rfl
      · exact L6.off fl6 ncl npl
      · intro b o h n1 n2
        rw [upd_ne (ne_of_none h hfl0)]
        exact b6 _ _ (b05 b o h n1 n2) n1
  · rintro σ H3 ⟨fl, rows, m, kk, x, y, rfl, hfl, hfl0, hrow, hml, hrl, hro, hp3, hk0, hk1, L3, b3⟩
    rcases hrow with ⟨h, _, _⟩ | ⟨_, h1, h2⟩
    · omega
    · exact ⟨_, rfl, q fl rows m H3 h1 hml hrl hro h2 hfl0 hfl (hp3.more (by have := hk1 h1; omega)) L3 b3⟩
end
end Fg
set_option Elab.async false
set_option linter.all false
set_option maxRecDepth 100000
set_option maxHeartbeats 4000000
namespace Fg
open PySem L2 TL
section
variable {P : Program} {w : World} {K : PySem.W.Frag} {mg : Str → Option Value} {base : Heap}
theorem ok_next {f : Addr} {fd : FuncData} {k d : Nat} (h : d < 4 → FnOk P w K mg base CX0 k f fd ["_law_pot", "_law_lore", "_law_known", "_law_depth"] (spLBody (d + 1))) : FnOk P w K mg base CX0 k f fd ["_law_pot", "_law_lore", "_law_known", "_law_depth"] (spNext d) :=
  ⟨fun vs H Q E q => (h q.1).len vs H Q E q.2, fun A outer s H args us vs Q E a b c e q => (h q.1).run A outer s H args us vs Q E a b c e q.2⟩
theorem ok_wide_bodies {f : Addr} {fd : FuncData} (F : Fun K "_law_wide_body" "_law_wide_body" s_wide_body f fd) (T : Bare mg) (hmg : mg "_law_wide_body" = some (.ref f)) (hkp : PySem.W.keepIn K (.ref f) = true) (hb : Binds K fd ["_law_pot", "_law_lore", "_law_known", "_law_depth"] [])
    (CT : Callee P w K mg base 1 "_law_take" ["_law_pot", "_law_upto"] spTake) (CO : Callee P w K mg base 2 "_law_of" ["_law_pot", "_law_some"] (spOf K)) (CA : Callee P w K mg base 3 "_law_wide_asked" ["_law_pot", "_law_lore"] spAsked) (CP : Callee P w K mg base 3 "_law_wide_plain" ["_law_pot", "_law_lore", "_law_known"] spPlain) :
    ∀ j, j ≤ 3 → FnOk P w K mg base CX0 (j + 4) f fd ["_law_pot", "_law_lore", "_law_known", "_law_depth"] (spLBody (4 - j))
  | 0, _ => ok_wide_body (d := 4) (k := 3) F T (by decide) (by decide) (by decide) CT CO CA CP ⟨f, fd, ok_next (fun h => absurd h (by decide)), hmg, hkp, hb⟩
  | j + 1, hj => by
    have ih := ok_wide_bodies F T hmg hkp hb CT CO CA CP j (by omega)
    have e : 4 - j = (4 - (j + 1)) + 1 := by omega
    rw [e] at ih
    exact ok_wide_body (d := 4 - (j + 1)) (k := j + 4) F T (by omega) (by omega) (by omega) CT CO CA CP ⟨f, fd, ok_next (fun _ => ih), hmg, hkp, hb⟩
/-- the body of a part, or of main -/
def ok_wide_body1 {f : Addr} {fd : FuncData} (F : Fun K "_law_wide_body" "_law_wide_body" s_wide_body f fd) (T : Bare mg) (hmg : mg "_law_wide_body" = some (.ref f)) (hkp : PySem.W.keepIn K (.ref f) = true) (hb : Binds K fd ["_law_pot", "_law_lore", "_law_known", "_law_depth"] [])
    (CT : Callee P w K mg base 1 "_law_take" ["_law_pot", "_law_upto"] spTake) (CO : Callee P w K mg base 2 "_law_of" ["_law_pot", "_law_some"] (spOf K)) (CA : Callee P w K mg base 3 "_law_wide_asked" ["_law_pot", "_law_lore"] spAsked) (CP : Callee P w K mg base 3 "_law_wide_plain" ["_law_pot", "_law_lore", "_law_known"] spPlain) :
    Callee P w K mg base 7 "_law_wide_body" ["_law_pot", "_law_lore", "_law_known", "_law_depth"] (spLBody 1) := ⟨f, fd, ok_wide_bodies F T hmg hkp hb CT CO CA CP 3 (by decide), hmg, hkp, hb⟩
end
end Fg
set_option Elab.async false
set_option linter.all false
set_option maxRecDepth 100000
set_option maxHeartbeats 4000000
namespace Fg
open PySem L2 TL
/-! ### _law_wide_lore -/
abbrev s_wide_lore : Stmt := top 28
abbrev sc_wide_loreN : List Str := ["_law_pot", "_law_some", "_law_names", "_law_turn", "_law_lore", "_law_name"]
theorem sc_wide_lore : FnScope sc_wide_loreN ["_law_pot"] (defScope s_wide_lore) := ⟨rfl, rfl, rfl, by decide +kernel, rfl, by decide +kernel, by decide +kernel⟩
theorem erase_map {α β : Type} (f : α → β) : ∀ (l : List α) (k : Nat), (l.map f).eraseIdx k = (l.eraseIdx k).map f
  | [], _ => rfl
  | _ :: _, 0 => rfl
  | x :: r, k + 1 => congrArg (f x :: ·) (erase_map f r k)
theorem erase_perm {α : Type} : ∀ (l : List α) (k : Nat) (h : k < l.length), (l[k] :: l.eraseIdx k).Perm l
  | [], _, h => absurd h (Nat.not_lt_zero _)
  | _ :: _, 0, _ => List.Perm.refl _
  | x :: r, k + 1, h => (List.Perm.swap x _ _).trans ((erase_perm r k (Nat.lt_of_succ_lt_succ h)).cons x)
theorem pairs_snoc {H : Hp} {k : Key} {v : V} {t : Addr} (ht : H t = some (.tup [kV k, v])) {as : List Addr} {kvs : List (Key × V)} (pr : Pairs H as kvs) : Pairs H (as ++ [t]) (kvs ++ [(k, v)]) := by
  unfold Pairs at pr ⊢
  induction pr with
  | nil => exact .cons ht .nil
  | cons h _ ih => exact .cons h ih
theorem cutV_mid (xs : List V) (k : Nat) : cutV xs (some 2) (some (2 + (k : Int))) = (xs.drop 2).take k := by
  unfold cutV
  rw [show (2 : Int) = ((2 : Nat) : Int) from rfl, show ((2 : Nat) : Int) + (k : Int) = ((2 + k : Nat) : Int) by omega, HT.sIx_nat, HT.sIx_nat]
  by_cases h : 2 ≤ xs.length
  · rw [Nat.min_eq_left h]
    by_cases h2 : 2 + k ≤ xs.length
    · rw [Nat.min_eq_left h2, show 2 + k - 2 = k by omega]
    · rw [Nat.min_eq_right (by omega), List.take_of_length_le (by rw [List.length_drop]; omega), List.take_of_length_le (by rw [List.length_drop]; omega)]
  · rw [Nat.min_eq_right (by omega : xs.length ≤ 2 + k), Nat.min_eq_right (by omega : xs.length ≤ 2), List.drop_of_length_le (Nat.le_refl _), List.drop_of_length_le (by omega : xs.length ≤ 2), List.take_nil, List.take_nil]
theorem cutV_to (xs : List V) (k : Nat) : cutV xs none (some (k : Int)) = xs.take k := by
  unfold cutV
  rw [HT.sIx_none, HT.sIx_nat]
  show (xs.drop 0).take _ = _
  rw [List.drop_zero]
  by_cases h : k ≤ xs.length
  · rw [Nat.min_eq_left h] <;> rfl
  · rw [Nat.min_eq_right (by omega), List.take_of_length_le (by omega : xs.length ≤ k)]
    exact List.take_of_length_le (Nat.le_refl _)
def spLore : Sp := fun vs H Q _ => ∃ (p : Addr) (n : Nat), vs = [.ref p] ∧ Pot H p n ∧ n + 20 < 100000 ∧
  ∀ (lo cl pl : Addr) (sy : Str) (ms : NV) (pn : List Str) (H' : Hp), H lo = none → Lore H' p lo cl pl sy ms pn 0 → LoreOk sy ms pn → Pot H' p (n + 10) → But p H H' → Q (.ref lo) H'
section
variable {P : Program} {w : World} {K : PySem.W.Frag} {mg : Str → Option Value} {base : Heap}
theorem ok_wide_lore {f : Addr} {fd : FuncData} (F : Fun K "_law_wide_lore" "_law_wide_lore" s_wide_lore f fd) (T : Bare mg) (CT : Callee P w K mg base 1 "_law_take" ["_law_pot", "_law_upto"] spTake) (CO : Callee P w K mg base 2 "_law_of" ["_law_pot", "_law_some"] (spOf K)) :
    FnOk P w K mg base CX0 3 f fd ["_law_pot"] spLore := by
  refine F.ok sc_wide_lore (fun vs H Q E h => ?_) (fun cdv A outer st H vs Q E hr h => ?_)
  · obtain ⟨p, n, rfl, _⟩ := h
    rfl
  obtain ⟨p, n, rfl, hp, hn, q⟩ := h
  have hu := hu_of hr
  refine ⟨_, (pss_cons (ps_par (i := 1) (j := 2) (by rfl) sc_wide_lore.nd rfl rfl (by decide) rfl rfl (pa_cons (pe_lst (pa_cons pe_str (pa_cons pe_str (pa_cons pe_str (pa_cons pe_str (pa_cons pe_str (pa_cons pe_str (pa_cons pe_str (pa_cons pe_str pa_nil))))))))) (pa_cons (pe_lst pa_nil) pa_nil)) (by rfl))
(pss_cons (ps_for PassesOwn.never rfl (pi_range1 (by rfl) T.range (pa_cons pe_int pa_nil)) (pg_name (i := 3) sc_wide_lore.nd rfl (Or.inl rfl))
(pss_one (ps_expr (pe_bm PySem.F.plainAttrs_list PySem.F.slot_list_append PySem.F.type_list_append mt_append (pv 2) (pa_cons (pe_bm PySem.F.plainAttrs_list PySem.F.slot_list_pop PySem.F.type_list_pop mt_popAt (pv 1) (pa_cons (pe_call CT.ok (hr.mono (by decide)) rfl CT.mg CT.kp CT.b .nil pass0 (pa_cons (pv 0) (pa_cons (pe_callB call_len_seq (by rfl) T.len PySem.boot_len (pa_cons (pv 1) pa_nil)) pa_nil))) pa_nil)) pa_nil)))))
(pss_cons (ps_set (i := 4) sc_wide_lore.nd rfl (Or.inl rfl) (pe_disp (pps_cons pe_str (pe_call CO.ok hr rfl CO.mg CO.kp CO.b .nil pass0 (pa_cons (pv 0) (pa_cons (pe_lst (pa_cons pe_str (pa_cons pe_str (pa_cons pe_str (pa_cons pe_str (pa_cons pe_str (pa_cons pe_str pa_nil))))))) pa_nil))) (pps_cons pe_str pe_int pps_nil)) (by rfl) (by rfl) (fun z => by cases z) (by decide)))
(pss_cons (ps_dput hu (pv 4) pe_str (pe_lc (own := [("_law_name", 5)]) (g := gName 5) rfl sc_wide_lore.nd (pi_list (pe_slice sl_list (pv 2) po_none (po_some (pe_call CT.ok (hr.mono (by decide)) rfl CT.mg CT.kp CT.b .nil pass0 (pa_cons (pv 0) (pa_cons pe_int pa_nil)))))) (blkOk_by (N := sc_wide_loreN) (sc := defScope s_wide_lore) (by decide +kernel)) (fun _ _ _ _ _ => pg_name (i := 5) sc_wide_lore.nd rfl (Or.inl rfl)) (fun _ _ _ _ _ => pts_nil) (fun _ _ _ _ _ => (pe_tup (pa_cons (pv 5) (pa_cons (pe_op op_add pe_int (pe_call CT.ok (hr.mono (by decide)) rfl CT.mg CT.kp CT.b .nil pass0 (pa_cons (pv 0) (pa_cons pe_int pa_nil)))) pa_nil))))) rfl)
(pss_cons (ps_dput hu (pv 4) pe_str (pe_slice sl_list (pv 2) (po_some pe_int) (po_some (pe_op op_add pe_int (pe_call CT.ok (hr.mono (by decide)) rfl CT.mg CT.kp CT.b .nil pass0 (pa_cons (pv 0) (pa_cons pe_int pa_nil)))))) rfl)
(pss_one (ps_ret (pv 4)))))))), ?_⟩
  obtain ⟨o0, b0, c0, hpp, hp'⟩ := id hp.at_
  refine ⟨small (by show 8 ≤ 1000; decide), fun so hso => ⟨small (by show 0 ≤ 1000; decide), fun na hna => ⟨_, _, rfl, ?_⟩⟩⟩
  have nso : so ≠ p := (ne_of_none hpp hso).symm
  have s1 := same_new hso (.lst [.str "n", .str "k", .str "cells", .str "mainly", .str "ab", .str "abcdefgh", .str "rightly", .str "z"])
  have nna : na ≠ p := (ne_of_none (s1 _ _ hpp) hna).symm
  have nsn : so ≠ na := ne_of_none upd_same hna
  have s2 := same_new hna (.lst [])
  have so2 := s2 _ _ (show upd H so (HO.lst [.str "n", .str "k", .str "cells", .str "mainly", .str "ab", .str "abcdefgh", .str "rightly", .str "z"]) so = some (HO.lst [.str "n", .str "k", .str "cells", .str "mainly", .str "ab", .str "abcdefgh", .str "rightly", .str "z"]) from upd_same)
  have na2 : (upd (upd H so (.lst [.str "n", .str "k", .str "cells", .str "mainly", .str "ab", .str "abcdefgh", .str "rightly", .str "z"])) na (.lst [])) na = some (.lst []) := upd_same
  have s12 := s1.trans s2
  generalize (upd (upd H so (.lst [.str "n", .str "k", .str "cells", .str "mainly", .str "ab", .str "abcdefgh", .str "rightly", .str "z"])) na (.lst [])) = H2 at s12 so2 na2 ⊢
  refine ⟨4, rfl, by decide, by decide, for_range (lo := 0) (n := 4) (fun i σ H' => ∃ (xs ys : List Str) (x : Option V), σ = [some (.ref p), some (.ref so), some (.ref na), x, none, none] ∧ H' so = some (.lst (xs.map V.str)) ∧ H' na = some (.lst (ys.map V.str)) ∧ (xs ++ ys).Perm eight ∧ ys.length = i ∧ Pot H' p (n + i) ∧ But p H H') ?_ ?_ ?_⟩
  · exact ⟨eight, [], none, rfl, so2, na2, by rw [List.append_nil], rfl, hp.same s12, But.of_same s12⟩
  · rintro i σ H3 hi ⟨xs, ys, x, rfl, hs3, hn3, pm, hl, hp3, b3⟩
    have hxl : xs.length = 8 - i := by
      have := pm.length_eq
      rw [List.length_append, hl] at this
      have e8 : eight.length = 8 := by decide +kernel
      omega
    refine ⟨_, rfl, .inl ⟨rfl, _, .inl (.inl hn3)⟩, _, rfl, .inl ⟨rfl, _, .inl (.inl hs3)⟩, .ref p, rfl, .ref so, rfl, so, _, rfl, .inl (.inl (.inl hs3)), p, _, n + i, rfl, hp3, by omega, by rw [List.length_map]; omega, by rw [List.length_map]; omega, fun d H4 g0 g1 hp4 b4 => ?_⟩
    rw [List.length_map] at g1
    have hd : d.toNat < xs.length := by omega
    have hs4 := b4 _ _ hs3 nso
    have hn4 := b4 _ _ hn3 nna
    refine ⟨so, _, d, d.toNat, .str xs[d.toNat], rfl, rfl, hs4, by omega, by omega, ?_, ?_, ?_⟩
    · have := seqIndex_of (k := d) (n := (xs.map V.str).length) g0 (by rw [List.length_map]; omega)
      exact this
    · rw [List.getElem?_map, List.getElem?_eq_getElem hd]
      rfl
    refine ⟨na, ys.map V.str, _, rfl, rfl, by rw [upd_ne nsn.symm]; exact hn4, ?_, ?_⟩
    · rw [List.length_map, hl]
      exact Nat.lt_of_lt_of_le (by omega : i < 1000) (small (Nat.le_refl _))
    refine ⟨xs.eraseIdx d.toNat, ys ++ [xs[d.toNat]], _, rfl, ?_, ?_, ?_, ?_, ?_, ?_⟩
    · rw [upd_ne nsn, upd_same, erase_map]
    · rw [upd_same, List.map_append]
      rfl
    · refine List.Perm.trans ?_ pm
      have h1 : (xs[d.toNat] :: xs.eraseIdx d.toNat).Perm xs := erase_perm xs _ hd
      have h2 : (xs.eraseIdx d.toNat ++ (ys ++ [xs[d.toNat]])).Perm (xs[d.toNat] :: (xs.eraseIdx d.toNat ++ ys)) := by
        rw [← List.append_assoc]
        exact List.perm_append_singleton _ _
      exact h2.trans (h1.append_right ys)
    · rw [List.length_append, hl]
      rfl
    · obtain ⟨o, b, c, e, r⟩ := hp4.at_
      exact ⟨o, b, c, by rw [upd_ne nna.symm, upd_ne nso.symm]; exact e, r⟩
    · intro b o h nb
      have := (b3.trans b4) b o h nb
      rw [upd_ne (ne_of_none h (s1.free hna)), upd_ne (ne_of_none h hso)]
      exact this
  rintro σ H3 ⟨xs, ys, x, rfl, hs3, hn3, pm, hl, hp3, b3⟩
  have e8n : eight.Nodup := by decide +kernel
  have ndx : (xs ++ ys).Nodup := pm.nodup_iff.mpr e8n
  have ndy : ys.Nodup := (List.nodup_append.mp ndx).2.1
  have y8 : ∀ z ∈ ys, z ∈ eight := fun z hz => pm.mem_iff.mp (List.mem_append_right _ hz)
  obtain ⟨o3, c3, d3, hpp3, _⟩ := id hp3.at_
  intro lo hlo
  have nlo : lo ≠ p := (ne_of_none hpp3 hlo).symm
  have s4 := same_new hlo (.dK [])
  have lo4 : (upd H3 lo (.dK [])) lo = some (.dK []) := upd_same
  have hlo0 : H lo = none := free_but b3 nlo hlo
  refine ⟨.ref p, rfl, small (by show 6 ≤ 1000; decide), fun sl hsl => ?_⟩
  have nsl : sl ≠ p := (ne_of_none (s4 _ _ hpp3) hsl).symm
  have s5 := same_new hsl (.lst (sixS.map V.str))
  refine ⟨p, sl, sixS.map V.str, n + 4, rfl, (hp3.same s4).same s5, by omega, .inl (.inl upd_same), nsl, (by show 0 < 6; decide), (by show 6 < 1000; decide), fun i v H5 hv hp5 b5 => ?_⟩
  rw [List.getElem?_map] at hv
  obtain ⟨sy, hsy1, rfl⟩ := Option.map_eq_some_iff.mp hv
  have hsy := List.mem_of_getElem? hsy1
  have b35 : But p H3 H5 := ((But.of_same s4).trans (But.of_same s5)).trans b5
  have lo5 : H5 lo = some (.dK []) := b5 _ _ (s5 _ _ lo4) nlo
  refine ⟨lo5, [(Sum.inr ("symbols" : Str), .str sy), (Sum.inr ("left" : Str), .int 0)], rfl, (by show 2 ≤ 15; decide), ?_⟩
  have lo6 : (upd H5 lo (.dK (mergeK [] [(Sum.inr ("symbols" : Str), .str sy), (Sum.inr ("left" : Str), .int 0)]))) lo = some (.dK [(Sum.inr ("symbols" : Str), .str sy), (Sum.inr ("left" : Str), .int 0)]) := upd_same.trans (congrArg (fun l => some (HO.dK l)) (by kernel_rfl))
  have nlna : na ≠ lo := ne_of_none hn3 hlo
  have b06 : But p H (upd H5 lo (.dK (mergeK [] [(Sum.inr ("symbols" : Str), .str sy), (Sum.inr ("left" : Str), .int 0)]))) := fun b o h nb => by
    rw [upd_ne (ne_of_none h hlo0)]
    exact (b3.trans b35) b o h nb
  have na6 : (upd H5 lo (.dK (mergeK [] [(Sum.inr ("symbols" : Str), .str sy), (Sum.inr ("left" : Str), .int 0)]))) na = some (.lst (ys.map V.str)) := by
    rw [upd_ne nlna]
    exact b35 _ _ hn3 nna
  have hp6 : Pot (upd H5 lo (.dK (mergeK [] [(Sum.inr ("symbols" : Str), .str sy), (Sum.inr ("left" : Str), .int 0)]))) p (n + 5) := by
    obtain ⟨o, b, c, e, r⟩ := hp5.at_
    exact ⟨o, b, c, by rw [upd_ne nlo.symm]; exact e, r⟩
  generalize (upd H5 lo (.dK (mergeK [] [(Sum.inr ("symbols" : Str), .str sy), (Sum.inr ("left" : Str), .int 0)]))) = H6 at lo6 b06 na6 hp6 ⊢
  refine ⟨_, rfl, .ref p, rfl, p, 3, n + 5, rfl, hp6, by omega, by decide, by decide, fun d H7 g0 g1 hp7 b7 => ?_⟩
  have na7 := b7 _ _ na6 nna
  have lo7 := b7 _ _ lo6 nlo
  have b07 := b06.trans b7
  refine ⟨d, rfl, na, _, rfl, .inl (.inl na7), fun q1 hq1 => ?_⟩
  have ed : d = ((d.toNat : Nat) : Int) := by omega
  have ecut : cutV (ys.map V.str) none (some d) = (ys.take d.toNat).map V.str := by
    rw [ed, cutV_to, Int.toNat_natCast, List.map_take]
  obtain ⟨o7, c7, d7, hpp7, _⟩ := id hp7.at_
  have nq1 : q1 ≠ p := (ne_of_none hpp7 hq1).symm
  have s8 := same_new hq1 (.lst (cutV (ys.map V.str) none (some d)))
  have q8 : (upd H7 q1 (.lst (cutV (ys.map V.str) none (some d)))) q1 = some (.lst ((ys.take d.toNat).map V.str)) := by rw [upd_same, ecut]
  refine ⟨q1, rfl, ⟨_, .inl (.inl q8)⟩, ?_⟩
  generalize (upd H7 q1 (.lst (cutV (ys.map V.str) none (some d)))) = H8 at s8 q8 ⊢
  have hp8 := hp7.same s8
  have hcl : (ys.take d.toNat).length ≤ 2 := by
    rw [List.length_take]
    omega
  refine fun D hD => lc_it (walk_list (xs := (ys.take d.toNat).map V.str)) (fun i H' => ∃ (as : List Addr) (ms : NV), H' D = some (.lst (as.map V.ref)) ∧ Pairs H' as (kvS ms) ∧ ms.map (·.1) = (ys.take d.toNat).take i ∧ (∀ c ∈ ms, 1 ≤ c.2 ∧ c.2 ≤ 2) ∧ Pot H' p (n + 6 + i) ∧ But p H8 H') ⟨[], [], upd_same, .nil, rfl, fun c h => (by cases h), hp8.same (same_new hD _), But.of_same (same_new hD _)⟩ (fun i H' hi pv => ?_) (fun i x H' H9 hi pv y => ?_) (fun H9 pv => ?_)
  · obtain ⟨as, ms, _, _, _, _, _, h⟩ := pv
    exact h.seq nq1 (.inl (.inl q8))
  · obtain ⟨as, ms, h1, h2, h3, h4, h5, h6⟩ := pv
    obtain ⟨rfl, hx⟩ := y
    rw [List.length_map] at hi
    have nDp : D ≠ p := fun e => by
      obtain ⟨_, _, _, hq, _⟩ := hp8.at_
      rw [e, hq] at hD
      cases hD
    rw [List.getElem?_map] at hx
    obtain ⟨z, hz, rfl⟩ := Option.map_eq_some_iff.mp hx
    refine ⟨rfl, ?_⟩
    simp only [tYes, ↓reduceIte]
    refine ⟨_, rfl, .ref p, rfl, p, 2, n + 6 + i, rfl, h5, by omega, by decide, by decide, fun u H10 u0 u1 hp10 b10 => ?_⟩
    refine ⟨1, u, rfl, rfl, small (by show 2 ≤ 1000; decide), fun t ht => ?_⟩
    have hlen : as.length = i := by
      rw [pairs_len h2]
      have := congrArg List.length h3
      rw [List.length_map, List.length_take] at this
      omega
    have D10 := b10 _ _ h1 nDp
    have nDt : D ≠ t := ne_of_none D10 ht
    obtain ⟨o9, c9, d9, hpp9, _⟩ := id h5.at_
    have pr10 : Pairs H10 as (kvS ms) := pairs_by h2 fun a xs h => b10 _ _ h (ne_of h hpp9 (by intro e; cases e))
    have hD9 : ∀ a xs, H10 a = some (.tup xs) → a ≠ D := fun a xs h => ne_of h D10 (by intro e; cases e)
    refine ⟨as.map V.ref, by rw [upd_ne nDt]; exact D10, ?_, as ++ [t], ms ++ [(z, (1 + u).toNat)], ?_, ?_, ?_, ?_, ?_, ?_⟩
    · rw [List.length_map, hlen]
      exact Nat.lt_of_lt_of_le (by omega : i < 1000) (small (Nat.le_refl _))
    · rw [upd_same, List.map_append]
      rfl
    · have pr11 : Pairs (upd (upd H10 t (.tup [.str z, .int (1 + u)])) D (.lst (as.map V.ref ++ [V.ref t]))) as (kvS ms) := pairs_by pr10 fun a xs h => by
        rw [upd_ne (hD9 a xs h), upd_ne (ne_of_none h ht)]
        exact h
      have := pairs_snoc (H := upd (upd H10 t (.tup [.str z, .int (1 + u)])) D (.lst (as.map V.ref ++ [V.ref t]))) (k := Sum.inr z) (v := .int (((1 + u).toNat : Nat) : Int)) (t := t) (by
        rw [upd_ne nDt.symm, upd_same, Int.toNat_of_nonneg (by omega)]
        rfl) pr11
      rw [kvS_snoc] at this
      exact this
    · rw [List.map_append, h3, List.take_add_one, hz]
      rfl
    · intro c hc
      rcases List.mem_append.mp hc with hc | hc
      · exact h4 c hc
      · have := List.mem_singleton.mp hc
        subst this
        exact ⟨by show 1 ≤ (1 + u).toNat; omega, by show (1 + u).toNat ≤ 2; omega⟩
    · obtain ⟨o, b, c, e, r⟩ := hp10.at_
      have npt : p ≠ t := ne_of_none e ht
      exact ⟨o, b, c, by rw [upd_ne nDp.symm, upd_ne npt]; exact e, r⟩
    · intro b o h nb
      have h9 := (h6.trans b10) b o h nb
      rw [upd_ne (ne_of_none h hD), upd_ne (ne_of_none h9 ht)]
      exact h9
  obtain ⟨as, ms, h1, h2, h3, h4, h5, h6⟩ := pv
  rw [List.length_map] at h3 h5
  rw [List.take_length] at h3
  have hml : ms.length ≤ 2 := by
    have := congrArg List.length h3
    rw [List.length_map] at this
    omega
  have nDp : D ≠ p := fun e => by
    obtain ⟨_, _, _, hq, _⟩ := hp8.at_
    rw [e, hq] at hD
    cases hD
  have lo9 := h6 _ _ (s8 _ _ lo7) nlo
  have na9 := h6 _ _ (s8 _ _ na7) nna
  have b09 : But p H H9 := (b07.trans (But.of_same s8)).trans h6
  have nDlo : D ≠ lo := ne_of h1 lo9 (by intro e; cases e)
  have two : (2 : Nat) < sizeLine := Nat.lt_of_lt_of_le (by decide : 2 < 1000) (small (Nat.le_refl _))
  refine ⟨_, rfl, lo, _, rfl, DPut.k (k := Sum.inr ("cells" : Str)) lo9 two, ?_⟩
  have loA : (upd H9 lo (.dK (putK [(Sum.inr ("symbols" : Str), .str sy), (Sum.inr ("left" : Str), .int 0)] (Sum.inr ("cells" : Str)) (.ref D)))) lo = some (.dK [(Sum.inr ("symbols" : Str), .str sy), (Sum.inr ("left" : Str), .int 0), (Sum.inr ("cells" : Str), .ref D)]) := upd_same.trans (congrArg (fun l => some (HO.dK l)) (by kernel_rfl))
  have keepA : ∀ b o, H9 b = some o → b ≠ lo → (upd H9 lo (.dK (putK [(Sum.inr ("symbols" : Str), .str sy), (Sum.inr ("left" : Str), .int 0)] (Sum.inr ("cells" : Str)) (.ref D)))) b = some o := fun b o h n => by rw [upd_ne n]; exact h
  generalize (upd H9 lo (.dK (putK [(Sum.inr ("symbols" : Str), .str sy), (Sum.inr ("left" : Str), .int 0)] (Sum.inr ("cells" : Str)) (.ref D)))) = HA at loA keepA ⊢
  have hpA : Pot HA p (n + 8) := by
    obtain ⟨o, b, c, e, r0, r1, r2, r3, r4⟩ := h5.at_
    exact ⟨o, b, c, keepA _ _ e nlo.symm, r0, r1, r2, r3, by omega⟩
  have naA := keepA _ _ na9 nlna
  refine ⟨_, rfl, 2, rfl, .ref p, rfl, p, 3, n + 8, rfl, hpA, by omega, by decide, by decide, fun e HB e0 e1 hpB bB => ?_⟩
  have naB := bB _ _ naA nna
  refine ⟨2, e, rfl, rfl, 2 + e, rfl, na, _, rfl, .inl (.inl naB), fun q2 hq2 => ?_⟩
  have ee : e = ((e.toNat : Nat) : Int) := by omega
  have ecut2 : cutV (ys.map V.str) (some 2) (some (2 + e)) = ((ys.drop 2).take e.toNat).map V.str := by
    rw [ee, cutV_mid, Int.toNat_natCast, List.map_take, List.map_drop]
  have loB := bB _ _ loA nlo
  have nqlo : lo ≠ q2 := ne_of_none loB hq2
  have three : (3 : Nat) < sizeLine := Nat.lt_of_lt_of_le (by decide : 3 < 1000) (small (Nat.le_refl _))
  have loC := same_new hq2 (.lst (cutV (ys.map V.str) (some 2) (some (2 + e)))) _ _ loB
  have q2C : (upd HB q2 (.lst (cutV (ys.map V.str) (some 2) (some (2 + e))))) q2 = some (.lst (((ys.drop 2).take e.toNat).map V.str)) := by rw [upd_same, ecut2]
  have sC := same_new hq2 (.lst (cutV (ys.map V.str) (some 2) (some (2 + e))))
  obtain ⟨oB, cB, dB, hppB, _⟩ := id hpB.at_
  have nq2 : q2 ≠ p := (ne_of_none hppB hq2).symm
  refine ⟨_, rfl, lo, _, rfl, DPut.k (k := Sum.inr ("parts" : Str)) loC three, ?_⟩
  have keepB : ∀ b o, HA b = some o → b ≠ p → b ≠ lo → (upd (upd HB q2 (.lst (cutV (ys.map V.str) (some 2) (some (2 + e))))) lo (.dK (putK [(Sum.inr ("symbols" : Str), .str sy), (Sum.inr ("left" : Str), .int 0), (Sum.inr ("cells" : Str), .ref D)] (Sum.inr ("parts" : Str)) (.ref q2)))) b = some o := fun b o h n n2 => by
    rw [upd_ne n2]
    exact sC _ _ (bB _ _ h n)
  refine ⟨_, rfl, q lo D q2 sy ms ((ys.drop 2).take e.toNat) _ hlo0 ⟨upd_same.trans (congrArg (fun l => some (HO.dK l)) (by kernel_rfl)), ⟨as, ?_, ?_⟩, ?_, nDp, nq2⟩ ?_ ?_ ?_⟩
  · exact keepB _ _ (keepA _ _ h1 nDlo) nDp nDlo
  · exact pairs_by h2 fun a xs h => keepB _ _ (keepA _ _ h (ne_of h lo9 (by intro e; cases e))) (by
      obtain ⟨_, _, _, hq, _⟩ := h5.at_
      exact ne_of h hq (by intro e; cases e)) (ne_of h lo9 (by intro e; cases e))
  · rw [upd_ne nqlo.symm]
    exact q2C
  · have sub : (ys.take d.toNat ++ (ys.drop 2).take e.toNat).Sublist ys := by
      have hh : (ys.take d.toNat).Sublist (ys.take 2) := by
        have : ys.take d.toNat = (ys.take 2).take d.toNat := by rw [List.take_take, Nat.min_eq_left (by omega)]
        rw [this]
        exact List.take_sublist _ _
      have := hh.append (List.take_sublist e.toNat (ys.drop 2))
      rw [List.take_append_drop] at this
      exact this
    refine ⟨hsy, hml, h4, ?_, ?_, ?_⟩
    · rw [List.length_take]
      omega
    · rw [h3]
      exact fun z hz => y8 z (sub.subset hz)
    · rw [h3]
      exact sub.nodup ndy
  · obtain ⟨o, b, c, h, r0, r1, r2, r3, r4⟩ := hpB.at_
    exact ⟨o, b, c, by rw [upd_ne nlo.symm]; exact sC _ _ h, r0, r1, r2, r3, by omega⟩
  · intro b o h nb
    have hbl : b ≠ lo := ne_of_none h hlo0
    exact keepB _ _ (keepA _ _ (b09 _ _ h nb) hbl) nb hbl
end
end Fg
set_option Elab.async false
set_option linter.all false
set_option maxRecDepth 100000
set_option maxHeartbeats 4000000
namespace Fg
open PySem L2 TL
/-! ### Program.__eq__ -/
abbrev s_Program_eq : Stmt := inClass (top 22) 1
abbrev sc_Program_eqN : List Str := ["self", "other"]
theorem sc_Program_eq : FnScope sc_Program_eqN ["self", "other"] (defScope s_Program_eq) := ⟨rfl, rfl, rfl, by decide +kernel, rfl, by decide +kernel, by decide +kernel⟩
/-- two programs of the same text -/
def SameText (CP : Addr) : Addr → Addr → Hp → Prop := fun a b H => ∃ (dx dy : Addr) (z : Str) (fs gs : List (Str × V)), H a = some (.ins CP dx fs) ∧ H b = some (.ins CP dy gs) ∧ fs.lookup ("text" : Str) = some (.str z) ∧ gs.lookup ("text" : Str) = some (.str z)
/-- what isinstance asks of the class -/
structure IsTxt (K : PySem.W.Frag) (C : Addr) : Prop where
  ha : PySem.W.findIn K (.ref C) "__class__" = some (some (.builtin "object.__class__"))
  hn : PySem.W.specialIn K (.builtin "object.__class__") "__get__" = some (some (.builtin "getset_descriptor.__get__"))
  htk : PySem.W.takesIn K (.builtin "object.__class__") = some true
  hm : PySem.W.mroIn K C (.type "object") = some true
section
variable {P : Program} {w : World} {K : PySem.W.Frag} {mg : Str → Option Value} {base : Heap}
theorem ok_program_eq {f CP : Addr} {fd : FuncData} (F : Fun K "__eq__" "Program.__eq__" s_Program_eq f fd) (TG : GTxt K CP) (TI : IsTxt K CP) (hisi : mg "isinstance" = none) (hP : mg "Program" = some (.ref CP)) : FnOk P w K mg base CX0 1 f fd ["self", "other"] (spEq (SameText CP)) := by
  refine F.ok sc_Program_eq (fun vs H Q E h => ?_) (fun cdv A outer st H vs Q E hr h => ?_)
  · obtain ⟨a, b, rfl, _⟩ := h
    rfl
  obtain ⟨a, b, rfl, ⟨dx, dy, z, fs, gs, ha, hb, e1, e2⟩, q⟩ := h
  refine ⟨_, (pss_one (ps_ret (pe_and (pe_callB call_isi (by rfl) hisi (by decide +kernel) (pa_cons (pv 1) (pa_cons (pe_glob (v := .ref CP) (by rfl) hP rfl) pa_nil))) (pe_one (pe_cmpR op_eq (pe_fld (pv 0) rfl) (pe_fld (pv 1) rfl) (nomark _)))))), ?_⟩
  refine ⟨_, rfl, .ref b, .ref CP, .ref CP, .ref CP, true, rfl, .own CP, .base (.ins hb TG.cl TI.ha TI.hn TI.htk TI.hm), ?_, true, rfl, iteT ?_⟩
  · unfold PySem.W.kitOne
    rw [if_pos (beq_self_eq_true _)]
  refine ⟨_, rfl, a, CP, dx, _, _, rfl, ha, TG.cl, TG.nText, e1, _, rfl, b, CP, dy, _, _, rfl, hb, TG.cl, TG.nText, e2, rfl, ?_⟩
  rw [decide_eq_true rfl]
  exact q _ Ext.rfl'
end
end Fg
set_option Elab.async false
set_option linter.all false
set_option maxRecDepth 100000
set_option maxHeartbeats 4000000
namespace Fg
open PySem L2 TL
/-! ### _law_grown -/
abbrev s_grown : Stmt := top 32
abbrev sc_grownN : List Str := ["_law_pot", "_law_lore", "_law_found", "_law_number", "_law_name", "_law_most"]
theorem sc_grown : FnScope sc_grownN ["_law_pot", "_law_lore"] (defScope s_grown) := ⟨rfl, rfl, rfl, by decide +kernel, rfl, by decide +kernel, by decide +kernel⟩
theorem But2.trans {p lo : Addr} {H H1 H2 : Hp} (a : But2 p lo H H1) (b : But2 p lo H1 H2) : But2 p lo H H2 := fun c o h n m => b c o (a c o h n m) n m
theorem But2.of_same {p lo : Addr} {H H' : Hp} (s : Same H H') : But2 p lo H H' := fun b o h _ _ => s b o h
theorem But2.of_but {p lo : Addr} {H H' : Hp} (s : But p H H') : But2 p lo H H' := fun b o h n _ => s b o h n
theorem But2.refl (p lo : Addr) (H : Hp) : But2 p lo H H := fun _ _ h _ _ => h
theorem But2.upd {p lo : Addr} {H : Hp} {o : HO} : But2 p lo H (L2.upd H lo o) := fun b u q _ n => by rw [upd_ne n]; exact q
/-- the parts that are done: bodies that stand, with the ones before them known -/
structure DoneOk (sy : Str) (ms : NV) (pn : List Str) (i : Nat) (done : List PartR) : Prop where
  nm : done.map (·.1) = pn.take i
  bod : ∀ (d : List PartR) (q : PartR) (rest : List PartR), done = d ++ q :: rest → ∀ ss : NV, ss.map (·.1) = d.map (·.1) → Bod sy ms ss 1 q.2.1 q.2.2
  rows : RowsOk (prefRows sy ms done)
  len : (prefRows sy ms done).length ≤ 3 + 11 * i
  tot : (done.map (·.2.2)).sum ≤ 5 * i
theorem pref_snoc {sy : Str} {ms : NV} {done : List PartR} {q : PartR} : prefRows sy ms (done ++ [q]) = prefRows sy ms done ++ partRows q := by
  unfold prefRows
  simp only [List.map_append, List.flatten_append, List.map_cons, List.map_nil, List.flatten_cons, List.flatten_nil, List.append_nil, List.cons_append, List.append_assoc]
theorem snoc_split {α : Type} {done d rest : List α} {q x : α} (h : done ++ [x] = d ++ q :: rest) : (rest = [] ∧ d = done ∧ q = x) ∨ ∃ r, rest = r ++ [x] ∧ done = d ++ q :: r := by
  rcases List.eq_nil_or_concat rest with e | ⟨r, y, e⟩
  · subst e
    have := List.append_inj' h rfl
    simp at this
    exact .inl ⟨rfl, this.1.symm, this.2.symm⟩
  · rw [List.concat_eq_append] at e
    subst e
    have h' : done ++ [x] = (d ++ q :: r) ++ [y] := by rw [h]; simp
    have := List.append_inj' h' rfl
    simp at this
    exact .inr ⟨r, by rw [this.2], this.1⟩
theorem DoneOk.more {sy : Str} {ms : NV} {pn : List Str} {i : Nat} {done : List PartR} (D : DoneOk sy ms pn i done) {z : Str} {rs : List Row} {m : Nat} (hz : pn[i]? = some z) (hb : ∀ ss : NV, ss.map (·.1) = pn.take i → Bod sy ms ss 1 rs m) (hr : RowsOk ((0, [("part" : Str), z]) :: rs)) (hl : rs.length ≤ 10) (hm : m ≤ 5) :
    DoneOk sy ms pn (i + 1) (done ++ [(z, rs, m)]) := by
  refine ⟨?_, fun d q rest e ss hs => ?_, ?_, ?_, ?_⟩
  · rw [List.map_append, D.nm, List.take_add_one, hz]
    rfl
  · rcases snoc_split e with ⟨_, h2, h3⟩ | ⟨r, _, h2⟩
    · subst h2 h3
      exact hb ss (by rw [hs, D.nm])
    · exact D.bod d q r h2 ss hs
  · rw [pref_snoc]
    exact D.rows.append hr
  · rw [pref_snoc, List.length_append]
    have := D.len
    show _ + (rs.length + 1) ≤ _
    omega
  · rw [List.map_append, List.sum_append]
    have := D.tot
    show _ + (m + 0) ≤ _
    omega
theorem sym_row {sy : Str} (h : sy ∈ sixS) : RowsOk [symRow sy] := by
  have : ∀ sy ∈ sixS, (!([("symbols" : Str), sy] : List Str).isEmpty && ([("symbols" : Str), sy] : List Str).all fun x => decide (tl x ≠ []) && decide (32 ∉ tl x) && (PyData.strOk x && noSp x)) = true ∧ (Txt.join blank [("symbols" : Str), sy]).length ≤ 50 ∧ 10 ∉ tl (Txt.join blank [("symbols" : Str), sy]) := by decide +kernel
  obtain ⟨h1, h2, h3⟩ := this sy h
  exact row_ok (by decide) (good_of h1) h2 h3
theorem main_row : RowsOk [mainRow] := row_ok (by decide) (good_of (by decide +kernel)) (by decide +kernel) (by decide +kernel)
theorem part_row {z : Str} (h : z ∈ eight) : RowsOk [(0, [("part" : Str), z])] := by
  have : ∀ z ∈ eight, (!([("part" : Str), z] : List Str).isEmpty && ([("part" : Str), z] : List Str).all fun x => decide (tl x ≠ []) && decide (32 ∉ tl x) && (PyData.strOk x && noSp x)) = true ∧ (Txt.join blank [("part" : Str), z]).length ≤ 50 ∧ 10 ∉ tl (Txt.join blank [("part" : Str), z]) := by decide +kernel
  obtain ⟨h1, h2, h3⟩ := this z h
  exact row_ok (by decide) (good_of h1) h2 h3
theorem cell_row {c : Str × Nat} (h : c.1 ∈ eight) (h1 : 1 ≤ c.2) (h2 : c.2 ≤ 2) : RowsOk [cellRow c] := by
  have : ∀ z ∈ eight, ∀ v ∈ [1, 2], (!([("cell" : Str), z, numS v] : List Str).isEmpty && ([("cell" : Str), z, numS v] : List Str).all fun x => decide (tl x ≠ []) && decide (32 ∉ tl x) && (PyData.strOk x && noSp x)) = true ∧ (Txt.join blank [("cell" : Str), z, numS v]).length ≤ 50 ∧ 10 ∉ tl (Txt.join blank [("cell" : Str), z, numS v]) := by decide +kernel
  have hv : c.2 ∈ [1, 2] := by
    have : c.2 = 1 ∨ c.2 = 2 := by omega
    simpa using this
  obtain ⟨h3, h4, h5⟩ := this c.1 h c.2 hv
  exact row_ok (by decide) (good_of h3) h4 h5
theorem cells_rows {ms : NV} (h : ∀ c ∈ ms, c.1 ∈ eight ∧ 1 ≤ c.2 ∧ c.2 ≤ 2) : RowsOk (ms.map cellRow) := fun r hr => by
  obtain ⟨c, hc, rfl⟩ := List.mem_map.mp hr
  obtain ⟨h1, h2, h3⟩ := h c hc
  exact cell_row h1 h2 h3 _ (List.mem_singleton.mpr rfl)
theorem six_more : ∀ sy ∈ sixS, 2 ≤ sy.length ∧ sy.length ≤ 4 ∧ (places sy alpha).Pairwise (· < ·) ∧ ∀ x ∈ places sy alpha, 0 ≤ x := by decide +kernel
theorem lineOf_flat {d : Nat} (h : d = 0) (ws : List Str) : lineOf (d, ws) = Txt.join blank ws := by
  subst h
  unfold lineOf
  exact ext_tl (by rw [tl_append, tl_ind]; rfl)
theorem cell_line {c : Str × Nat} : ((("cell " : Str) ++ c.1) ++ (" " : Str)) ++ numS c.2 = lineOf (cellRow c) := by
  unfold cellRow
  rw [lineOf_flat rfl]
  exact w3 (a := "cell") (by decide +kernel)
theorem part_line {z : Str} : ("part " : Str) ++ z = lineOf (0, [("part" : Str), z]) := by
  rw [lineOf_flat rfl]
  exact w2 (a := "part") (by decide +kernel)
theorem sym_line {z : Str} : ("symbols " : Str) ++ z = lineOf (symRow z) := by
  unfold symRow
  rw [lineOf_flat rfl]
  exact w2 (a := "symbols") (by decide +kernel)
theorem main_line : ("main" : Str) = lineOf mainRow := by decide +kernel
theorem RowsOk.good {rows : List Row} (h : RowsOk rows) : Good rows := fun r hr => (h r hr).1
theorem join_len (rows : List Row) (h : RowsOk rows) : (Txt.join nl (rows.map lineOf)).length ≤ 61 * rows.length := by
  rw [len_tl, join_eq, tl_join, tl_nl]
  have key : ∀ rs : List Row, RowsOk rs → (joinL [10] ((rs.map lineOf).map tl)).length ≤ 61 * rs.length := by
    intro rs
    induction rs with
    | nil => intro _; exact Nat.le_refl _
    | cons a r ih =>
      intro hr
      have h1 := (hr a List.mem_cons_self).2.1
      rw [len_tl] at h1
      have h2 := ih fun x hx => hr x (List.mem_cons_of_mem _ hx)
      cases r with
      | nil =>
        show (tl (lineOf a)).length ≤ 61 * 1
        omega
      | cons b t =>
        show (tl (lineOf a) ++ ([10] ++ joinL [10] (((b :: t).map lineOf).map tl))).length ≤ 61 * ((b :: t).length + 1)
        rw [List.length_append, List.length_append]
        simp only [List.length_cons, List.length_nil] at h2 ⊢
        omega
  exact key rows h
/-- the whole program's text -/
theorem text_of {sy : Str} {ms : NV} {pn : List Str} {done : List PartR} {ma : List Row} {nm : Nat} (LO : LoreOk sy ms pn) (D : DoneOk sy ms pn pn.length done) (hma : RowsOk (mainRow :: ma)) (hb : ∀ ss : NV, ss.map (·.1) = pn → Bod sy ms ss 1 ma nm) (hl : ma.length ≤ 2 * nm) (hn : nm ≤ 20 - 5 * pn.length) :
    TextOk sy ms done ma nm (prefRows sy ms done ++ mainRow :: ma) (Txt.join nl ((prefRows sy ms done ++ mainRow :: ma).map lineOf)) := by
  have enm : done.map (·.1) = pn := by rw [D.nm, List.take_length]
  have hro : RowsOk (prefRows sy ms done ++ mainRow :: ma) := D.rows.append hma
  have hp := LO.p2
  have hlen : (prefRows sy ms done ++ mainRow :: ma).length ≤ 70 := by
    have := D.len
    rw [List.length_append, List.length_cons]
    omega
  obtain ⟨y1, y2, y3, y4⟩ := six_more sy LO.sy
  refine ⟨⟨rfl, hro.good, y1, y2, ⟨y3, y4⟩, LO.m2, LO.mv, ?_, ?_, ?_, D.bod, fun ss e => hb ss (by rw [e, enm]), ?_⟩, rfl, ?_, by omega, fun r hr => ?_, fun r hr => (hro r hr).2.2⟩
  · have := congrArg List.length enm
    rw [List.length_map] at this
    omega
  · rw [enm]
    intro z hz
    obtain ⟨_, _, _, h1, h2, h3⟩ := eight_ok z (LO.names z hz)
    exact ⟨h1, h2, h3⟩
  · rw [enm]
    exact LO.nd
  · have := D.tot
    omega
  · have := join_len _ hro
    omega
  · have := (hro r hr).2.1
    omega
def spGrown : Sp := fun vs H Q _ => ∃ (p lo cl pl : Addr) (n left : Nat) (sy : Str) (ms : NV) (pn : List Str), vs = [.ref p, .ref lo] ∧ Pot H p n ∧ n + 2000 < 100000 ∧ Lore H p lo cl pl sy ms pn left ∧ LoreOk sy ms pn ∧
  ∀ (g : Addr) (ps : List PartR) (ma : List Row) (nm : Nat) (rows : List Row) (left' : Nat) (H' : Hp), ps.map (·.1) = pn → TextOk sy ms ps ma nm rows (Txt.join nl (rows.map lineOf)) → RowsOk rows → rows.length ≤ 70 → H' g = some (.lst ((rows.map lineOf).map V.str)) → Pot H' p (n + 1000) → Lore H' p lo cl pl sy ms pn left' → But2 p lo H H' → Q (.ref g) H'
section
variable {P : Program} {w : World} {K : PySem.W.Frag} {mg : Str → Option Value} {base : Heap}
theorem ok_grown {f : Addr} {fd : FuncData} (F : Fun K "_law_grown" "_law_grown" s_grown f fd) (T : Bare mg) (hen : mg "enumerate" = none) (CB : Callee P w K mg base 7 "_law_wide_body" ["_law_pot", "_law_lore", "_law_known", "_law_depth"] (spLBody 1)) :
    FnOk P w K mg base CX0 8 f fd ["_law_pot", "_law_lore"] spGrown := by
  refine F.ok sc_grown (fun vs H Q E h => ?_) (fun cdv A outer st H vs Q E hr h => ?_)
  · obtain ⟨p, lo, cl, pl, n, left, sy, ms, pn, rfl, _⟩ := h
    rfl
  obtain ⟨p, lo, cl, pl, n, left, sy, ms, pn, rfl, hp, hn, L, LO, q⟩ := h
  have hu := hu_of hr
  refine ⟨_, (pss_cons (ps_set (i := 2) sc_grown.nd rfl (Or.inl rfl) (pe_op op_cat (pe_lst (pa_cons (pe_op op_add_str pe_str (pe_dget hu (pv 1) pe_str (fun _ _ => rfl))) pa_nil)) (pe_lc (own := [("_law_name", 4), ("_law_most", 5)]) (g := gTup K 2 (gCons (gName 4) (gCons (gName 5) gNil))) rfl sc_grown.nd (pi_list (pe_dget hu (pv 1) pe_str (fun _ _ => rfl))) (blkOk_by (N := sc_grownN) (sc := defScope s_grown) (by decide +kernel)) (fun _ _ _ _ _ => pg_tup (by rfl) (pgs_cons (pg_name (i := 4) sc_grown.nd rfl (Or.inl rfl)) (pgs_cons (pg_name (i := 5) sc_grown.nd rfl (Or.inl rfl)) pgs_nil))) (fun _ _ _ _ _ => pts_nil) (fun _ _ _ _ _ => (pe_op op_add_str (pe_op op_add_str (pe_op op_add_str pe_str (pv 4)) pe_str) (pe_callTy call_str_int (by rfl) T.str (by decide +kernel) (pa_cons (pv 5) pa_nil)))))))
(pss_cons (ps_for PassesOwn.never rfl (pi_enum (by rfl) hen (pa_cons (pe_dget hu (pv 1) pe_str (fun _ _ => rfl)) pa_nil)) (pg_tup (by rfl) (pgs_cons (pg_name (i := 3) sc_grown.nd rfl (Or.inl rfl)) (pgs_cons (pg_name (i := 4) sc_grown.nd rfl (Or.inl rfl)) pgs_nil)))
(pss_cons (ps_dput hu (pv 1) pe_str pe_int rfl)
(pss_one (ps_set (i := 2) sc_grown.nd rfl (Or.inl rfl) (pe_op op_cat (pe_op op_cat (pv 2) (pe_lst (pa_cons (pe_op op_add_str pe_str (pv 4)) pa_nil))) (pe_call CB.ok hr rfl CB.mg CB.kp CB.b .nil pass0 (pa_cons (pv 0) (pa_cons (pv 1) (pa_cons (pe_slice sl_list (pe_dget hu (pv 1) pe_str (fun _ _ => rfl)) po_none (po_some (pv 3))) (pa_cons pe_int pa_nil))))))))))
(pss_cons (ps_dput hu (pv 1) pe_str (pe_op op_sub pe_int (pe_op op_mul pe_int (pe_callB call_len_seq (by rfl) T.len PySem.boot_len (pa_cons (pe_dget hu (pv 1) pe_str (fun _ _ => rfl)) pa_nil)))) rfl)
(pss_one (ps_ret (pe_op op_cat (pe_op op_cat (pv 2) (pe_lst (pa_cons pe_str pa_nil))) (pe_call CB.ok hr rfl CB.mg CB.kp CB.b .nil pass0 (pa_cons (pv 0) (pa_cons (pv 1) (pa_cons (pe_dget hu (pv 1) pe_str (fun _ _ => rfl)) (pa_cons pe_int pa_nil))))))))))), ?_⟩
  obtain ⟨o0, b0, c0, hpp, hp'⟩ := id hp.at_
  have nlp : lo ≠ p := ne_of L.at_ hpp (by intro z; cases z)
  have big4 : 4 < sizeLine := Nat.lt_of_lt_of_le (by decide : 4 < 1000) (small (Nat.le_refl _))
  obtain ⟨hsy2, hsy4, _⟩ := six_more sy LO.sy
  have lS : ("symbols " : Str).length = 8 := by decide +kernel
  have lC : ("cell " : Str).length = 5 := by decide +kernel
  have lP : ("part " : Str).length = 5 := by decide +kernel
  have lB : (" " : Str).length = 1 := by decide +kernel
  have ms8 : ∀ c ∈ ms, c.1 ∈ eight ∧ 1 ≤ c.2 ∧ c.2 ≤ 2 := fun c hc => ⟨LO.names _ (List.mem_append_left _ (List.mem_map.mpr ⟨c, hc, rfl⟩)), LO.mv c hc⟩
  have pn8 : ∀ z ∈ pn, z ∈ eight := fun z hz => LO.names _ (List.mem_append_right _ hz)
  -- the row of symbols
  refine ⟨.ref lo, rfl, lo, .str sy, rfl, L.gSymbols, _, _, rfl, rfl, small (by omega), small (by show 1 ≤ 1000; decide), fun A hA => ?_⟩
  have sA := same_new hA (.lst [V.str (("symbols " : Str) ++ sy)])
  have A1 : (upd H A (.lst [V.str (("symbols " : Str) ++ sy)])) A = some (.lst [V.str (("symbols " : Str) ++ sy)]) := upd_same
  generalize upd H A (.lst [V.str (("symbols " : Str) ++ sy)]) = H1 at sA A1 ⊢
  have L1 := L.same sA
  obtain ⟨as, hcl, hpr⟩ := L1.cs
  -- the rows of the cells
  refine ⟨.ref lo, rfl, lo, .ref cl, rfl, L1.gCells, cl, rfl, ⟨_, .inl (.inl hcl)⟩, fun D hD => lc_it (walk_list (xs := as.map V.ref)) (fun i H' => H' = upd H1 D (.lst (((((ms.map cellRow).map lineOf).take i).map V.str)))) rfl (fun i H' hi pv => ?_) (fun i x H' H2 hi pv y => ?_) (fun H2 pv => ?_)⟩
  · subst pv
    exact sqL_same (same_new hD _) (.inl (.inl hcl))
  · subst pv
    obtain ⟨rfl, hx⟩ := y
    rw [List.getElem?_map] at hx
    obtain ⟨t, ht, rfl⟩ := Option.map_eq_some_iff.mp hx
    obtain ⟨c, hc, ht3⟩ := pairs_get hpr ht
    obtain ⟨c8, c1, c2⟩ := ms8 c (List.mem_of_getElem? hc)
    have l8 := (eight_ok _ c8).2.2.2.1
    refine ⟨t, _, rfl, .inl (.inl (same_new hD _ _ _ ht3)), rfl, _, _, rfl, _, _, rfl, rfl, rfl, ?_⟩
    simp only [tYes, ↓reduceIte]
    have hv : c.2 = 1 ∨ c.2 = 2 := by omega
    have ln : (numS c.2).length = 1 := by rcases hv with e | e <;> rw [e] <;> decide +kernel
    refine ⟨_, rfl, _, _, rfl, rfl, small (by omega), _, _, rfl, rfl, small (by rw [len_app]; omega), _, rfl, (c.2 : Int), rfl, by rcases hv with e | e <;> rw [e] <;> decide, _, _, rfl, rfl, small (by rw [len_app, len_app]; show _ + (numS c.2).length ≤ 1000; omega), ?_⟩
    refine ⟨_, upd_same, ?_, ?_⟩
    · rw [List.length_map, List.length_take]
      have := LO.m2
      exact Nat.lt_of_lt_of_le (by rw [List.length_map, List.length_map]; omega : _ < 1000) (small (Nat.le_refl _))
    · show upd (upd H1 D _) D (.lst (_ ++ [V.str (((("cell " : Str) ++ c.1) ++ (" " : Str)) ++ numS c.2)])) = _
      rw [upd_upd, List.take_add_one, List.getElem?_map, List.getElem?_map, hc, List.map_append, cell_line]
      rfl
  subst pv
  have elen : (as.map V.ref).length = ((ms.map cellRow).map lineOf).length := by rw [List.length_map, pairs_len hpr, List.length_map, List.length_map]
  rw [elen, List.take_length]
  have sD := same_new hD (.lst (((ms.map cellRow).map lineOf).map V.str))
  refine ⟨A, D, _, _, rfl, rfl, sD _ _ A1, upd_same, ?_, fun l0 hl0 => ?_⟩
  · rw [List.length_map, List.length_map, List.length_map]
    have := LO.m2
    exact small (by show 1 + ms.length ≤ 1000; omega)
  have sl0 := same_new hl0 (.lst ([V.str (("symbols " : Str) ++ sy)] ++ ((ms.map cellRow).map lineOf).map V.str))
  have e0 : [V.str (("symbols " : Str) ++ sy)] ++ ((ms.map cellRow).map lineOf).map V.str = ((prefRows sy ms []).map lineOf).map V.str := by
    unfold prefRows
    rw [sym_line]
    simp
  have l00 : (upd (upd H1 D (.lst (((ms.map cellRow).map lineOf).map V.str))) l0 (.lst ([V.str (("symbols " : Str) ++ sy)] ++ ((ms.map cellRow).map lineOf).map V.str))) l0 = some (.lst (((prefRows sy ms []).map lineOf).map V.str)) := by rw [upd_same, e0]
  have s03 : Same H (upd (upd H1 D (.lst (((ms.map cellRow).map lineOf).map V.str))) l0 (.lst ([V.str (("symbols " : Str) ++ sy)] ++ ((ms.map cellRow).map lineOf).map V.str))) := (sA.trans sD).trans sl0
  have hl0H : H l0 = none := (sA.trans sD).free hl0
  generalize (upd (upd H1 D (.lst (((ms.map cellRow).map lineOf).map V.str))) l0 (.lst ([V.str (("symbols " : Str) ++ sy)] ++ ((ms.map cellRow).map lineOf).map V.str))) = H3 at l00 s03 ⊢
  have L3 := L.same s03
  -- the parts
  refine ⟨.ref lo, rfl, lo, .ref pl, rfl, L3.gParts, pl, _, rfl, .inl (.inl L3.ps), for_it (walk_enum (xs := pn.map V.str)) (fun i σ H' => ∃ (fl : Addr) (done : List PartR) (kk left' : Nat) (x3 x4 : Option V), σ = [some (.ref p), some (.ref lo), some (.ref fl), x3, x4, none] ∧ H' fl = some (.lst (((prefRows sy ms done).map lineOf).map V.str)) ∧ H fl = none ∧ DoneOk sy ms pn i done ∧ Pot H' p kk ∧ kk ≤ n + 150 * i ∧ Lore H' p lo cl pl sy ms pn left' ∧ But2 p lo H H') ?_ ?_ ?_ ?_⟩
  · refine ⟨l0, [], n, left, none, none, rfl, l00, hl0H, ⟨by rw [List.take_zero]; rfl, fun d q rest e => by (have := congrArg List.length e; simp at this), ?_, ?_, Nat.zero_le _⟩, hp.same s03, Nat.le_refl _, L3, But2.of_same s03⟩
    · unfold prefRows
      exact (sym_row LO.sy).append ((cells_rows ms8).append (fun r hr => by cases hr))
    · unfold prefRows
      rw [List.length_cons, List.length_append, List.length_map]
      have := LO.m2
      show ms.length + 0 + 1 ≤ _
      omega
  · rintro i σ H4 hi ⟨_, _, _, _, _, _, _, _, _, _, _, _, L4, _⟩
    exact .inl (.inl L4.ps)
  · rintro i x σ H4 H5 hi ⟨fl, done, kk, left4, x3, x4, rfl, hfl, hfl0, DO, hp4, hkk, L4, b4⟩ y
    rw [List.length_map] at hi
    have hi2 : i < 2 := Nat.lt_of_lt_of_le hi LO.p2
    obtain ⟨Tt, _, zv, rfl, hT, rfl, ⟨⟩, hz⟩ := y
    have hz : (pn.map V.str)[i]? = some zv := hz
    rw [List.getElem?_map] at hz
    obtain ⟨z, hz1, rfl⟩ := Option.map_eq_some_iff.mp hz
    have z8 := pn8 z (List.mem_of_getElem? hz1)
    have lz := (eight_ok _ z8).2.2.2.1
    have sT := same_new hT (.tup [.int ((i : Nat) : Int), .str z])
    refine ⟨Tt, _, rfl, .inl (.inl upd_same), rfl, _, _, rfl, _, _, rfl, rfl, ?_⟩
    have L5 := L4.same sT
    have hp5 := hp4.same sT
    have fl5 := sT _ _ hfl
    have b5 : But2 p lo H (upd H4 Tt (.tup [.int ((i : Nat) : Int), .str z])) := b4.trans (But2.of_same sT)
    generalize upd H4 Tt (.tup [.int ((i : Nat) : Int), .str z]) = H5 at L5 hp5 fl5 b5 ⊢
    -- left
    refine ⟨_, rfl, lo, _, rfl, DPut.k (k := Sum.inr ("left" : Str)) L5.at_ big4, ?_⟩
    have eP : putK (lkv sy left4 cl pl) (Sum.inr ("left" : Str)) (.int 5) = lkv sy 5 cl pl := lkv_put (k := 5)
    rw [eP]
    have L6 := L5.put (k := 5)
    obtain ⟨o5, c5, d5, hpp5, hpr5⟩ := id hp5.at_
    have hp6 : Pot (upd H5 lo (.dK (lkv sy 5 cl pl))) p kk := ⟨o5, c5, d5, by rw [upd_ne nlp.symm]; exact hpp5, hpr5⟩
    have b6 : But2 p lo H (upd H5 lo (.dK (lkv sy 5 cl pl))) := b5.trans But2.upd
    have fl6 : (upd H5 lo (.dK (lkv sy 5 cl pl))) fl = some (.lst (((prefRows sy ms done).map lineOf).map V.str)) := by
      rw [upd_ne (ne_of fl5 L5.at_ (by intro z; cases z))]
      exact fl5
    generalize upd H5 lo (.dK (lkv sy 5 cl pl)) = H6 at L6 hp6 b6 fl6 ⊢
    -- the row of the part
    refine ⟨_, rfl, _, rfl, _, _, rfl, rfl, small (by omega), small (by show 1 ≤ 1000; decide), fun B hB => ?_⟩
    have sB := same_new hB (.lst [V.str (("part " : Str) ++ z)])
    have hDl := DO.len
    refine ⟨fl, B, _, _, rfl, rfl, sB _ _ fl6, upd_same, ?_, fun l1 hl1 => ?_⟩
    · rw [List.length_map, List.length_map]
      exact small (by show (prefRows sy ms done).length + 1 ≤ 1000; omega)
    have e1 : ((prefRows sy ms done).map lineOf).map V.str ++ [V.str (("part " : Str) ++ z)] = ((prefRows sy ms done ++ [(0, [("part" : Str), z])]).map lineOf).map V.str := by
      rw [part_line, List.map_append, List.map_append]
      rfl
    obtain ⟨H7, e7⟩ : ∃ H7 : Hp, H7 = upd (upd H6 B (.lst [V.str (("part " : Str) ++ z)])) l1 (.lst (((prefRows sy ms done).map lineOf).map V.str ++ [V.str (("part " : Str) ++ z)])) := ⟨_, rfl⟩
    have s7 : Same H6 H7 := by rw [e7]; exact sB.trans (same_new hl1 _)
    have l17 : H7 l1 = some (.lst (((prefRows sy ms done ++ [(0, [("part" : Str), z])]).map lineOf).map V.str)) := by rw [e7, upd_same, e1]
    have hl16 : H6 l1 = none := sB.free hl1
    rw [← e7]
    have L7 := L6.same s7
    have hp7 := hp6.same s7
    obtain ⟨o7, c7, d7, hpp7, _⟩ := id hp6.at_
    have nl1 : l1 ≠ p := (ne_of_none hpp7 hl16).symm
    have nl1lo : l1 ≠ lo := (ne_of_none L6.at_ hl16).symm
    -- the body
    refine ⟨.ref p, rfl, .ref lo, rfl, .ref lo, rfl, lo, .ref pl, rfl, L7.gParts, _, rfl, _, rfl, pl, _, rfl, .inl (.inl L7.ps), fun kl hkl => ?_⟩
    have ecut : cutV (pn.map V.str) none (some ((i : Nat) : Int)) = (pn.take i).map V.str := by rw [cutV_to, List.map_take]
    have skl := same_new hkl (.lst (cutV (pn.map V.str) none (some ((i : Nat) : Int))))
    obtain ⟨o8, c8, d8, hpp8, _⟩ := id hp7.at_
    have nkl : kl ≠ p := (ne_of_none hpp8 hkl).symm
    refine ⟨p, lo, cl, pl, kl, kk, 5, sy, ms, pn, pn.take i, rfl, hp7.same skl, by omega, L7.same skl, LO, by rw [upd_same, ecut], nkl, by rw [List.length_take]; omega, fun y hy => List.mem_of_mem_take hy, by decide, by decide, fun lb rws mm H9 g1 g2 g3 g4 g5 g6 g7 g8 g9 g10 => ?_⟩
    have l19 := g10 _ _ (skl _ _ l17) nl1 nl1lo
    refine ⟨l1, lb, _, _, rfl, rfl, l19, g7, ?_, fun l2 hl2 => ?_⟩
    · rw [List.length_map, List.length_map, List.length_map, List.length_map, List.length_append]
      exact small (by show (prefRows sy ms done).length + 1 + rws.length ≤ 1000; omega)
    have b9 : But2 p lo H H9 := ((b6.trans (But2.of_same s7)).trans (But2.of_same skl)).trans g10
    obtain ⟨o9, c9, d9, hpp9, _⟩ := id g8.at_
    have nl2 : l2 ≠ p := (ne_of_none hpp9 hl2).symm
    have nl2lo : l2 ≠ lo := (ne_of_none g9.at_ hl2).symm
    have s10 := same_new hl2 (.lst (((prefRows sy ms done ++ [(0, [("part" : Str), z])]).map lineOf).map V.str ++ (rws.map lineOf).map V.str))
    refine ⟨l2, done ++ [(z, rws, mm)], kk + 30 * mm - 20, 5 - mm, _, _, rfl, ?_, free2 b9 nl2 nl2lo hl2, DO.more hz1 g5 ((part_row z8).append g4) (by omega) (by omega), g8.same s10, by omega, g9.same s10, b9.trans (But2.of_same s10)⟩
    rw [upd_same, pref_snoc, ← List.map_append, ← List.map_append, List.append_assoc]
    rfl
  -- main
  rintro σ H4 ⟨fl, done, kk, left4, x3, x4, rfl, hfl, hfl0, DO, hp4, hkk, L4, b4⟩
  rw [List.length_map] at DO hkk
  have hpn := LO.p2
  refine ⟨.ref lo, rfl, lo, .ref pl, rfl, L4.gParts, pl, _, rfl, .inl (.inl (.inl L4.ps)), 5, _, rfl, rfl, .inl ⟨by decide, by decide⟩, 20, _, rfl, rfl, _, rfl, lo, _, rfl, DPut.k (k := Sum.inr ("left" : Str)) L4.at_ big4, ?_⟩
  rw [List.length_map]
  have eP : ∀ zz : Int, zz = ((20 - 5 * pn.length : Nat) : Int) → putK (lkv sy left4 cl pl) (Sum.inr ("left" : Str)) (.int zz) = lkv sy (20 - 5 * pn.length) cl pl := fun zz e => by rw [e, lkv_put]
  rw [eP _ (by omega)]
  have L6 := L4.put (k := 20 - 5 * pn.length)
  obtain ⟨o5, c5, d5, hpp5, hpr5⟩ := id hp4.at_
  have hp6 : Pot (upd H4 lo (.dK (lkv sy (20 - 5 * pn.length) cl pl))) p kk := ⟨o5, c5, d5, by rw [upd_ne nlp.symm]; exact hpp5, hpr5⟩
  have b6 : But2 p lo H (upd H4 lo (.dK (lkv sy (20 - 5 * pn.length) cl pl))) := b4.trans But2.upd
  have fl6 : (upd H4 lo (.dK (lkv sy (20 - 5 * pn.length) cl pl))) fl = some (.lst (((prefRows sy ms done).map lineOf).map V.str)) := by
    rw [upd_ne (ne_of hfl L4.at_ (by intro z; cases z))]
    exact hfl
  generalize upd H4 lo (.dK (lkv sy (20 - 5 * pn.length) cl pl)) = H6 at L6 hp6 b6 fl6 ⊢
  refine ⟨_, rfl, small (by show 1 ≤ 1000; decide), fun B hB => ?_⟩
  have sB := same_new hB (.lst [V.str ("main" : Str)])
  have hDl := DO.len
  refine ⟨fl, B, _, _, rfl, rfl, sB _ _ fl6, upd_same, ?_, fun l1 hl1 => ?_⟩
  · rw [List.length_map, List.length_map]
    exact small (by show (prefRows sy ms done).length + 1 ≤ 1000; omega)
  have e1 : ((prefRows sy ms done).map lineOf).map V.str ++ [V.str ("main" : Str)] = ((prefRows sy ms done ++ [mainRow]).map lineOf).map V.str := by
    rw [List.map_append, List.map_append]
    exact congrArg (fun t => ((prefRows sy ms done).map lineOf).map V.str ++ [V.str t]) main_line
  obtain ⟨H7, e7⟩ : ∃ H7 : Hp, H7 = upd (upd H6 B (.lst [V.str ("main" : Str)])) l1 (.lst (((prefRows sy ms done).map lineOf).map V.str ++ [V.str ("main" : Str)])) := ⟨_, rfl⟩
  have s7 : Same H6 H7 := by rw [e7]; exact sB.trans (same_new hl1 _)
  have l17 : H7 l1 = some (.lst (((prefRows sy ms done ++ [mainRow]).map lineOf).map V.str)) := by rw [e7, upd_same, e1]
  have hl16 : H6 l1 = none := sB.free hl1
  rw [← e7]
  have L7 := L6.same s7
  have hp7 := hp6.same s7
  obtain ⟨o7, c7, d7, hpp7, _⟩ := id hp6.at_
  have nl1 : l1 ≠ p := (ne_of_none hpp7 hl16).symm
  have nl1lo : l1 ≠ lo := (ne_of_none L6.at_ hl16).symm
  refine ⟨.ref p, rfl, .ref lo, rfl, .ref lo, rfl, lo, .ref pl, rfl, L7.gParts, ?_⟩
  refine ⟨p, lo, cl, pl, pl, kk, 20 - 5 * pn.length, sy, ms, pn, pn, rfl, hp7, by omega, L7, LO, L7.ps, L7.n2, hpn, fun y hy => hy, by omega, by omega, fun lb rws mm H9 g1 g2 g3 g4 g5 g6 g7 g8 g9 g10 => ?_⟩
  have l19 := g10 _ _ l17 nl1 nl1lo
  refine ⟨l1, lb, _, _, rfl, rfl, l19, g7, ?_, fun l2 hl2 => ?_⟩
  · rw [List.length_map, List.length_map, List.length_map, List.length_map, List.length_append]
    exact small (by show (prefRows sy ms done).length + 1 + rws.length ≤ 1000; omega)
  have s10 := same_new hl2 (.lst (((prefRows sy ms done ++ [mainRow]).map lineOf).map V.str ++ (rws.map lineOf).map V.str))
  refine q l2 done rws mm (prefRows sy ms done ++ mainRow :: rws) _ _ (by rw [DO.nm, List.take_length]) (text_of LO DO (main_row.append g4) g5 g3 g2) (DO.rows.append (main_row.append g4)) ?_ ?_ ((g8.same s10).more (by omega)) (g9.same s10) (((b6.trans (But2.of_same s7)).trans g10).trans (But2.of_same s10))
  · rw [List.length_append, List.length_cons]
    omega
  · rw [upd_same, ← List.map_append, ← List.map_append, List.append_assoc]
    rfl
end
end Fg
set_option Elab.async false
set_option linter.all false
set_option maxRecDepth 100000
set_option maxHeartbeats 4000000
namespace Fg
open PySem L2 TL
/-! ### a program with one plain row otherwise -/
/-- the head of a plain statement -/
def Lone (x : Str) : Prop := x ≠ "if" ∧ x ≠ "while" ∧ x ≠ "else" ∧ x ≠ "symbols" ∧ x ≠ "cell" ∧ x ≠ "part" ∧ x ≠ "main"
instance (x : Str) : Decidable (Lone x) := by unfold Lone; infer_instance
def Sw (q : List Str) (a b : List Row) : Prop := ∃ (u v : List Row) (e : Nat) (x : Str) (r : List Str), a = u ++ (e, x :: r) :: v ∧ b = u ++ (e, q) :: v ∧ Lone x
theorem Sw.app {q : List Str} {a1 a2 b : List Row} (h : Sw q (a1 ++ a2) b) : (∃ b1, Sw q a1 b1 ∧ b = b1 ++ a2) ∨ (∃ b2, Sw q a2 b2 ∧ b = a1 ++ b2) := by
  obtain ⟨u, v, e, x, r, h1, h2, h3⟩ := h
  rcases List.append_eq_append_iff.mp h1 with ⟨as, e1, e2⟩ | ⟨cs, e1, e2⟩
  · exact .inr ⟨as ++ (e, q) :: v, ⟨as, v, e, x, r, e2, rfl, h3⟩, by rw [h2, e1, List.append_assoc]⟩
  · cases cs with
    | nil =>
      rw [List.append_nil] at e1
      subst e1
      have e2 : a2 = (e, x :: r) :: v := e2.symm
      exact .inr ⟨(e, q) :: v, ⟨[], v, e, x, r, e2, rfl, h3⟩, h2⟩
    | cons c cs =>
      injection e2 with e3 e4
      subst e3
      exact .inl ⟨u ++ (e, q) :: cs, ⟨u, cs, e, x, r, e1, rfl, h3⟩, by rw [h2, e4]; simp⟩
theorem Sw.cons {q : List Str} {h : Row} {t b : List Row} (hs : Sw q (h :: t) b) (hh : ∀ x r, h.2 = x :: r → ¬ Lone x) : ∃ t', Sw q t t' ∧ b = h :: t' := by
  obtain ⟨u, v, e, x, r, h1, h2, h3⟩ := hs
  cases u with
  | nil =>
    injection h1 with e1 e2
    exact absurd h3 (hh x r (by rw [e1]))
  | cons c u =>
    injection h1 with e1 e2
    subst e1
    exact ⟨u ++ (e, q) :: v, ⟨u, v, e, x, r, e2, rfl, h3⟩, h2⟩
theorem no_if {x : Str} {r : List Str} (e : ("if" : Str) :: r = x :: r) : ¬ Lone x := fun h => h.1 (List.cons.inj e).1.symm
/-- what may stand for a plain statement -/
structure Plainly (sy : Str) (ms ss : NV) (q : List Str) : Prop where
  it : ∃ y r, q = y :: r ∧ Giv sy ms ss (y :: r) ∧ y ≠ "if" ∧ y ≠ "while"
theorem sw_all {sy : Str} {ms ss : NV} {q : List Str} (hq : Plainly sy ms ss q) : ∀ k : Nat, (∀ d seg n seg', seg.length ≤ k → Stm sy ms ss d seg n → Sw q seg seg' → Stm sy ms ss d seg' n) ∧ (∀ d seg n seg', seg.length ≤ k → Bod sy ms ss d seg n → Sw q seg seg' → Bod sy ms ss d seg' n)
  | 0 => by
    refine ⟨fun d seg n seg' hl h _ => ?_, fun d seg n seg' hl h _ => ?_⟩
    all_goals
      obtain ⟨x, r, rest, e, _⟩ := h.first
      rw [e] at hl
      exact absurd hl (by simp)
  | k + 1 => by
    obtain ⟨ihS, ihB⟩ := sw_all hq k
    have hw : ∀ (d : Nat) (w : Str) (t : List Str) (_ : w = "if" ∨ w = "while" ∨ w = "else"), ∀ x r, ((d, w :: t) : Row).2 = x :: r → ¬ Lone x := fun d w t hw x r e z => by
      injection e with e1 e2
      subst e1
      rcases hw with h | h | h
      · exact z.1 h
      · exact z.2.1 h
      · exact z.2.2.1 h
    have st : ∀ d seg n seg', seg.length ≤ k + 1 → Stm sy ms ss d seg n → Sw q seg seg' → Stm sy ms ss d seg' n := by
      intro d seg n seg' hl h sw
      cases h with
      | plain _ x r h1 h2 h3 h4 =>
        obtain ⟨u, v, e, x', r', e1, e2, _⟩ := sw
        cases u with
        | nil =>
          injection e1 with e3 e4
          injection e3 with e5 e6
          subst e4 e5
          obtain ⟨y, t, rfl, g, g1, g2⟩ := hq.it
          rw [e2]
          exact .plain _ y t g g1 g2 h4
        | cons c u =>
          injection e1 with _ e4
          exact absurd (congrArg List.length e4) (by simp)
      | loop _ r b n h1 h2 h3 =>
        obtain ⟨t', s1, rfl⟩ := sw.cons (hw _ _ _ (.inr (.inl rfl)))
        exact .loop _ _ _ _ h1 h2 (ihB _ _ _ _ (by simpa using hl) h3 s1)
      | cond _ r b n h1 h2 h3 =>
        obtain ⟨t', s1, rfl⟩ := sw.cons (hw _ _ _ (.inl rfl))
        exact .cond _ _ _ _ h1 h2 (ihB _ _ _ _ (by simpa using hl) h3 s1)
      | both _ r b c n m h1 h2 h3 h4 =>
        obtain ⟨t', s1, rfl⟩ := sw.cons (hw _ _ _ (.inl rfl))
        have hl2 : b.length + (c.length + 1) ≤ k := by simpa using hl
        rcases s1.app with ⟨b1, s2, rfl⟩ | ⟨b2, s2, rfl⟩
        · exact .both _ _ _ _ _ _ h1 h2 (ihB _ _ _ _ (by omega) h3 s2) h4
        · obtain ⟨c', s3, rfl⟩ := s2.cons (hw _ _ _ (.inr (.inr rfl)))
          exact .both _ _ _ _ _ _ h1 h2 h3 (ihB _ _ _ _ (by omega) h4 s3)
    refine ⟨st, fun d seg n seg' hl h sw => ?_⟩
    cases h with
    | one _ s n h => exact .one _ _ _ (st _ _ _ _ hl h sw)
    | more _ s t n m h1 h2 =>
      obtain ⟨x, r, rest, e, _⟩ := h1.first
      rw [List.length_append] at hl
      have h1l : 1 ≤ s.length := by rw [e, List.length_cons]; omega
      rcases sw.app with ⟨b1, s2, rfl⟩ | ⟨b2, s2, rfl⟩
      · exact .more _ _ _ _ _ (st _ _ _ _ (by omega) h1 s2) h2
      · exact .more _ _ _ _ _ h1 (ihB _ _ _ _ (by omega) h2 s2)
theorem Bod.sw {sy : Str} {ms ss : NV} {q : List Str} (hq : Plainly sy ms ss q) {d : Nat} {seg : List Row} {n : Nat} {seg' : List Row} (h : Bod sy ms ss d seg n) (s : Sw q seg seg') : Bod sy ms ss d seg' n := (sw_all hq _).2 _ _ _ _ (Nat.le_refl _) h s
theorem giv_lone {sy : Str} {ms ss : NV} {x : Str} {r : List Str} (h : Giv sy ms ss (x :: r)) (h1 : x ≠ "if") (h2 : x ≠ "while") : Lone x := by
  cases h <;> first
    | exact absurd rfl h1
    | exact absurd rfl h2
    | decide +kernel
/-- a row that writes is of its form -/
def WcOk (r : Row) : Prop := (r.2.head? = some ("write" : Str) → ∃ z, r.2 = [("write" : Str), z]) ∧ (r.2.head? = some ("copy" : Str) → r.2 = [("copy" : Str)])
theorem wc_other {d : Nat} {x : Str} {r : List Str} (h : x ≠ "write" ∧ x ≠ "copy") : WcOk (d, x :: r) := ⟨fun e => absurd (Option.some.inj e) h.1, fun e => absurd (Option.some.inj e) h.2⟩
theorem giv_wc {sy : Str} {ms ss : NV} {x : Str} {r : List Str} (d : Nat) (h : Giv sy ms ss (x :: r)) : WcOk (d, x :: r) := by
  cases h <;> first
    | exact wc_other (by decide +kernel)
    | exact ⟨fun _ => ⟨_, rfl⟩, fun e => absurd (Option.some.inj e) (by decide +kernel)⟩
    | exact ⟨fun e => absurd (Option.some.inj e) (by decide +kernel), fun _ => rfl⟩
theorem wc_all {sy : Str} {ms ss : NV} : ∀ k : Nat, (∀ d seg n, seg.length ≤ k → Stm sy ms ss d seg n → (∀ r ∈ seg, WcOk r) ∧ ∃ u e x r, seg = u ++ [((e, x :: r) : Row)] ∧ Lone x) ∧ (∀ d seg n, seg.length ≤ k → Bod sy ms ss d seg n → (∀ r ∈ seg, WcOk r) ∧ ∃ u e x r, seg = u ++ [((e, x :: r) : Row)] ∧ Lone x)
  | 0 => by
    refine ⟨fun d seg n hl h => ?_, fun d seg n hl h => ?_⟩
    all_goals
      obtain ⟨x, r, rest, e, _⟩ := h.first
      rw [e] at hl
      exact absurd hl (by simp)
  | k + 1 => by
    obtain ⟨ihS, ihB⟩ := wc_all (sy := sy) (ms := ms) (ss := ss) k
    have last : ∀ {h : Row} {b : List Row}, (∃ u e x r, b = u ++ [((e, x :: r) : Row)] ∧ Lone x) → ∃ u e x r, h :: b = u ++ [((e, x :: r) : Row)] ∧ Lone x := fun {h b} z => by
      obtain ⟨u, e, x, r, e1, e2⟩ := z
      exact ⟨h :: u, e, x, r, by rw [e1]; rfl, e2⟩
    have lastA : ∀ {a b : List Row}, (∃ u e x r, b = u ++ [((e, x :: r) : Row)] ∧ Lone x) → ∃ u e x r, a ++ b = u ++ [((e, x :: r) : Row)] ∧ Lone x := fun {a b} z => by
      obtain ⟨u, e, x, r, e1, e2⟩ := z
      exact ⟨a ++ u, e, x, r, by rw [e1, List.append_assoc], e2⟩
    have st : ∀ d seg n, seg.length ≤ k + 1 → Stm sy ms ss d seg n → (∀ r ∈ seg, WcOk r) ∧ ∃ u e x r, seg = u ++ [((e, x :: r) : Row)] ∧ Lone x := by
      intro d seg n hl h
      cases h with
      | plain _ x r h1 h2 h3 h4 => exact ⟨fun y hy => by rw [List.mem_singleton.mp hy]; exact giv_wc d h1, [], d, x, r, rfl, giv_lone h1 h2 h3⟩
      | loop _ r b n h1 h2 h3 =>
        obtain ⟨a1, a2⟩ := ihB _ _ _ (by simpa using hl) h3
        refine ⟨fun y hy => ?_, last a2⟩
        rcases List.mem_cons.mp hy with rfl | hy
        · exact giv_wc d h1
        · exact a1 y hy
      | cond _ r b n h1 h2 h3 =>
        obtain ⟨a1, a2⟩ := ihB _ _ _ (by simpa using hl) h3
        refine ⟨fun y hy => ?_, last a2⟩
        rcases List.mem_cons.mp hy with rfl | hy
        · exact giv_wc d h1
        · exact a1 y hy
      | both _ r b c n m h1 h2 h3 h4 =>
        have hl2 : b.length + (c.length + 1) ≤ k := by simpa using hl
        obtain ⟨a1, _⟩ := ihB _ _ _ (by omega) h3
        obtain ⟨b1, b2⟩ := ihB _ _ _ (by omega) h4
        refine ⟨fun y hy => ?_, last (lastA (last b2))⟩
        rcases List.mem_cons.mp hy with rfl | hy
        · exact giv_wc d h1
        · rcases List.mem_append.mp hy with hy | hy
          · exact a1 y hy
          · rcases List.mem_cons.mp hy with rfl | hy
            · exact wc_other (by decide +kernel)
            · exact b1 y hy
    refine ⟨st, fun d seg n hl h => ?_⟩
    cases h with
    | one _ s n h => exact st _ _ _ hl h
    | more _ s t n m h1 h2 =>
      obtain ⟨x, r, rest, e, _⟩ := h1.first
      rw [List.length_append] at hl
      have h1l : 1 ≤ s.length := by rw [e, List.length_cons]; omega
      obtain ⟨a1, _⟩ := st _ _ _ (by omega) h1
      obtain ⟨b1, b2⟩ := ihB _ _ _ (by omega) h2
      exact ⟨fun y hy => (List.mem_append.mp hy).elim (a1 y) (b1 y), lastA b2⟩
theorem Bod.wc {sy : Str} {ms ss : NV} {d : Nat} {seg : List Row} {n : Nat} (h : Bod sy ms ss d seg n) : (∀ r ∈ seg, WcOk r) ∧ ∃ u e x r, seg = u ++ [((e, x :: r) : Row)] ∧ Lone x := (wc_all _).2 _ _ _ (Nat.le_refl _) h
end Fg
set_option Elab.async false
set_option linter.all false
set_option maxRecDepth 100000
set_option maxHeartbeats 4000000
namespace Fg
open PySem L2 TL KWd
/-! ### words of a line, and what stands in front of them -/
theorem sp32 : Unicode.isSpace 32 = true := by decide +kernel
theorem noSp_mem {x : Str} (h : noSp x = true) {c : Nat} (hc : c ∈ tl x) : Unicode.isSpace c = false := by
  have := List.all_eq_true.mp h c hc
  simpa using this
theorem fold_blanks (acc : List Str) : ∀ n : Nat, (List.replicate n 32).foldl KWd.step (acc, Str.empty) = (acc, Str.empty)
  | 0 => rfl
  | n + 1 => by
    show (List.replicate n 32).foldl KWd.step (KWd.step (acc, Str.empty) 32) = _
    have e : KWd.step (acc, Str.empty) 32 = (acc, Str.empty) := by
      unfold KWd.step
      rw [if_pos sp32]
      rfl
    rw [e]
    exact fold_blanks acc n
theorem fold_word (acc : List Str) : ∀ (l : List Nat) (u : Str), (∀ c ∈ l, Unicode.isSpace c = false) → l.foldl KWd.step (acc, u) = (acc, u ++ (⟨l.toArray⟩ : Str))
  | [], u, _ => by
    have e : u ++ (⟨([] : List Nat).toArray⟩ : Str) = u := ext_tl (by rw [tl_append]; show tl u ++ [] = tl u; rw [List.append_nil])
    rw [e]
    rfl
  | c :: l, u, h => by
    show l.foldl KWd.step (KWd.step (acc, u) c) = _
    have e : KWd.step (acc, u) c = (acc, u ++ ⟨#[c]⟩) := by
      unfold KWd.step
      rw [if_neg (by rw [h c List.mem_cons_self]; exact Bool.false_ne_true)]
    rw [e, fold_word acc l _ fun y hy => h y (List.mem_cons_of_mem _ hy)]
    congr 1
    exact ext_tl (by rw [tl_append, tl_append, tl_append]; show (tl u ++ [c]) ++ l = tl u ++ (c :: l); rw [List.append_assoc]; rfl)
theorem word_self (x : Str) : (Str.empty ++ (⟨(tl x).toArray⟩ : Str)) = x := ext_tl (by rw [tl_append]; rfl)
theorem fold_words : ∀ (ws : List Str) (acc : List Str), (∀ x ∈ ws, tl x ≠ [] ∧ noSp x = true) → ws ≠ [] → ∃ rn : Str, (joinL [32] (ws.map tl)).foldl KWd.step (acc, Str.empty) = (acc ++ ws.dropLast, rn) ∧ ws.getLast? = some rn
  | [], _, _, h => absurd rfl h
  | [x], acc, h, _ => by
    refine ⟨x, ?_, rfl⟩
    show (tl x).foldl KWd.step (acc, Str.empty) = (acc ++ [], x)
    rw [fold_word acc _ _ fun c hc => noSp_mem (h x List.mem_cons_self).2 hc, word_self, List.append_nil]
  | x :: y :: r, acc, h, _ => by
    obtain ⟨rn, h1, h2⟩ := fold_words (y :: r) (acc ++ [x]) (fun z hz => h z (List.mem_cons_of_mem _ hz)) (by simp)
    refine ⟨rn, ?_, by rw [List.getLast?_cons_cons]; exact h2⟩
    show ((tl x ++ ([32] ++ joinL [32] ((y :: r).map tl)))).foldl KWd.step (acc, Str.empty) = _
    rw [List.foldl_append, fold_word acc _ _ fun c hc => noSp_mem (h x List.mem_cons_self).2 hc, word_self, List.foldl_append]
    have e : [32].foldl KWd.step (acc, x) = (acc ++ [x], Str.empty) := by
      show KWd.step (acc, x) 32 = _
      unfold KWd.step
      rw [if_pos sp32, if_neg]
      show ¬ x.length = 0
      rw [len_tl]
      intro z
      exact (h x List.mem_cons_self).1 (List.eq_nil_of_length_eq_zero z)
    rw [e, h1, List.dropLast_cons₂, List.append_assoc]
    rfl
theorem words_line {d : Nat} {ws : List Str} (g : GoodWs ws) : Txt.words (lineOf (d, ws)) = ws := by
  obtain ⟨rn, h1, h2⟩ := fold_words ws [] (fun x hx => ⟨(g.w x hx).1, g.sp x hx⟩) g.ne
  have e : scan (lineOf (d, ws)) = (ws.dropLast, rn) := by
    show (tl (lineOf (d, ws))).foldl KWd.step ([], Str.empty) = _
    rw [tl_line, List.foldl_append, fold_blanks, h1, List.nil_append]
  have hne : rn.length ≠ 0 := by
    have hm := List.mem_of_getLast? h2
    rw [len_tl]
    intro z
    exact (g.w rn hm).1 (List.eq_nil_of_length_eq_zero z)
  rw [words_of e, if_neg hne]
  have h3 := List.dropLast_concat_getLast g.ne
  rw [List.getLast?_eq_some_getLast g.ne] at h2
  rw [Option.some.inj h2] at h3
  exact h3
theorem lstrip_line {d : Nat} {ws : List Str} (g : GoodWs ws) : (Txt.lstrip (lineOf (d, ws))).length + 2 * d = (lineOf (d, ws)).length := by
  have e : (tl (lineOf (d, ws))).takeWhile Unicode.isSpace = List.replicate (2 * d) 32 := by
    rw [tl_line]
    obtain ⟨c, r, ej, hc⟩ := joinL_head g
    have hcs : Unicode.isSpace c = false := by
      cases ws with
      | nil => exact absurd rfl g.ne
      | cons x t =>
        have hx := g.sp x List.mem_cons_self
        have hx1 := (g.w x List.mem_cons_self).1
        cases ex : tl x with
        | nil => exact absurd ex hx1
        | cons c' r' =>
          have e2 : c' = c := by
            cases t with
            | nil =>
              have e3 : tl x = c :: r := ej
              rw [ex] at e3
              injection e3
            | cons y u =>
              have e3 : tl x ++ ([32] ++ joinL [32] ((y :: u).map tl)) = c :: r := ej
              rw [ex] at e3
              injection e3
          rw [← e2]
          exact noSp_mem hx (by rw [ex]; exact List.mem_cons_self)
    show (List.replicate (2 * d) 32 ++ joinL [32] (ws.map tl)).takeWhile _ = _
    rw [ej, List.takeWhile_append_of_pos (fun y hy => by rw [(List.mem_replicate.mp hy).2]; exact sp32), List.takeWhile_cons_of_neg (by rw [hcs]; exact Bool.false_ne_true), List.append_nil]
  have el : stripLo Unicode.isSpace true (lineOf (d, ws)) = 2 * d := by
    show ((tl (lineOf (d, ws))).takeWhile Unicode.isSpace).length = _
    rw [e, List.length_replicate]
  unfold Txt.lstrip
  rw [PyProof.Rows.stripBy_eq, el]
  show (Builtin.Str.strSub _ (2 * d) (lineOf (d, ws)).length).length + 2 * d = _
  rw [sub_len' _ (Nat.le_refl _)]
  have : 2 * d ≤ (lineOf (d, ws)).length := by
    rw [len_tl, tl_line, List.length_append, List.length_replicate]
    omega
  omega
end Fg
set_option Elab.async false
set_option linter.all false
set_option maxRecDepth 100000
set_option maxHeartbeats 4000000
namespace Fg
open PySem L2 TL
/-- a part, perhaps with one row otherwise -/
def PartSw (q : List Str) (p p' : PartR) : Prop := p'.1 = p.1 ∧ p'.2.2 = p.2.2 ∧ (p'.2.1 = p.2.1 ∨ Sw q p.2.1 p'.2.1)
theorem parts_refl (q : List Str) : ∀ ps : List PartR, Paired (PartSw q) ps ps
  | [] => .nil
  | p :: ps => .cons ⟨rfl, rfl, .inl rfl⟩ (parts_refl q ps)
theorem head_not {d : Nat} {w : Str} {t : List Str} (hw : w = "symbols" ∨ w = "cell" ∨ w = "part" ∨ w = "main") : ∀ x r, ((d, w :: t) : Row).2 = x :: r → ¬ Lone x := fun x r e z => by
  injection e with e1 e2
  subst e1
  obtain ⟨_, _, _, z1, z2, z3, z4⟩ := z
  rcases hw with h | h | h | h
  · exact z1 h
  · exact z2 h
  · exact z3 h
  · exact z4 h
theorem sw_parts {q : List Str} : ∀ {ps : List PartR} {b : List Row}, Sw q ((ps.map partRows).flatten) b → ∃ ps', Paired (PartSw q) ps ps' ∧ b = (ps'.map partRows).flatten
  | [], b, h => by
    obtain ⟨u, v, e, x, r, h1, _⟩ := h
    cases u <;> cases h1
  | p :: ps, b, h => by
    have h : Sw q (partRows p ++ (ps.map partRows).flatten) b := h
    rcases h.app with ⟨b1, s, rfl⟩ | ⟨b2, s, rfl⟩
    · obtain ⟨t', s1, rfl⟩ := Sw.cons (h := (0, [("part" : Str), p.1])) (t := p.2.1) s (head_not (.inr (.inr (.inl rfl))))
      exact ⟨(p.1, t', p.2.2) :: ps, .cons ⟨rfl, rfl, .inr s1⟩ (parts_refl q ps), rfl⟩
    · obtain ⟨ps', h1, rfl⟩ := sw_parts s
      exact ⟨p :: ps', .cons ⟨rfl, rfl, .inl rfl⟩ h1, rfl⟩
theorem no_cells {q : List Str} : ∀ {ms : NV} {b : List Row}, ¬ Sw q (ms.map cellRow) b
  | [], b, h => by
    obtain ⟨u, v, e, x, r, h1, _⟩ := h
    cases u <;> cases h1
  | c :: ms, b, h => by
    obtain ⟨t', s1, _⟩ := Sw.cons (h := cellRow c) (t := ms.map cellRow) h (head_not (.inr (.inl rfl)))
    exact no_cells s1
theorem parts_names {q : List Str} {ps ps' : List PartR} (h : Paired (PartSw q) ps ps') : ps'.map (·.1) = ps.map (·.1) ∧ (ps'.map (·.2.2)).sum = (ps.map (·.2.2)).sum ∧ ps'.length = ps.length := by
  induction h with
  | nil => exact ⟨rfl, rfl, rfl⟩
  | cons h _ ih => exact ⟨by rw [List.map_cons, List.map_cons, h.1, ih.1], by rw [List.map_cons, List.map_cons, List.sum_cons, List.sum_cons, h.2.1, ih.2.1], by rw [List.length_cons, List.length_cons, ih.2.2]⟩
theorem parts_split {q : List Str} : ∀ {ps ps' : List PartR} (_ : Paired (PartSw q) ps ps') {done' : List PartR} {p' : PartR} {rest' : List PartR}, ps' = done' ++ p' :: rest' → ∃ done p rest, ps = done ++ p :: rest ∧ done.map (·.1) = done'.map (·.1) ∧ PartSw q p p'
  | _, _, .nil, done', p', rest', e => by cases done' <;> cases e
  | _, _, .cons (a := p0) (l₁ := ps) h t, [], p', rest', e => by
    injection e with e1 e2
    subst e1
    exact ⟨[], p0, ps, rfl, rfl, h⟩
  | _, _, .cons (a := p0) h t, d :: done', p', rest', e => by
    injection e with e1 e2
    subst e1
    obtain ⟨done, p, rest, h1, h2, h3⟩ := parts_split t e2
    exact ⟨p0 :: done, p, rest, by rw [h1]; rfl, by rw [List.map_cons, List.map_cons, h2, h.1], h3⟩
theorem prog_sw {sy : Str} {ms : NV} {ps : List PartR} {ma : List Row} {nm : Nat} {rows rows' : List Row} {q : List Str} (PO : ProgOk sy ms ps ma nm rows) (hq : ∀ ss, Plainly sy ms ss q) (hg : GoodWs q) (sw : Sw q rows rows') :
    ∃ ps' ma', ps'.map (·.1) = ps.map (·.1) ∧ ProgOk sy ms ps' ma' nm rows' := by
  have good : Good rows' := by
    obtain ⟨u, v, e, x, r, h1, h2, _⟩ := sw
    intro y hy
    rw [h2] at hy
    have g := PO.good
    rw [h1] at g
    rcases List.mem_append.mp hy with hy | hy
    · exact g y (List.mem_append_left _ hy)
    · rcases List.mem_cons.mp hy with rfl | hy
      · exact hg
      · exact g y (List.mem_append_right _ (List.mem_cons_of_mem _ hy))
  have key : ∀ ps' ma', Paired (PartSw q) ps ps' → (ma' = ma ∨ Sw q ma ma') → rows' = headRows sy ms ps' ++ mainRow :: ma' → ∃ ps' ma', ps'.map (·.1) = ps.map (·.1) ∧ ProgOk sy ms ps' ma' nm rows' := fun ps' ma' hp hm e => by
    obtain ⟨n1, n2, n3⟩ := parts_names hp
    refine ⟨ps', ma', n1, ⟨e, good, PO.s2, PO.s4, PO.so, PO.c2, PO.cv, by rw [n3]; exact PO.p2, by rw [n1]; exact PO.names, by rw [n1]; exact PO.nd, fun done' p' rest' e1 ss hs => ?_, fun ss hs => ?_, by rw [n2]; exact PO.tot⟩⟩
    · obtain ⟨done, p, rest, h1, h2, h3, h4, h5⟩ := parts_split hp e1
      have b := PO.bod done p rest h1 ss (by rw [hs, h2])
      rw [h4]
      rcases h5 with h5 | h5
      · rw [h5]; exact b
      · exact b.sw (hq ss) h5
    · have b := PO.mbod ss (by rw [hs, n1])
      rcases hm with hm | hm
      · rw [hm]; exact b
      · exact b.sw (hq ss) hm
  have e0 := PO.eq
  rw [e0] at sw
  rcases sw.app with ⟨b1, s, e⟩ | ⟨b2, s, e⟩
  · obtain ⟨t1, s1, rfl⟩ := Sw.cons (h := symRow sy) (t := ms.map cellRow ++ (ps.map partRows).flatten) s (head_not (.inl rfl))
    rcases s1.app with ⟨b3, s3, _⟩ | ⟨b3, s3, rfl⟩
    · exact absurd s3 no_cells
    · obtain ⟨ps', h1, rfl⟩ := sw_parts s3
      exact key ps' ma h1 (.inl rfl) e
  · obtain ⟨ma', s1, rfl⟩ := Sw.cons (h := mainRow) (t := ma) s (head_not (.inr (.inr (.inr rfl))))
    exact key ps ma' (parts_refl q ps) (.inr s1) e
theorem ProgOk.wc {sy : Str} {ms : NV} {ps : List PartR} {ma : List Row} {nm : Nat} {rows : List Row} (PO : ProgOk sy ms ps ma nm rows) : (∀ r ∈ rows, WcOk r) ∧ ∃ u e x r, rows = u ++ [((e, x :: r) : Row)] ∧ Lone x := by
  have fl : ∀ rest done : List PartR, ps = done ++ rest → ∀ r ∈ (rest.map partRows).flatten, WcOk r := by
    intro rest
    induction rest with
    | nil => intro done _ r hr; cases hr
    | cons p rest ih =>
      intro done e r hr
      have hr : r ∈ partRows p ++ (rest.map partRows).flatten := hr
      rcases List.mem_append.mp hr with hr | hr
      · rcases List.mem_cons.mp hr with rfl | hr
        · exact wc_other (by decide +kernel)
        · exact (PO.bod done p rest e (done.map fun p => (p.1, 0)) (by rw [List.map_map]; rfl)).wc.1 r hr
      · exact ih (done ++ [p]) (by rw [e]; simp) r hr
  obtain ⟨m1, m2⟩ := (PO.mbod (ps.map fun p => (p.1, 0)) (by rw [List.map_map]; rfl)).wc
  rw [PO.eq]
  refine ⟨fun r hr => ?_, ?_⟩
  · rcases List.mem_append.mp hr with hr | hr
    · rcases List.mem_cons.mp hr with rfl | hr
      · exact wc_other (by decide +kernel)
      · rcases List.mem_append.mp hr with hr | hr
        · obtain ⟨c, _, rfl⟩ := List.mem_map.mp hr
          exact wc_other (by decide +kernel)
        · exact fl ps [] rfl r hr
    · rcases List.mem_cons.mp hr with rfl | hr
      · exact wc_other (by decide +kernel)
      · exact m1 r hr
  · obtain ⟨u, e, x, r, h1, h2⟩ := m2
    exact ⟨headRows sy ms ps ++ mainRow :: u, e, x, r, by rw [h1]; simp, h2⟩
theorem join_len2 {n : Nat} : ∀ rs : List Row, (∀ r ∈ rs, (lineOf r).length ≤ n) → (Txt.join nl (rs.map lineOf)).length ≤ (n + 1) * rs.length := fun rs h => by
  rw [len_tl, join_eq, tl_join, tl_nl]
  induction rs with
  | nil => exact Nat.le_refl _
  | cons a r ih =>
    have h1 := h a List.mem_cons_self
    rw [len_tl] at h1
    have h2 := ih fun x hx => h x (List.mem_cons_of_mem _ hx)
    cases r with
    | nil =>
      show (tl (lineOf a)).length ≤ (n + 1) * 1
      omega
    | cons b t =>
      show (tl (lineOf a) ++ ([10] ++ joinL [10] (((b :: t).map lineOf).map tl))).length ≤ (n + 1) * ((b :: t).length + 1)
      rw [List.length_append, List.length_append, Nat.mul_add]
      simp only [List.length_cons, List.length_nil] at h2 ⊢
      omega
theorem text_sw {sy : Str} {ms : NV} {ps : List PartR} {ma : List Row} {nm : Nat} {rows rows' : List Row} {q : List Str} (PO : ProgOk sy ms ps ma nm rows) (RO : RowsOk rows) (h70 : rows.length ≤ 70) (hq : ∀ ss, Plainly sy ms ss q) (hg : GoodWs q) (hl : (Txt.join blank q).length ≤ 7) (h10 : 10 ∉ tl (Txt.join blank q)) (sw : Sw q rows rows') :
    ∃ ps' ma', ps'.map (·.1) = ps.map (·.1) ∧ TextOk sy ms ps' ma' nm rows' (Txt.join nl (rows'.map lineOf)) ∧ rows'.length = rows.length := by
  obtain ⟨ps', ma', e, PO'⟩ := prog_sw PO hq hg sw
  obtain ⟨u, v, d, x, r, h1, h2, _⟩ := sw
  have hlen : rows'.length = rows.length := by rw [h1, h2]; simp
  have each : ∀ y ∈ rows', (lineOf y).length ≤ 67 ∧ 10 ∉ tl (lineOf y) := fun y hy => by
    rw [h2] at hy
    rw [h1] at RO
    have hd := (RO (d, x :: r) (List.mem_append_right _ List.mem_cons_self)).2.1
    unfold lineOf at hd
    rw [len_app, len_ind] at hd
    have hd : 2 * d + (Txt.join blank (x :: r)).length ≤ 60 := hd
    rcases List.mem_append.mp hy with hy | hy
    · have := RO y (List.mem_append_left _ hy)
      exact ⟨by omega, this.2.2⟩
    · rcases List.mem_cons.mp hy with rfl | hy
      · refine ⟨?_, ?_⟩
        · unfold lineOf
          rw [len_app, len_ind]
          show 2 * d + (Txt.join blank q).length ≤ 67
          omega
        · unfold lineOf
          rw [tl_append, tl_ind]
          intro h
          rcases List.mem_append.mp h with h | h
          · have := (List.mem_replicate.mp h).2
            omega
          · exact h10 h
      · have := RO y (List.mem_append_right _ (List.mem_cons_of_mem _ hy))
        exact ⟨by omega, this.2.2⟩
  refine ⟨ps', ma', e, ⟨PO', rfl, ?_, by omega, fun y hy => by have := (each y hy).1; omega, fun y hy => (each y hy).2⟩, hlen⟩
  have := join_len2 rows' fun y hy => (each y hy).1
  omega
end Fg
set_option Elab.async false
set_option linter.all false
set_option maxRecDepth 100000
set_option maxHeartbeats 4000000
namespace Fg
open PySem L2 TL
/-! ### _law_letters -/
/-- the lists of words at these addresses -/
def WordsAt (H : Hp) (as : List Addr) (rows : List Row) : Prop := Paired (fun (a : Addr) (r : Row) => H a = some (.lst (r.2.map V.str))) as rows
theorem WordsAt.by {H H' : Hp} {as : List Addr} {rows : List Row} (w : WordsAt H as rows) (h : ∀ a xs, H a = some (.lst xs) → a ∈ as → H' a = some (.lst xs)) : WordsAt H' as rows := by
  unfold WordsAt at w ⊢
  induction w with
  | nil => exact .nil
  | cons h1 _ ih => exact .cons (h _ _ h1 List.mem_cons_self) (ih fun a xs h2 hm => h a xs h2 (List.mem_cons_of_mem _ hm))
theorem WordsAt.get {H : Hp} : ∀ {as : List Addr} {rows : List Row}, WordsAt H as rows → ∀ {i : Nat} {a : Addr}, as[i]? = some a → ∃ r, rows[i]? = some r ∧ H a = some (.lst (r.2.map V.str))
  | _, _, .nil, i, a, e => by cases i <;> cases e
  | _, _, .cons h t, 0, a, e => by
    cases e
    exact ⟨_, rfl, h⟩
  | _, _, .cons h t, i + 1, a, e => WordsAt.get t (i := i) e
theorem WordsAt.len {H : Hp} : ∀ {as : List Addr} {rows : List Row}, WordsAt H as rows → as.length = rows.length
  | _, _, .nil => rfl
  | _, _, .cons _ t => congrArg (· + 1) (WordsAt.len t)
theorem nodup_len {α : Type} [DecidableEq α] : ∀ {l m : List α}, l.Nodup → (∀ x ∈ l, x ∈ m) → l.length ≤ m.length
  | [], m, _, _ => Nat.zero_le _
  | x :: l, m, h, k => by
    obtain ⟨h1, h2⟩ := List.nodup_cons.mp h
    have hm := k x List.mem_cons_self
    have ih := nodup_len (l := l) (m := m.erase x) h2 fun y hy => (List.mem_erase_of_ne (fun e : y = x => h1 (by rw [← e]; exact hy))).mpr (k y (List.mem_cons_of_mem _ hy))
    rw [List.length_erase_of_mem hm] at ih
    have := List.length_pos_of_mem hm
    rw [List.length_cons]
    omega
abbrev s_letters : Stmt := top 33
abbrev sc_lettersN : List Str := ["_law_source", "_law_rows", "_law_found", "_law_words", "_law_row"]
theorem sc_letters : FnScope sc_lettersN ["_law_source"] (defScope s_letters) := ⟨rfl, rfl, rfl, by decide +kernel, rfl, by decide +kernel, by decide +kernel⟩
def spLet : Sp := fun vs H Q _ => ∃ (sy : Str) (ms : NV) (ps : List PartR) (ma : List Row) (nm : Nat) (rows : List Row) (z : Str) (zs : List Str), vs = [.str z] ∧ TextOk sy ms ps ma nm rows z ∧ rows.length ≤ 70 ∧ LetOk sy rows zs ∧
  ∀ (r : Addr) (H' : Hp), Same H H' → H r = none → H' r = some (.tup (zs.map V.str)) → Q (.ref r) H'
theorem eqv_copy (ws : List Str) : PyData.eqv (.list (ws.map .str)) (.list (([("copy" : Str)]).map .str)) = decide (ws = [("copy" : Str)]) := eqv_strs _ _
section
variable {P : Program} {w : World} {K : PySem.W.Frag} {mg : Str → Option Value} {base : Heap}
theorem ok_letters {f : Addr} {fd : FuncData} (F : Fun K "_law_letters" "_law_letters" s_letters f fd) (T : Bare mg) (hset : mg "set" = none) (hsorted : mg "sorted" = none) : FnOk P w K mg base CX0 1 f fd ["_law_source"] spLet := by
  refine F.ok sc_letters (fun vs H Q E h => ?_) (fun cdv A outer st H vs Q E hr h => ?_)
  · obtain ⟨sy, ms, ps, ma, nm, rows, z, zs, rfl, _⟩ := h
    rfl
  obtain ⟨sy, ms, ps, ma, nm, rows, z, zs0, rfl, TO, h70, LO, q⟩ := h
  refine ⟨_, (pss_cons (ps_setLc (i := 1) (own := [("_law_row", 4)]) (g := gName 4) rfl sc_letters.nd rfl rfl (sw_true rfl rfl rfl (by decide +kernel)) (pi_list (pe_split (pv 0) pe_str)) (blkOk_by (N := sc_lettersN) (sc := defScope s_letters) (by decide +kernel)) (fun _ _ _ _ _ => pg_name (i := 4) sc_letters.nd rfl (Or.inl rfl)) (fun _ _ _ _ _ => pts_nil) (fun _ _ _ _ _ => (pe_words (pv 4))))
(pss_cons (ps_setLc (i := 2) (own := [("_law_words", 3)]) (g := gName 3) rfl sc_letters.nd rfl rfl (sw_true rfl rfl rfl (by decide +kernel)) (pi_list (pv 1)) (blkOk_by (N := sc_lettersN) (sc := defScope s_letters) (by decide +kernel)) (fun _ _ _ _ _ => pg_name (i := 3) sc_letters.nd rfl (Or.inl rfl)) (fun _ _ _ _ _ => (pts_one (pt_cmpR op_eq (show PE _ _ (tOp (rIxL K) (tVar 3) (tC (.int 0))) from pe_ix ix_list (pv 3) pe_int (fun _ _ => rfl)) pe_str (nomark _)))) (fun _ _ _ _ _ => (show PE _ _ (tOp (rIxL K) (tVar 3) (tC (.int 1))) from pe_ix ix_list (pv 3) pe_int (fun _ _ => rfl))))
(pss_cons (ps_for PassesOwn.never rfl (pi_list (pv 1)) (pg_name (i := 3) sc_letters.nd rfl (Or.inl rfl))
(pss_one (ps_expr (pe_bm PySem.F.plainAttrs_list PySem.F.slot_list_extend PySem.F.type_list_extend mt_extend (pv 2) (pa_cons (pe_ifExp (pt_cmpR (op_eqD hr.units) (pv 3) (pe_lst (pa_cons pe_str pa_nil)) (nomark _)) (pe_callTy (call_list_text rfl) (by rfl) T.list (by decide +kernel) (pa_cons (pe_ix ix_list (pe_ix ix_list (pv 1) pe_int (fun _ _ => rfl)) pe_int (fun _ _ => rfl)) pa_nil)) (pe_lst pa_nil)) pa_nil)))))
(pss_one (ps_ret (pe_callTy call_tuple_of (by rfl) T.tuple (by decide +kernel) (pa_cons (pe_callB (cr_sortedG sorts_str rfl) (by rfl) hsorted (by decide +kernel) (pa_cons (pe_callTy (cr_setOf (kdStr _ _) rfl) (by rfl) hset (by decide +kernel) (pa_cons (pv 2) pa_nil)) pa_nil)) pa_nil))))))), ?_⟩
  have hG := TO.ok.good
  obtain ⟨wcs, _⟩ := TO.ok.wc
  -- the rows' words
  refine ⟨_, rfl, ⟨_, rfl⟩, z, _, rfl, rfl, rfl, ?_, fun l hl => ⟨l, rfl, ⟨_, .inl (.inl upd_same)⟩, ?_⟩⟩
  · have := TO.len
    rw [sizeLine_eq]
    omega
  have s1 := same_new hl (.lst ((Txt.split z nl).map V.str))
  have l1 : (upd H l (.lst ((Txt.split z nl).map V.str))) l = some (.lst ((rows.map lineOf).map V.str)) := by
    rw [upd_same]
    exact congrArg (fun t => some (HO.lst (t.map V.str))) TO.lines
  generalize upd H l (.lst ((Txt.split z nl).map V.str)) = H1 at s1 l1 ⊢
  have elen : ((rows.map lineOf).map V.str).length = rows.length := by rw [List.length_map, List.length_map]
  refine fun D hD => lc_it (walk_list (xs := (rows.map lineOf).map V.str)) (fun i H' => ∃ as : List Addr, H' D = some (.lst (as.map V.ref)) ∧ WordsAt H' as (rows.take i) ∧ Same H1 H' ∧ (∀ a ∈ as, a ≠ D)) ⟨[], upd_same, .nil, same_new hD _, fun a h => by cases h⟩ (fun i H' hi pv => ?_) (fun i x H' H2 hi pv y => ?_) (fun H2 pv => ?_)
  · obtain ⟨as, _, _, h, _⟩ := pv
    exact .inl (.inl (h _ _ l1))
  · obtain ⟨as, h1, h2, h3, h4⟩ := pv
    obtain ⟨rfl, hx⟩ := y
    rw [List.getElem?_map, List.getElem?_map] at hx
    obtain ⟨ln, hx1, rfl⟩ := Option.map_eq_some_iff.mp hx
    obtain ⟨r, hr1, rfl⟩ := Option.map_eq_some_iff.mp hx1
    have hrm := List.mem_of_getElem? hr1
    refine ⟨rfl, ?_⟩
    simp only [tYes, ↓reduceIte]
    refine ⟨_, rfl, ⟨_, rfl⟩, lineOf r, rfl, rfl, ?_, fun p hp => ?_⟩
    · have := TO.short r hrm
      rw [sizeLine_eq]
      omega
    have ew : Txt.words (lineOf r) = r.2 := words_line (hG r hrm)
    have nDp : D ≠ p := ne_of_none h1 hp
    have hal : as.length = i := by
      rw [h2.len, List.length_take]
      rw [elen] at hi
      omega
    refine ⟨as.map V.ref, by rw [upd_ne nDp]; exact h1, ?_, as ++ [p], ?_, ?_, ?_, ?_⟩
    · rw [List.length_map, hal]
      exact Nat.lt_of_lt_of_le (by omega : i < 1000) (small (Nat.le_refl _))
    · rw [upd_same, List.map_append]
      rfl
    · rw [ew, List.take_add_one, hr1]
      refine Paired.snoc (WordsAt.by h2 fun a xs g hm => ?_) ?_
      · rw [upd_ne (h4 a hm), upd_ne (ne_of_none g hp)]
        exact g
      · rw [upd_ne nDp.symm, upd_same]
    · intro b o g
      have g1 := h3 b o g
      rw [upd_ne (ne_of_none g hD), upd_ne (ne_of_none g1 hp)]
      exact g1
    · intro a ha
      rcases List.mem_append.mp ha with ha | ha
      · exact h4 a ha
      · rw [List.mem_singleton.mp ha]
        exact nDp.symm
  obtain ⟨as, h1, h2, h3, h4⟩ := pv
  rw [elen, List.take_of_length_le (Nat.le_refl _)] at h2
  have s2 := s1.trans h3
  have hasl : as.length = rows.length := h2.len
  -- the letters of writes
  refine ⟨_, rfl, D, rfl, ⟨_, .inl (.inl h1)⟩, ?_⟩
  refine fun D2 hD2 => lc_sel (xs := as.map V.ref) (fun i o => ∃ r, rows[i]? = some r ∧ (r.2.head? = some ("write" : Str) → ∃ z, o = some z ∧ r.2 = [("write" : Str), z]) ∧ (r.2.head? ≠ some ("write" : Str) → o = none)) (.inl (.inl h1)) hD2 (by rw [List.length_map]; omega) (fun _ => rfl) (fun i x hx H3 s3 => ?_) (fun os hos hR => ?_)
  · rw [List.getElem?_map] at hx
    obtain ⟨a, ha, rfl⟩ := Option.map_eq_some_iff.mp hx
    obtain ⟨r, hr1, hr2⟩ := h2.get ha
    have hrm := List.mem_of_getElem? hr1
    have hrl : H3 a = some (.lst (r.2.map V.str)) := s3 _ _ hr2
    have hne := (hG r hrm).ne
    obtain ⟨x0, t0, e0⟩ : ∃ x0 t0, r.2 = x0 :: t0 := by
      cases h : r.2 with
      | nil => exact absurd h hne
      | cons a b => exact ⟨a, b, rfl⟩
    have hh : r.2.head? = some x0 := by rw [e0]; rfl
    by_cases ew : x0 = "write"
    · obtain ⟨z0, e1⟩ := (wcs r hrm).1 (by rw [hh, ew])
      refine ⟨some z0, ⟨r, hr1, fun _ => ⟨z0, rfl, e1⟩, fun n => absurd (by rw [hh, ew]) n⟩, fun Z hZ => ?_, fun y ey Q hQ => ?_⟩
      · refine ⟨_, rfl, a, _, 0, _, rfl, rfl, .inl (.inl hrl), at_of (j := 0) rfl (by rw [List.getElem?_map, e0]; rfl), rfl, _, rfl, ?_⟩
        rw [ew, decide_eq_true rfl]
        exact hZ
      · cases ey
        exact ⟨_, rfl, a, _, 1, .str z0, rfl, rfl, .inl (.inl hrl), at_of (j := 1) rfl (by rw [List.getElem?_map, e1]; rfl), hQ⟩
    · refine ⟨none, ⟨r, hr1, fun e => absurd (by rw [hh] at e; exact Option.some.inj e) ew, fun _ => rfl⟩, fun Z hZ => ?_, fun y ey Q hQ => by cases ey⟩
      refine ⟨_, rfl, a, _, 0, _, rfl, rfl, .inl (.inl hrl), at_of (j := 0) rfl (by rw [List.getElem?_map, e0]; rfl), rfl, _, rfl, ?_⟩
      rw [decide_eq_false fun e => ew (V.str.inj e)]
      exact hZ
  have hlen2 : os.length = rows.length := by rw [hos, List.length_map, hasl]
  have hwm : ∀ x : Str, x ∈ os.filterMap id ↔ ∃ r ∈ rows, r.2 = [("write" : Str), x] := fun x => by
    rw [mem_filterMap_id]
    constructor
    · rintro ⟨i, e⟩
      obtain ⟨r, g1, g2, g3⟩ := hR i _ e
      by_cases hw : r.2.head? = some ("write" : Str)
      · obtain ⟨z, g4, g5⟩ := g2 hw
        cases g4
        exact ⟨r, List.mem_of_getElem? g1, g5⟩
      · have := g3 hw
        cases this
    · rintro ⟨r, hr, e⟩
      obtain ⟨j, hj⟩ := List.mem_iff_getElem?.mp hr
      have hjl : j < os.length := by
        rw [hlen2]
        exact (List.getElem?_eq_some_iff.mp hj).1
      obtain ⟨r', g1, g2, g3⟩ := hR j _ (List.getElem?_eq_getElem hjl)
      rw [hj] at g1
      cases g1
      obtain ⟨z, g4, g5⟩ := g2 (by rw [e]; rfl)
      rw [e] at g5
      have hz : x = z := by
        injection g5 with _ h9
        injection h9
      exact ⟨j, by rw [List.getElem?_eq_getElem hjl, g4, hz]⟩
  have hzl : (os.filterMap id).length ≤ 70 := Nat.le_trans (List.length_filterMap_le id os) (by omega)
  generalize os.filterMap id = zs at hwm hzl ⊢
  have hD20 : H D2 = none := s2.free hD2
  have s4 := same_new hD2 (.lst (zs.map V.str))
  have d24 : (upd H2 D2 (.lst (zs.map V.str))) D2 = some (.lst (zs.map V.str)) := upd_same
  generalize upd H2 D2 (.lst (zs.map V.str)) = H4 at s4 d24 ⊢
  have hsy : sy.length ≤ 4 := TO.ok.s4
  have row0 : rows[0]? = some (symRow sy) := by rw [TO.ok.eq]; rfl
  obtain ⟨a0, ha0⟩ : ∃ a0, as[0]? = some a0 := by
    have h0 := (List.getElem?_eq_some_iff.mp row0).1
    exact ⟨as[0]'(by omega), List.getElem?_eq_getElem (by omega)⟩
  obtain ⟨r0, g0, g1⟩ := h2.get ha0
  rw [row0] at g0
  cases g0
  -- the symbols where there is a copy
  refine ⟨_, rfl, D, rfl, ⟨_, .inl (.inl (s4 _ _ h1))⟩, for_list (xs := as.map V.ref) (fun i σ H' => ∃ (ys : List Str) (x3 : Option V), σ = [some (.str z), some (.ref D), some (.ref D2), x3, none] ∧ H' D2 = some (.lst (ys.map V.str)) ∧ (∀ x, x ∈ ys ↔ x ∈ zs ∨ ((∃ (j : Nat) (r : Row), j < i ∧ rows[j]? = some r ∧ r.2 = [("copy" : Str)]) ∧ x ∈ charsOf sy)) ∧ ys.length ≤ 70 + 4 * i ∧ Same H2 H') ?_ ?_ ?_ ?_⟩
  · exact ⟨zs, none, rfl, d24, fun x => ⟨.inl, fun h => h.elim id fun h => by obtain ⟨⟨j, r, hj, _⟩, _⟩ := h; omega⟩, by omega, s4⟩
  · rintro i σ H' hi ⟨ys, x3, rfl, _, _, _, h⟩
    exact .inl (.inl (h _ _ h1))
  · rintro i x σ H5 hx ⟨ys, x3, rfl, k1, k2, k3, k4⟩
    rw [List.getElem?_map] at hx
    obtain ⟨a, ha, rfl⟩ := Option.map_eq_some_iff.mp hx
    obtain ⟨r, hr1, hr2⟩ := h2.get ha
    have hrm := List.mem_of_getElem? hr1
    have hil : i < rows.length := (List.getElem?_eq_some_iff.mp hr1).1
    have hrl : H5 a = some (.lst (r.2.map V.str)) := k4 _ _ hr2
    refine ⟨_, rfl, .inl ⟨rfl, _, .inl (.inl k1)⟩, _, rfl, small (by show 1 ≤ 1000; decide), fun A hA => ?_⟩
    have sA := same_new hA (.lst [.str "copy"])
    refine ⟨.list (r.2.map .str), .list (([("copy" : Str)]).map .str), .lst (.inl (.inl (sA _ _ hrl))) (dp_strs r.2), .lst (.inl (.inl upd_same)) (dp_strs [("copy" : Str)]), shaped_strs (hG r hrm).ok, shaped_strs (by simp; decide +kernel), _, congrArg V.bl (eqv_copy r.2), ?_⟩
    generalize upd H5 A (.lst [.str "copy"]) = H6 at sA ⊢
    have k16 := sA _ _ k1
    have s26 := k4.trans sA
    refine ite2 (fun ec => ?_) (fun ec => ?_)
    · have ec := of_decide_eq_true ec
      refine ⟨_, rfl, D, _, 0, _, rfl, rfl, .inl (.inl (s26 _ _ h1)), at_of (j := 0) rfl (by rw [List.getElem?_map, ha0]; rfl), a0, _, 1, .str sy, rfl, rfl, .inl (.inl (s26 _ _ g1)), at_of (j := 1) rfl rfl, sy, rfl, by omega, fun L hL => ?_⟩
      have nDL : D2 ≠ L := ne_of_none k16 hL
      have hT : (tl sy).length ≤ 4 := by rw [← len_tl]; exact hsy
      refine ⟨D2, L, _, _, rfl, rfl, by rw [upd_ne nDL]; exact k16, upd_same, ?_, ys ++ charsOf sy, _, rfl, ?_, fun x => ?_, ?_, ?_⟩
      · rw [List.length_map, List.length_map]
        exact small (by omega)
      · rw [upd_same, List.map_append]
        unfold charsOf
        rw [List.map_map]
        rfl
      · rw [List.mem_append, k2 x]
        constructor
        · rintro ((h | ⟨⟨j, r', g1, g2, g3⟩, h⟩) | h)
          · exact .inl h
          · exact .inr ⟨⟨j, r', by omega, g2, g3⟩, h⟩
          · exact .inr ⟨⟨i, r, by omega, hr1, ec⟩, h⟩
        · rintro (h | ⟨_, h⟩)
          · exact .inl (.inl h)
          · exact .inr h
      · unfold charsOf
        rw [List.length_append, List.length_map]
        omega
      · intro b o g
        have n1 : b ≠ D2 := ne_of_none g hD2
        rw [upd_ne n1, upd_ne (ne_of_none (s26 _ _ g) hL)]
        exact s26 _ _ g
    · refine ⟨small (by show 0 ≤ 1000; decide), fun L hL => ?_⟩
      have nDL : D2 ≠ L := ne_of_none k16 hL
      refine ⟨D2, L, _, _, rfl, rfl, by rw [upd_ne nDL]; exact k16, upd_same, ?_, ys, _, rfl, ?_, fun x => ?_, by omega, ?_⟩
      · rw [List.length_map]
        exact small (by show ys.length + 0 ≤ 1000; omega)
      · rw [upd_same, List.append_nil]
      · rw [k2 x]
        constructor
        · rintro (h | ⟨⟨j, r', g1, g2, g3⟩, h⟩)
          · exact .inl h
          · exact .inr ⟨⟨j, r', by omega, g2, g3⟩, h⟩
        · rintro (h | ⟨⟨j, r', g1, g2, g3⟩, h⟩)
          · exact .inl h
          · refine .inr ⟨⟨j, r', ?_, g2, g3⟩, h⟩
            by_cases e : j = i
            · subst e
              rw [hr1] at g2
              cases g2
              exact absurd (decide_eq_true g3) ec
            · omega
      · intro b o g
        have n1 : b ≠ D2 := ne_of_none g hD2
        rw [upd_ne n1, upd_ne (ne_of_none (s26 _ _ g) hL)]
        exact s26 _ _ g
  -- in order
  rintro σ H5 ⟨ys, x3, rfl, k1, k2, k3, k4⟩
  rw [List.length_map, hasl] at k2 k3
  have hmem : ∀ x, x ∈ ys ↔ LettersOf sy rows x := fun x => by
    rw [k2 x, hwm x]
    constructor
    · rintro (h | ⟨⟨j, r, g1, g2, g3⟩, h⟩)
      · exact .inl h
      · exact .inr ⟨⟨r, List.mem_of_getElem? g2, by rw [g3]; rfl⟩, h⟩
    · rintro (h | ⟨⟨r, g1, g2⟩, h⟩)
      · exact .inl h
      · obtain ⟨j, hj⟩ := List.mem_iff_getElem?.mp g1
        exact .inr ⟨⟨j, r, (List.getElem?_eq_some_iff.mp hj).1, hj, (wcs r g1).2 g2⟩, h⟩
  refine ⟨_, rfl, D2, ys, rfl, .inl (.inl k1), by omega, fun p kt g1 g2 g3 hp => ?_⟩
  have hkl : kt.length ≤ 60 := by
    have h1 := nodup_len g3 (m := zs0) fun x hx => (LO.mem x).mpr ((hmem x).mp ((g2 x).mp hx))
    rw [List.length_map] at h1
    have := LO.len
    omega
  refine ⟨p, kt, rfl, upd_same, by omega, fun ws p2 g4 g5 hp2 => ?_⟩
  refine ⟨p2, _, rfl, .inl ⟨.inl (.inl upd_same), fun r hr => ?_⟩⟩
  have lok : LetOk sy rows ws := ⟨g5, (g4.nodup_iff).mpr g3, fun x => by rw [g4.mem_iff, g2 x, hmem x], by rw [g4.length_eq, List.length_map]; omega⟩
  have s5 : Same H H5 := s2.trans k4
  have sA := s5.trans (same_new hp (SetO2 (kdStr P w) p kt))
  have sB := sA.trans (same_new hp2 (.lst (ws.map V.str)))
  refine q r _ (sB.trans (same_new hr _)) (sB.free hr) (upd_same.trans ?_)
  rw [← lok.one LO]
  rfl
end
end Fg
set_option Elab.async false
set_option linter.all false
set_option maxRecDepth 100000
set_option maxHeartbeats 4000000
namespace Fg
open PySem PySem.Spec PyProof.Rows L2 TL
/-! ### promises that hold where no repr is under way -/
structure FnOkG (P : Program) (w : World) (K : PySem.W.Frag) (mg : Str → Option Value)
    (base : Heap) (k : Nat) (f : Addr) (fd : FuncData) (ps : List Str) (sp : Sp) : Prop where
  size : ∀ vs H Q E, sp vs H Q E → vs.length = ps.length
  runs : ∀ (A : Around) (outer : List Env) (s : Shared) (H : Hp) (args : Args) (us : List Value) (vs : List V)
    (Q : VK) (E : XK), A.guards = some [] → Room k A → Env0 P w K mg base A outer s H →
    BindsTo s fd args (ps.zip us) → Vals vs us → sp vs H Q E →
    codeAny (model P w) A (.call (.ref f) args) (CR CX0 outer P w H s Q E) s
theorem Fun.okG {P : Program} {w : World} {K : PySem.W.Frag} {mg : Str → Option Value} {base : Heap}
    {x qual : Str} {st : Stmt} {f : Addr} {fd : FuncData} {N ps : List Str} {k : Nat} {sp : Sp}
    (F : Fun K x qual st f fd) (S : FnScope N ps (defScope st)) (size : ∀ vs H Q E, sp vs H Q E → vs.length = ps.length)
    (body : ∀ (cdv : Value) (A : Around) (outer : List Env) (s : Shared) (H : Hp) (vs : List V) (Q : VK) (E : XK),
      A.guards = some [] → Room k (A.deeper (envOfC qual (defScope st) s.heap.objs.size f cdv)) → sp vs H Q E →
      ∃ t, PSs (cxOf CX0 P w K mg base N qual (defScope st) f cdv A outer s H E).nox (defBody st) t ∧
        t { nx := fun _ H' => Q .non H', rt := Q } (start N vs) H) :
    FnOkG P w K mg base (k + 1) f fd ps sp := by
  obtain ⟨oc, od, kV, doc, pm, an, cdv, ct, osl, rfl, inK, hcd⟩ := F.ex
  refine ⟨size, fun A outer s H args us vs Q E hgu hr e0 hb rv hsp => ?_⟩
  have lenV := size _ _ _ _ hsp
  have KX : K.In s.heap := e0.mod.kin.keeps fun b o e =>
    (e0.bs b o e).1
  have lims : s.heap.NoLimit := e0.mod.nolimit.keeps fun b o e =>
    (e0.bs b o e).1
  refine codeAny_call_function hr.depth (KX _ _ inK) rfl S.co S.gen rfl
    (PySem.W.codeRec_of KX hcd) (hb _ _ _ _ ?_)
  refine wpAny_newFunctionEnv_cells S.kind (fun y hy => ?_) fun env he s1 call => ?_
  · rcases S.par y.1 (List.of_mem_zip (show (y.1, y.2) ∈ ps.zip us from hy)).1 with q | q
    · exact .inl q
    · exact .inr ⟨q, PySem.W.cellsFrom_some _ _ _ (.inl q)⟩
  · subst he
    refine ⟨lims.keeps call.toInCall.keep, codeAny_func ?_⟩
    obtain ⟨t, ht, hq⟩ := body cdv A outer s H vs Q E hgu (hr.deeper _) hsp
    refine wpAny_mono (ht.nox.run [] s1 (start N vs) H _ (inv_start S hr.hd e0 lenV rv call) hq) (fun fl s' ends => ?_)
      fun e s' ends => ends
    match fl, ends with
    | .ret u, ⟨v, σ', H', J, rel, q⟩ => exact ⟨v, H', J.os, J.bare, J.base, J.hok, rel, q⟩
    | .next, ⟨σ', H', J, q⟩ => exact ⟨.non, H', J.os, J.bare, J.base, J.hok, rfl, q⟩
    | .brk, ⟨_, _, _, q⟩ => exact q.elim
    | .cont, ⟨_, _, _, q⟩ => exact q.elim
section
variable {X : Cx}
/-- f(e, ..) of such a def -/
theorem pe_callG {f : Addr} {fd : FuncData} {ps : List Str} {sp : Sp} {k : Nat} {x : Str} {p pos : Pos} {e : Expr} {es : List Expr} {t : TA}
    (F : FnOkG X.prog X.w X.K X.mg X.base k f fd ps sp) (hgu : X.A.guards = some []) (hr : Room k X.A) (hg : Gl X x)
    (hm : X.mg x = some (.ref f)) (hk : PySem.W.keepIn X.K (.ref f) = true) (hb : Binds X.K fd ps [])
    (ha : PA X (e :: es) t) (hdb : (x == ("__debug__" : Str)) = false := by decide)
    (he : starEach (e :: es) X.env = (false, eval e X.env) :: starEach es X.env := by rfl)
    (hpl : (backTo pos (starEach es X.env)).any (·.1) = false := by rfl) :
    PE X (.Call (.Name x p) (e :: es) [] pos) (tCall sp [] (fun _ _ _ => False) t) := by
  refine ⟨fun pins s σ H Q I h => wpAny_Call_Name_kw (ld_glob I hg hm ?_ hdb)⟩
  refine PySem.W.callWith_K (h₀ := X.base) I.ok.mod.kin hk
    (thn (ha.run pos pins s σ H _ I h) fun us s1 ⟨vs, H1, I1, rv, q⟩ => ⟨I1.kIn, ?_⟩) he hpl
  have q' : sp (vs ++ []) H1 Q (fun _ _ _ => False) := q
  rw [List.append_nil] at q'
  have lenU : us.length = ps.length := by
    rw [← rv.length]
    exact F.size _ _ _ _ q'
  have bind := hb s1 us I1.kIn (by simpa using lenU)
  rw [List.append_nil] at bind
  refine wpAny_call (codeAny_mono (F.runs X.A X.stack s1 H1 ⟨us, []⟩ us vs Q _ hgu hr I1.env0 bind rv q') fun r s' ends => ?_)
  match r, ends with
  | .error e, ends => exact ends.elim
  | .ok (.ret u), ends => exact I1.after ends
  | .ok .next, ends => exact ends.elim
  | .ok .brk, ends => exact ends.elim
  | .ok .cont, ends => exact ends.elim
/-- repr of data, where no repr is under way -/
theorem call_reprD (hgu : X.A.guards = some []) (hu : X.A.units + 64 < cLine) : CallR X (.builtin "repr") (fun xs H Q => ∃ (a : Addr) (d : PyData), xs = [.ref a] ∧ Dp X.K H (.ref a) d ∧ d.showable = true ∧ d.hasDict = false ∧ d.depth ≤ 40 ∧ d.shown.length ≤ sizeLine ∧ Q (.str d.shown) H) := by
  intro pins s σ H xs us Q I rv h
  obtain ⟨a, d, rfl, hd, hs, hn, hdp, hz, q⟩ := h
  obtain ⟨u, rfl, ru⟩ := rv.one
  cases ru
  obtain ⟨as, rd⟩ := Dp.reads I d (.ref a) (.ref a) hd rfl
  refine repr_of_reads' rd hs (fun e => by rw [hn] at e; cases e) hgu (by omega) (fun _ _ e => e) (fun h' u tk kp => ?_) hz
  exact ⟨.str d.shown, H, I.kept (t' := tk) kp, ⟨u, rfl⟩, q⟩
/-! ### `!=` of objects with an own == -/
theorem call_own {n : Nat} {f : Addr} {fd : FuncData} {ps : List Str} {R : Addr → Addr → Hp → Prop}
    (W : FnOk X.prog X.w X.K X.mg X.base CX0 n f fd ps (spEq R)) (hb : Binds X.K fd ps [])
    {A : Around} (sb : Sub X n A) {pins : List (Addr × Obj)} {σ : L2.St} {H : Hp} {s : Shared} {a b : Addr} (I : Inv X pins σ H s) (hr : R a b H) :
    wpAny (model X.prog X.w) A (call (.ref f) [.ref a, .ref b]) (fun v s' => v = .bool true ∧ ∃ H', Inv X pins σ H' s' ∧ Ext H H') X.xe s := by
  have want : spEq R [.ref a, .ref b] H (fun v H' => v = .bl true ∧ Ext H H') (fun _ _ _ => False) :=
    ⟨a, b, rfl, hr, fun H' e => ⟨rfl, e⟩⟩
  have e0 := I.env0
  have lenP := W.len _ _ _ _ want
  have bind := hb s [.ref a, .ref b] I.kIn (by simpa using lenP)
  rw [List.append_nil] at bind
  refine wpAny_call (codeAny_mono (W.run A X.stack s H ⟨[.ref a, .ref b], []⟩ _ [.ref a, .ref b] _ _ sb.room
    ⟨sb.fr.trans e0.frames, e0.mod, e0.bs, e0.bsz, e0.funs, e0.frf, e0.hok, e0.bare⟩ bind (.cons rfl (.cons rfl .nil)) want) fun r s' ends => ?_)
  match r, ends with
  | .error e, ends => exact ends.elim
  | .ok (.ret v), ends =>
    obtain ⟨z, H', I', rz, ez, ex⟩ := I.after ends
    subst ez
    cases rz
    exact ⟨rfl, H', I', ex⟩
  | .ok .next, ends => exact ends.elim
  | .ok .brk, ends => exact ends.elim
  | .ok .cont, ends => exact ends.elim
/-- the default __ne__ is found and bound -/
theorem bound_ne {M : Model} {A : Around} {E : Value → Shared → Prop} {K : PySem.W.Frag} {s : Shared} {x C : Addr} {ox : Obj} {od : Option Obj} {args : List Value} {Q : Option Value → Shared → Prop}
    (KX : K.In s.heap) (J : PySem.W.InstAt s.heap x ox C od) (hs : PySem.W.findIn K (.ref C) "__ne__" = some (some (.builtin "object.__ne__")))
    (h : wpAny M A (call (.builtin "object.__ne__") (.ref x :: args)) (fun v => Q (some v)) E s) :
    wpAny M A (callSpecialIfBound? (.ref x) "__ne__" args) Q E s := by
  simp only [callSpecialIfBound?, bindSpecialIfBound?]
  have fin : wpAny M A (call (.builtin "object.__ne__") ([.ref x] ++ args) >>= fun v => pure (some v)) Q E s :=
    wpAny_bind (wpAny_mono h (fun v s' g => wpAny_pure g) fun _ _ g => g)
  refine wpAny_holding (wpAny_bind (wpAny_bind (wpAny_bind (J.type.here
    ((PySem.W.looks_findIn KX hs).here ?_)))))
  refine wpAny_bind (wpAny_askSetting (wpAny_ite ?_))
  split
  · exact wpAny_bind (wpAny_of_eq (F.cmp_object.ne.bind _) (wpAny_pure
      (by exact fin)))
  · exact wpAny_tryCatch (wpAny_bind (wpAny_of_eq (F.cmp_object.ne.bind _) (wpAny_pure
      (by exact fin))))
/-- the default __ne__ asks == and turns it about -/
theorem entry_ne {prog : Program} {w : World} {A : Around} {E : Value → Shared → Prop} {K : PySem.W.Frag} {s : Shared} {x y C f : Addr} {ox : Obj} {od : Option Obj} {Q : Fin → Shared → Prop}
    (hu : A.units < cLine) (KX : K.In s.heap) (J : PySem.W.InstAt s.heap x ox C od) (hs : PySem.W.findIn K (.ref C) "__eq__" = some (some (.ref f))) (hf : PySem.W.isFn K (.ref f) = true)
    (h : wpAny (model prog w) A (call (.ref f) [.ref x, .ref y]) (fun v s' => v = .bool true ∧ Q (.done (.ret (.bool false))) s') E s) :
    wpAny (model prog w) A (Builtin.«object.__ne__» ⟨[.ref x, .ref y], []⟩) Q E s := by
  unfold Builtin.«object.__ne__»
  repeat (first
    | with_reducible refine wpAny_cRoomFor hu ?_
    | (refine wpAny_bind (m := callSpecialIfBound? (.ref x) (Str.ofString "__eq__") [.ref y]) (PySem.W.ifBound_K KX J hs hf (wpAny_mono h (fun v s' g => ?_) fun _ _ g => g)))
    | wp_step)
  obtain ⟨rfl, g⟩ := g
  repeat (first | exact g | exact wpAny_pure g | exact wpAny_truthy_bool g | (refine wpAny_bind (m := truthy (.bool _)) (wpAny_truthy_bool ?_)) | wp_step)
/-- x != y as an expression: False -/
theorem op_neG {n : Nat} {C f : Addr} {fd : FuncData} {ps : List Str} {R : Addr → Addr → Hp → Prop}
    (W : FnOk X.prog X.w X.K X.mg X.base CX0 n f fd ps (spEq R)) (he : PySem.W.findIn X.K (.ref C) "__eq__" = some (some (.ref f))) (hf : PySem.W.isFn X.K (.ref f) = true)
    (hs : PySem.W.findIn X.K (.ref C) "__ne__" = some (some (.builtin "object.__ne__"))) (ho : PySem.W.mroIn X.K C (.type "object") = some true)
    (hb : Binds X.K fd ps []) (hr : Room (n + 1) X.A) :
    OpR X (compareOp .NotEq) (fun x y H Q => DIns C R x y H ∧ ∀ H', Ext H H' → Q (.bl false) H') := by
  intro pins s σ H x y v u Q I rx ry h
  obtain ⟨⟨a, b, dx, dy, fs, gs, rfl, rfl, ha, hb', hR⟩, q⟩ := h
  cases rx
  cases ry
  obtain ⟨mA, J, _⟩ := ins_get I.hok ha
  obtain ⟨mB, J', _⟩ := ins_get I.hok hb'
  obtain ⟨od, J, _⟩ := J.look
  obtain ⟨od', J', _⟩ := J'.look
  have sb : Sub X n X.A.in1 := ⟨hr.in1, rfl⟩
  have one : wpAny (model X.prog X.w) X.A (tryCompare (.ref a) "__ne__" (.ref b)) (fun r s' => r = some (.bool false) ∧ ∃ H', Inv X pins σ H' s' ∧ Ext H H') X.xe s := by
    unfold tryCompare
    refine wpAny_bind (bound_ne I.kIn J hs ?_)
    refine wpAny_call (codeAny_call_builtin F.cmp_object.ne.plain F.cmpEntry_ne (PySem.W.check_slot F.cmpKind_ne F.cmpSplit_ne (J.type.andThen (PySem.W.looks_mroIn I.kIn ho)) (F.cmpArgs_ne _ _) ?_))
    refine entry_ne sb.room.units0 I.kIn J he hf (wpAny_mono (call_own W hb sb I hR) (fun r s' g => ?_) fun _ _ g => g)
    exact ⟨g.1, wpAny_pure ⟨rfl, g.2⟩⟩
  show wpAny (model X.prog X.w) X.A (richCompare .NotEq (.ref a) (.ref b)) (EP X pins σ Q) X.xe s
  simp only [richCompare, cmpInfo_NotEq, oneThing_ref]
  refine wpAny_holding (wpAny_bind (wpAny_cRoomFor hr.units0 ?_))
  refine wpAny_bind (J.type.here (wpAny_bind (J'.type.here ?_)))
  rw [show (Value.ref C != Value.ref C) = false from by simp]
  simp only [Bool.false_eq_true, if_false]
  refine wpAny_bind (wpAny_pure ?_)
  simp only [Bool.false_eq_true, if_false]
  refine wpAny_bind (wpAny_mono one (fun r s' g => ?_) fun _ _ g => g)
  obtain ⟨rfl, H', I', e⟩ := g
  exact wpAny_pure ⟨.bl false, H', I', rfl, q H' e⟩
end
end Fg
set_option Elab.async false
set_option linter.all false
set_option maxRecDepth 100000
set_option maxHeartbeats 4000000
namespace Fg
open PySem PySem.Spec PyProof.Rows L2 TL
/-! ### == of a program and anything -/
/-- built-in types that are no program -/
structure Apart (K : PySem.W.Frag) (C : Addr) : Prop where
  cls : PySem.W.isClsIn K C = true
  ty : PySem.W.typeIn K (.ref C) = some (.type "type")
  str : PySem.W.subIn K (.type "str") (.ref C) = some false
  non : PySem.W.subIn K (.type "NoneType") (.ref C) = some false
  int : PySem.W.subIn K (.type "int") (.ref C) = some false
  tup : PySem.W.subIn K (.type "tuple") (.ref C) = some false
  lst : PySem.W.subIn K (.type "list") (.ref C) = some false
  dct : PySem.W.subIn K (.type "dict") (.ref C) = some false
theorem Apart.kit {K : PySem.W.Frag} {C : Addr} (h : Apart K C) {T : String} (e : PySem.W.subIn K (.type T) (.ref C) = some false) : PySem.W.kitOne K (.type T) (.ref C) = some false ∧ PySem.W.notFirst K C (.type T) = true := by
  refine ⟨?_, ?_⟩
  · unfold PySem.W.kitOne
    rw [if_neg (fun z => by have := eq_of_beq z; cases this)]
    show (if ((PySem.W.clsIn K C).isSome && PySem.W.typeIn K (.ref C) == some (.type "type")) = true then PySem.W.subIn K (.type T) (.ref C) else none) = _
    rw [if_pos (by rw [show (PySem.W.clsIn K C).isSome = true from h.cls, h.ty]; exact beq_self_eq_true _), e]
  · unfold PySem.W.notFirst
    rw [e]
    exact Bool.or_true _
/-- what == of a program of this text and a value tells -/
inductive EqRes (C : Addr) (z : Str) (H : Hp) : V → Bool → Prop where
  | prog {b dy : Addr} {gs : List (Str × V)} {z2 : Str} (h : H b = some (.ins C dy gs)) (e : gs.lookup ("text" : Str) = some (V.str z2)) : EqRes C z H (.ref b) (decide (z = z2))
  | str (x : Str) : EqRes C z H (.str x) false
  | non : EqRes C z H .non false
  | int (i : Int) : EqRes C z H (.int i) false
  | tup {b : Addr} {xs : List V} (h : H b = some (.tup xs)) : EqRes C z H (.ref b) false
  | lst {b : Addr} {xs : List V} (h : H b = some (.lst xs)) : EqRes C z H (.ref b) false
  | dct {b : Addr} {kvs : List (Key × V)} (h : H b = some (.dK kvs)) : EqRes C z H (.ref b) false
theorem EqRes.same {C : Addr} {z : Str} {H H' : Hp} {y : V} {r : Bool} (h : EqRes C z H y r) (s : Ext H H') : EqRes C z H' y r := by
  cases h with
  | prog h e => exact .prog (s _ _ h) e
  | str x => exact .str x
  | non => exact .non
  | int i => exact .int i
  | tup h => exact .tup (s _ _ h)
  | lst h => exact .lst (s _ _ h)
  | dct h => exact .dct (s _ _ h)
theorem EqRes.ty {K : PySem.W.Frag} {C : Addr} {z : Str} {H : Hp} {y : V} {r : Bool} (h : EqRes C z H y r) (AP : Apart K C) (TI : IsTxt K C) (cl : Cls K C) : ∃ t b, TyX K H y t ∧ PySem.W.kitOne K t (.ref C) = some b ∧ PySem.W.notFirst K C t = true ∧
    (b = false → r = false) ∧ (b = true → ∃ (a dy : Addr) (gs : List (Str × V)) (z2 : Str), y = .ref a ∧ H a = some (.ins C dy gs) ∧ gs.lookup ("text" : Str) = some (V.str z2) ∧ r = decide (z = z2)) := by
  have no : ∀ {P : Prop}, (false : Bool) = true → P := fun e => by cases e
  cases h with
  | prog h e =>
    refine ⟨.ref C, true, .base (.ins h cl TI.ha TI.hn TI.htk TI.hm), ?_, ?_, fun e => (by cases e), fun _ => ⟨_, _, _, _, rfl, h, e, rfl⟩⟩
    · unfold PySem.W.kitOne
      rw [if_pos (beq_self_eq_true _)]
    · unfold PySem.W.notFirst
      rw [beq_self_eq_true]
      rfl
  | str x => exact ⟨_, false, .base (.str x), (AP.kit AP.str).1, (AP.kit AP.str).2, fun _ => rfl, no⟩
  | non => exact ⟨_, false, .base .non, (AP.kit AP.non).1, (AP.kit AP.non).2, fun _ => rfl, no⟩
  | int i => exact ⟨_, false, .base (.int i), (AP.kit AP.int).1, (AP.kit AP.int).2, fun _ => rfl, no⟩
  | tup h => exact ⟨_, false, .base (.tup h), (AP.kit AP.tup).1, (AP.kit AP.tup).2, fun _ => rfl, no⟩
  | lst h => exact ⟨_, false, .base (.lst h), (AP.kit AP.lst).1, (AP.kit AP.lst).2, fun _ => rfl, no⟩
  | dct h => exact ⟨_, false, .base (.dK h), (AP.kit AP.dct).1, (AP.kit AP.dct).2, fun _ => rfl, no⟩
def spEqB (C : Addr) : Sp := fun vs H Q _ => ∃ (a dx : Addr) (fs : List (Str × V)) (z : Str) (y : V) (r : Bool), vs = [.ref a, y] ∧ H a = some (.ins C dx fs) ∧ fs.lookup ("text" : Str) = some (V.str z) ∧ EqRes C z H y r ∧ ∀ H', Ext H H' → Q (.bl r) H'
section
variable {P : Program} {w : World} {K : PySem.W.Frag} {mg : Str → Option Value} {base : Heap}
theorem ok_program_eqB {f CP : Addr} {fd : FuncData} (F : Fun K "__eq__" "Program.__eq__" s_Program_eq f fd) (TG : GTxt K CP) (TI : IsTxt K CP) (AP : Apart K CP) (hisi : mg "isinstance" = none) (hP : mg "Program" = some (.ref CP)) : FnOk P w K mg base CX0 1 f fd ["self", "other"] (spEqB CP) := by
  refine F.ok sc_Program_eq (fun vs H Q E h => ?_) (fun cdv A outer st H vs Q E hr h => ?_)
  · obtain ⟨a, dx, fs, z, y, r, rfl, _⟩ := h
    rfl
  obtain ⟨a, dx, fs, z, y, r, rfl, ha, e1, er, q⟩ := h
  refine ⟨_, (pss_one (ps_ret (pe_and (pe_callB call_isi (by rfl) hisi (by decide +kernel) (pa_cons (pv 1) (pa_cons (pe_glob (v := .ref CP) (by rfl) hP rfl) pa_nil))) (pe_one (pe_cmpR op_eq (pe_fld (pv 0) rfl) (pe_fld (pv 1) rfl) (nomark _)))))), ?_⟩
  obtain ⟨t, b, h1, h2, _, h4, h5⟩ := er.ty AP TI TG.cl
  refine ⟨_, rfl, y, .ref CP, t, .ref CP, b, rfl, .own CP, h1, h2, b, rfl, ?_⟩
  cases b with
  | false =>
    refine iteF ?_
    rw [h4 rfl] at q
    exact q _ Ext.rfl'
  | true =>
    obtain ⟨c, dy, gs, z2, rfl, hc, e2, rfl⟩ := h5 rfl
    refine iteT ⟨_, rfl, a, CP, dx, _, _, rfl, ha, TG.cl, TG.nText, e1, _, rfl, c, CP, dy, _, _, rfl, hc, TG.cl, TG.nText, e2, rfl, ?_⟩
    have e : decide (V.str z = V.str z2) = decide (z = z2) := decide_eq_decide.mpr ⟨fun h => V.str.inj h, fun h => by rw [h]⟩
    rw [e]
    exact q _ Ext.rfl'
end
section
variable {X : Cx}
theorem call_ownB {n : Nat} {C f : Addr} {fd : FuncData} {ps : List Str}
    (W : FnOk X.prog X.w X.K X.mg X.base CX0 n f fd ps (spEqB C)) (hb : Binds X.K fd ps [])
    {A : Around} (sb : Sub X n A) {pins : List (Addr × Obj)} {σ : L2.St} {H : Hp} {s : Shared} {a dx : Addr} {fs : List (Str × V)} {z : Str} {y : V} {v : Value} {r : Bool} (I : Inv X pins σ H s) (ry : RelV y v) (ha : H a = some (.ins C dx fs)) (e1 : fs.lookup ("text" : Str) = some (V.str z)) (er : EqRes C z H y r) :
    wpAny (model X.prog X.w) A (call (.ref f) [.ref a, v]) (fun u s' => u = .bool r ∧ ∃ H', Inv X pins σ H' s' ∧ Ext H H') X.xe s := by
  have want : spEqB C [.ref a, y] H (fun v H' => v = .bl r ∧ Ext H H') (fun _ _ _ => False) :=
    ⟨a, dx, fs, z, y, r, rfl, ha, e1, er, fun H' e => ⟨rfl, e⟩⟩
  have e0 := I.env0
  have lenP := W.len _ _ _ _ want
  have bind := hb s [.ref a, v] I.kIn (by simpa using lenP)
  rw [List.append_nil] at bind
  refine wpAny_call (codeAny_mono (W.run A X.stack s H ⟨[.ref a, v], []⟩ _ [.ref a, y] _ _ sb.room
    ⟨sb.fr.trans e0.frames, e0.mod, e0.bs, e0.bsz, e0.funs, e0.frf, e0.hok, e0.bare⟩ bind (.cons rfl (.cons ry .nil)) want) fun r s' ends => ?_)
  match r, ends with
  | .error e, ends => exact ends.elim
  | .ok (.ret v), ends =>
    obtain ⟨z, H', I', rz, ez, ex⟩ := I.after ends
    subst ez
    cases rz
    exact ⟨rfl, H', I', ex⟩
  | .ok .next, ends => exact ends.elim
  | .ok .brk, ends => exact ends.elim
  | .ok .cont, ends => exact ends.elim
/-- x == y, x a program -/
def rEqB (C : Addr) : R2 := fun x y H Q => ∃ (a dx : Addr) (fs : List (Str × V)) (z : Str) (r : Bool), x = .ref a ∧ H a = some (.ins C dx fs) ∧ fs.lookup ("text" : Str) = some (V.str z) ∧ EqRes C z H y r ∧ ∀ H', Ext H H' → Q (.bl r) H'
def rNeB (C : Addr) : R2 := fun x y H Q => ∃ (a dx : Addr) (fs : List (Str × V)) (z : Str) (r : Bool), x = .ref a ∧ H a = some (.ins C dx fs) ∧ fs.lookup ("text" : Str) = some (V.str z) ∧ EqRes C z H y r ∧ ∀ H', Ext H H' → Q (.bl (!r)) H'
theorem op_eqB {n : Nat} {C f : Addr} {fd : FuncData} {ps : List Str}
    (W : FnOk X.prog X.w X.K X.mg X.base CX0 n f fd ps (spEqB C)) (AP : Apart X.K C) (TI : IsTxt X.K C) (cl : Cls X.K C) (he : PySem.W.findIn X.K (.ref C) "__eq__" = some (some (.ref f))) (hf : PySem.W.isFn X.K (.ref f) = true)
    (hb : Binds X.K fd ps []) (hr : Room n X.A) : OpR X (compareOp .Eq) (rEqB C) := by
  intro pins s σ H x y v u Q I rx ry h
  obtain ⟨a, dx, fs, z, r, rfl, ha, e1, er, q⟩ := h
  cases rx
  obtain ⟨t, b, h1, _, h3, _⟩ := er.ty AP TI cl
  obtain ⟨mA, J, _⟩ := ins_get I.hok ha
  obtain ⟨od, J, _⟩ := J.look
  obtain ⟨P, Z, p, hx⟩ := kit_of I ry h1
  obtain ⟨m, hF⟩ := I.fr
  show wpAny (model X.prog X.w) X.A (richCompare .Eq (.ref a) u) (EP X pins σ Q) X.xe s
  refine PySem.W.cmp_K (op := .Eq) (tb := t) hr.units0 hF I.ok.mod.kin J (Z.ty _ _ I.kIn p) h3 he hf ?_
  refine wpAny_mono (call_ownB W hb ⟨hr, rfl⟩ I ry ha e1 er) (fun u s' g => ?_) fun _ _ g => g
  obtain ⟨rfl, H', I', e⟩ := g
  exact ⟨.bl r, H', I', rfl, q H' e⟩
theorem entry_neB {prog : Program} {w : World} {A : Around} {E : Value → Shared → Prop} {K : PySem.W.Frag} {s : Shared} {x C f : Addr} {y : Value} {ox : Obj} {od : Option Obj} {Q : Fin → Shared → Prop} {r : Bool}
    (hu : A.units < cLine) (KX : K.In s.heap) (J : PySem.W.InstAt s.heap x ox C od) (hs : PySem.W.findIn K (.ref C) "__eq__" = some (some (.ref f))) (hf : PySem.W.isFn K (.ref f) = true)
    (h : wpAny (model prog w) A (call (.ref f) [.ref x, y]) (fun v s' => v = .bool r ∧ Q (.done (.ret (.bool (!r)))) s') E s) :
    wpAny (model prog w) A (Builtin.«object.__ne__» ⟨[.ref x, y], []⟩) Q E s := by
  unfold Builtin.«object.__ne__»
  repeat (first
    | with_reducible refine wpAny_cRoomFor hu ?_
    | (refine wpAny_bind (m := callSpecialIfBound? (.ref x) (Str.ofString "__eq__") [y]) (PySem.W.ifBound_K KX J hs hf (wpAny_mono h (fun v s' g => ?_) fun _ _ g => g)))
    | wp_step)
  obtain ⟨rfl, g⟩ := g
  repeat (first | exact g | exact wpAny_pure g | exact wpAny_truthy_bool g | (refine wpAny_bind (m := truthy (.bool _)) (wpAny_truthy_bool ?_)) | wp_step)
theorem op_neB {n : Nat} {C f : Addr} {fd : FuncData} {ps : List Str}
    (W : FnOk X.prog X.w X.K X.mg X.base CX0 n f fd ps (spEqB C)) (AP : Apart X.K C) (TI : IsTxt X.K C) (cl : Cls X.K C) (he : PySem.W.findIn X.K (.ref C) "__eq__" = some (some (.ref f))) (hf : PySem.W.isFn X.K (.ref f) = true)
    (hs : PySem.W.findIn X.K (.ref C) "__ne__" = some (some (.builtin "object.__ne__"))) (ho : PySem.W.mroIn X.K C (.type "object") = some true)
    (hb : Binds X.K fd ps []) (hr : Room (n + 1) X.A) :
    OpR X (compareOp .NotEq) (fun x y H Q => rNeB C x y H Q ∧ ∃ (b dy : Addr) (gs : List (Str × V)), y = .ref b ∧ H b = some (.ins C dy gs)) := by
  intro pins s σ H x y v u Q I rx ry h
  obtain ⟨⟨a, dx, fs, z, r, rfl, ha, e1, er, q⟩, b, dy, gs, rfl, hb'⟩ := h
  cases rx
  cases ry
  obtain ⟨mA, J, _⟩ := ins_get I.hok ha
  obtain ⟨mB, J', _⟩ := ins_get I.hok hb'
  obtain ⟨od, J, _⟩ := J.look
  obtain ⟨od', J', _⟩ := J'.look
  have sb : Sub X n X.A.in1 := ⟨hr.in1, rfl⟩
  have one : wpAny (model X.prog X.w) X.A (tryCompare (.ref a) "__ne__" (.ref b)) (fun u s' => u = some (.bool (!r)) ∧ ∃ H', Inv X pins σ H' s' ∧ Ext H H') X.xe s := by
    unfold tryCompare
    refine wpAny_bind (bound_ne I.kIn J hs ?_)
    refine wpAny_call (codeAny_call_builtin F.cmp_object.ne.plain F.cmpEntry_ne (PySem.W.check_slot F.cmpKind_ne F.cmpSplit_ne (J.type.andThen (PySem.W.looks_mroIn I.kIn ho)) (F.cmpArgs_ne _ _) ?_))
    refine entry_neB (r := r) sb.room.units0 I.kIn J he hf (wpAny_mono (call_ownB (y := .ref b) (v := .ref b) W hb sb I rfl ha e1 er) (fun u s' g => ?_) fun _ _ g => g)
    exact ⟨g.1, wpAny_pure ⟨rfl, g.2⟩⟩
  show wpAny (model X.prog X.w) X.A (richCompare .NotEq (.ref a) (.ref b)) (EP X pins σ Q) X.xe s
  simp only [richCompare, cmpInfo_NotEq, oneThing_ref]
  refine wpAny_holding (wpAny_bind (wpAny_cRoomFor hr.units0 ?_))
  refine wpAny_bind (J.type.here (wpAny_bind (J'.type.here ?_)))
  rw [show (Value.ref C != Value.ref C) = false from by simp]
  simp only [Bool.false_eq_true, if_false]
  refine wpAny_bind (wpAny_pure ?_)
  simp only [Bool.false_eq_true, if_false]
  refine wpAny_bind (wpAny_mono one (fun u s' g => ?_) fun _ _ g => g)
  obtain ⟨rfl, H', I', e⟩ := g
  exact wpAny_pure ⟨.bl (!r), H', I', rfl, q H' e⟩
end
end Fg
set_option Elab.async false
set_option linter.all false
set_option maxRecDepth 100000
set_option maxHeartbeats 4000000
namespace Fg
open PySem L2 TL
/-! ### _law_other -/
abbrev s_other : Stmt := top 34
abbrev sc_otherN : List Str := ["_law_pot", "_law_source", "_law_rows", "_law_spots", "_law_at", "_law_blanks", "_law_word", "_law_row"]
theorem sc_other : FnScope sc_otherN ["_law_pot", "_law_source"] (defScope s_other) := ⟨rfl, rfl, rfl, by decide +kernel, rfl, by decide +kernel, by decide +kernel⟩
def fourQ : List (List Str) := [["write", "q"], ["write", "a"], ["copy"], ["write", "x"]]
theorem four_eq : ([.str "write q", .str "write a", .str "copy", .str "write x"] : List V) = (fourQ.map (Txt.join blank)).map V.str := by
  have h : (["write q", "write a", "copy", "write x"] : List Str) = fourQ.map (Txt.join blank) := by decide +kernel
  rw [← h]
  rfl
theorem four_ok : ∀ q ∈ fourQ, (!q.isEmpty && q.all fun x => decide (tl x ≠ []) && decide (32 ∉ tl x) && (PyData.strOk x && noSp x)) = true ∧ (Txt.join blank q).length ≤ 7 ∧ 10 ∉ tl (Txt.join blank q) := by decide +kernel
theorem four_plain {sy : Str} {ms ss : NV} {q : List Str} (h : q ∈ fourQ) : Plainly sy ms ss q := by
  unfold fourQ at h
  simp only [List.mem_cons, List.not_mem_nil, or_false] at h
  rcases h with rfl | rfl | rfl | rfl
  · exact ⟨"write", ["q"], rfl, .write _ (by decide +kernel) (by decide +kernel), by decide +kernel, by decide +kernel⟩
  · exact ⟨"write", ["a"], rfl, .write _ (by decide +kernel) (by decide +kernel), by decide +kernel, by decide +kernel⟩
  · exact ⟨"copy", [], rfl, .copy, by decide +kernel, by decide +kernel⟩
  · exact ⟨"write", ["x"], rfl, .write _ (by decide +kernel) (by decide +kernel), by decide +kernel, by decide +kernel⟩
theorem cutV_from (xs : List V) (k : Nat) : cutV xs (some (k : Int)) none = xs.drop k := by
  unfold cutV
  rw [HT.sIx_none, HT.sIx_nat]
  by_cases h : k ≤ xs.length
  · rw [Nat.min_eq_left h, List.take_of_length_le (by rw [List.length_drop]; omega)]
  · rw [Nat.min_eq_right (by omega), List.drop_of_length_le (Nat.le_refl _), List.drop_of_length_le (by omega), List.take_nil]
theorem cut_blanks {d : Nat} {ws : List Str} : cutS (lineOf (d, ws)) none (some ((2 * d : Nat) : Int)) = ind d := by
  refine ext_tl ?_
  unfold cutS
  rw [HT.sIx_none, HT.sIx_nat]
  have hl : 2 * d ≤ (lineOf (d, ws)).length := by
    rw [len_tl, tl_line, List.length_append, List.length_replicate]
    omega
  rw [Nat.min_eq_left hl]
  show ((tl (lineOf (d, ws))).drop 0).take (2 * d - 0) = tl (ind d)
  rw [List.drop_zero, Nat.sub_zero, tl_line, tl_ind, List.take_append_of_le_length (by rw [List.length_replicate]; omega), List.take_of_length_le (by rw [List.length_replicate]; omega)]
theorem in_two {x a b : Str} (h : inV (.str x) [.str a, .str b] = true) : x = a ∨ x = b := by
  unfold inV at h
  rw [List.any_cons, List.any_cons, List.any_nil, Bool.or_false, Bool.or_eq_true] at h
  rcases h with h | h
  · exact .inl (eq_of_beq h).symm
  · exact .inr (eq_of_beq h).symm
theorem copy_lone {x : Str} (h : x = "write" ∨ x = "copy") : Lone x := by
  rcases h with rfl | rfl <;> decide +kernel
abbrev nV (js : List Nat) : List V := js.map fun (j : Nat) => V.int (j : Int)
theorem dp_nats {K : PySem.W.Frag} {H : Hp} (js : List Nat) : DpAll K H (nV js) ((js.map fun (j : Nat) => (j : Int)).map PyData.int) := by
  have := dp_ints (K := K) (H := H) (js.map fun (j : Nat) => (j : Int))
  rw [List.map_map] at this
  exact this
theorem eqv_nats0 (js : List Nat) : PyData.eqv (.list ((js.map fun (j : Nat) => (j : Int)).map PyData.int)) (.list []) = js.isEmpty := by
  cases js <;> rfl
theorem shaped_nats (js : List Nat) : SeqAt.shaped (.list ((js.map fun (j : Nat) => (j : Int)).map PyData.int)) = true := by
  obtain ⟨h1, h2⟩ := lay_ints (js.map fun (j : Nat) => (j : Int))
  unfold SeqAt.shaped
  simp only [PyData.canLay0, PyData.canLayAll0, PyData.depth, h1, h2] <;> rfl
theorem ps_weak {X : Cx} {s : Stmt} {t t' : TS} (h : PS X s t) (i : ∀ D σ H, t' D σ H → t D σ H) : PS X s t' := ⟨fun pins s σ H D I q => h.run pins s σ H D I (i _ _ _ q)⟩
/-- the last row where there is none -/
def tSome : TS := fun D σ H => ∃ (p l D0 : Addr) (z : Str) (js : List Nat) (xs : List V) (x4 x5 x6 x7 : Option V), σ = [some (.ref p), some (.str z), some (.ref l), some (.ref D0), x4, x5, x6, x7] ∧ H D0 = some (.lst (nV js)) ∧ H l = some (.lst xs) ∧ 1 ≤ xs.length ∧
  ∀ (l2 : Addr) (ks : List Nat) (H' : Hp), Same H H' → H' l2 = some (.lst (nV ks)) → ((ks = js ∧ ks ≠ [] ∧ l2 = D0) ∨ (ks = [xs.length - 1] ∧ H l2 = none)) → D.nx [some (.ref p), some (.str z), some (.ref l), some (.ref l2), x4, x5, x6, x7] H'
abbrev tSpot (K : PySem.W.Frag) : TE := tOp (rIxL K) (tM0 (fun x xs H Q => ∃ a, x = .str a ∧ xs = [] ∧ a.length + 2 ≤ sizeLine ∧ rNewStrs (Txt.words a) H Q) (tVar 7)) (tC (.int 0))
theorem sum_lines2 : ∀ {rows : List Row}, (∀ r ∈ rows, (lineOf r).length ≤ 10000) → ((rows.map lineOf).map fun x => x.length).sum ≤ 10000 * rows.length
  | [], _ => Nat.le_refl _
  | r :: t, h => by
    have h1 := h r List.mem_cons_self
    have h2 := sum_lines2 fun x hx => h x (List.mem_cons_of_mem _ hx)
    rw [List.map_cons, List.map_cons, List.sum_cons, List.length_cons]
    omega
def spOther : Sp := fun vs H Q _ => ∃ (p : Addr) (n : Nat) (sy : Str) (ms : NV) (ps : List PartR) (ma : List Row) (nm : Nat) (rows : List Row) (z : Str), vs = [.ref p, .str z] ∧ Pot H p n ∧ n + 10 < 100000 ∧ TextOk sy ms ps ma nm rows z ∧ RowsOk rows ∧ rows.length ≤ 70 ∧
  ∀ (z' : Str) (ps' : List PartR) (ma' : List Row) (rows' : List Row) (H' : Hp), TextOk sy ms ps' ma' nm rows' z' → rows'.length ≤ 70 → Pot H' p (n + 2) → But p H H' → Q (.str z') H'
section
variable {P : Program} {w : World} {K : PySem.W.Frag} {mg : Str → Option Value} {base : Heap}
theorem ok_other {f : Addr} {fd : FuncData} (F : Fun K "_law_other" "_law_other" s_other f fd) (T : Bare mg) (hen : mg "enumerate" = none) (CO : Callee P w K mg base 2 "_law_of" ["_law_pot", "_law_some"] (spOf K)) :
    FnOk P w K mg base CX0 3 f fd ["_law_pot", "_law_source"] spOther := by
  refine F.ok sc_other (fun vs H Q E h => ?_) (fun cdv A outer st H vs Q E hr h => ?_)
  · obtain ⟨p, n, sy, ms, ps, ma, nm, rows, z, rfl, _⟩ := h
    rfl
  obtain ⟨p, n, sy, ms, ps, ma, nm, rows, z, rfl, hp, hn, TO, RO, h70, q⟩ := h
  have hu := hu_of hr
  refine ⟨_, (pss_cons (ps_set (i := 2) sc_other.nd rfl (Or.inl rfl) (pe_split (pv 1) pe_str))
(pss_cons (ps_setLc (i := 3) (own := [("_law_at", 4), ("_law_row", 7)]) (g := gTup K 2 (gCons (gName 4) (gCons (gName 7) gNil))) rfl sc_other.nd rfl rfl (sw_true rfl rfl rfl (by decide +kernel)) (pi_enum (by rfl) hen (pa_cons (pv 2) pa_nil)) (blkOk_by (N := sc_otherN) (sc := defScope s_other) (by decide +kernel)) (fun _ _ _ _ _ => pg_tup (by rfl) (pgs_cons (pg_name (i := 4) sc_other.nd rfl (Or.inl rfl)) (pgs_cons (pg_name (i := 7) sc_other.nd rfl (Or.inl rfl)) pgs_nil))) (fun _ _ _ _ _ => (pts_one (pt_cmpR (show OpR _ (compareOp .In) (rIn K false) from op_in_seq) (show PE _ _ (tSpot K) from pe_ix ix_list (pe_words (pv 7)) pe_int (fun _ _ => rfl)) (pe_tup (pa_cons pe_str (pa_cons pe_str pa_nil))) (by rfl)))) (fun _ _ _ _ _ => (pv 4)))
(pss_cons (ps_weak (t' := tSome) (ps_if (pt_cmpR (op_eqD hr.units) (pv 3) (pe_lst pa_nil) (nomark _))
(pss_one (ps_set (i := 3) sc_other.nd rfl (Or.inl rfl) (pe_lst (pa_cons (pe_op op_sub (pe_callB call_len_seq (by rfl) T.len PySem.boot_len (pa_cons (pv 2) pa_nil)) pe_int) pa_nil))))
pss_nil) (fun D σ H h => by
    obtain ⟨p, l, D0, z, js, xs, x4, x5, x6, x7, rfl, h1, h2, h3, q⟩ := h
    refine ⟨_, rfl, small (by show 0 ≤ 1000; decide), fun A hA => ?_⟩
    have sA := same_new hA (.lst [])
    refine ⟨.list ((js.map fun (j : Nat) => (j : Int)).map PyData.int), .list [], .lst (.inl (.inl (sA _ _ h1))) (dp_nats js), .lst (.inl (.inl upd_same)) .nil, shaped_nats js, shaped_nil, _, congrArg V.bl (eqv_nats0 js), ?_⟩
    generalize upd H A (.lst []) = H1 at sA ⊢
    refine ite2 (fun e => ?_) (fun e => ?_)
    · refine ⟨_, rfl, l, xs, rfl, .inl (.inl (.inl (sA _ _ h2))), (xs.length : Int), 1, rfl, rfl, small (by show 1 ≤ 1000; decide), fun B hB => ?_⟩
      have e1 : ((xs.length : Int) - 1) = ((xs.length - 1 : Nat) : Int) := by omega
      exact q B [xs.length - 1] _ (sA.trans (same_new hB _)) (by
        rw [upd_same]
        show some (HO.lst [V.int ((xs.length : Int) - 1)]) = some (HO.lst (nV [xs.length - 1]))
        rw [e1]
        rfl) (.inr ⟨rfl, sA.free hB⟩)
    · exact q D0 js _ sA (sA _ _ h1) (.inl ⟨rfl, fun e2 => e (by rw [e2]; rfl), rfl⟩)))
(pss_cons (ps_set (i := 4) sc_other.nd rfl (Or.inl rfl) (pe_call CO.ok hr rfl CO.mg CO.kp CO.b .nil pass0 (pa_cons (pv 0) (pa_cons (pv 3) pa_nil))))
(pss_cons (ps_set (i := 5) sc_other.nd rfl (Or.inl rfl) (pe_slice sl_str (pe_ix ix_list (pv 2) (pv 4) (fun _ _ => rfl)) po_none (po_some (pe_op op_sub (pe_callB call_len_str (by rfl) T.len PySem.boot_len (pa_cons (pe_ix ix_list (pv 2) (pv 4) (fun _ _ => rfl)) pa_nil)) (pe_callB call_len_str (by rfl) T.len PySem.boot_len (pa_cons (pe_m0 PySem.F.slot_str_lstrip PySem.F.type_str_lstrip mt_lstrip (pe_ix ix_list (pv 2) (pv 4) (fun _ _ => rfl))) pa_nil))))))
(pss_cons (ps_set (i := 6) sc_other.nd rfl (Or.inl rfl) (pe_call CO.ok hr rfl CO.mg CO.kp CO.b .nil pass0 (pa_cons (pv 0) (pa_cons (pe_lst (pa_cons pe_str (pa_cons pe_str (pa_cons pe_str (pa_cons pe_str pa_nil))))) pa_nil))))
(pss_one (ps_ret (pe_join pe_str (pe_op op_cat (pe_op op_cat (pe_slice sl_list (pv 2) po_none (po_some (pv 4))) (pe_lst (pa_cons (pe_op op_add_str (pv 5) (pv 6)) pa_nil))) (pe_slice sl_list (pv 2) (po_some (pe_op op_add (pv 4) pe_int)) po_none))))))))))), ?_⟩
  have hG := TO.ok.good
  obtain ⟨wcs, ⟨u0, e0, y0, t0, hlast, hlone⟩⟩ := TO.ok.wc
  obtain ⟨o0, b0, c0, hpp, _⟩ := id hp.at_
  -- the rows
  refine ⟨_, rfl, ⟨_, rfl⟩, z, _, rfl, rfl, rfl, ?_, fun l hl => ?_⟩
  · have := TO.len
    rw [sizeLine_eq]
    omega
  have s1 := same_new hl (.lst ((Txt.split z nl).map V.str))
  have l1 : (upd H l (.lst ((Txt.split z nl).map V.str))) l = some (.lst ((rows.map lineOf).map V.str)) := by
    rw [upd_same]
    exact congrArg (fun t => some (HO.lst (t.map V.str))) TO.lines
  have nlp : l ≠ p := (ne_of_none hpp hl).symm
  have e4 : upd H l (.lst ((Txt.split z nl).map V.str)) = upd H l (.lst ((Txt.split z nl).map V.str)) := rfl
  generalize hH1 : upd H l (.lst ((Txt.split z nl).map V.str)) = H1 at s1 l1 ⊢
  have hp1 := hp.same s1
  have elen : ((rows.map lineOf).map V.str).length = rows.length := by rw [List.length_map, List.length_map]
  -- the rows that write
  refine ⟨_, rfl, l, _, rfl, .inl (.inl l1), fun D hD => lc_it (walk_enum (xs := (rows.map lineOf).map V.str)) (fun i H' => ∃ js : List Nat, H' D = some (.lst (nV js)) ∧ js.length ≤ i ∧ (∀ j ∈ js, ∃ e x t, rows[j]? = some ((e, x :: t) : Row) ∧ Lone x) ∧ Same H1 H') ⟨[], upd_same, Nat.le_refl _, fun j h => (by cases h), same_new hD _⟩ (fun i H' hi pv => ?_) (fun i x H' H2 hi pv y => ?_) (fun H2 pv => ?_)⟩
  · obtain ⟨js, _, _, _, h⟩ := pv
    exact .inl (.inl (h _ _ l1))
  · rw [elen] at hi
    obtain ⟨js, h1, h2, h3, h4⟩ := pv
    obtain ⟨Tt, _, zv, rfl, hT, rfl, ⟨⟩, hz⟩ := y
    have hz : ((rows.map lineOf).map V.str)[i]? = some zv := hz
    rw [List.getElem?_map, List.getElem?_map] at hz
    obtain ⟨ln, hz1, rfl⟩ := Option.map_eq_some_iff.mp hz
    obtain ⟨r, hr1, rfl⟩ := Option.map_eq_some_iff.mp hz1
    have hrm := List.mem_of_getElem? hr1
    have sT := same_new hT (.tup [.int ((i : Nat) : Int), .str (lineOf r)])
    refine ⟨Tt, _, rfl, .inl (.inl upd_same), rfl, _, _, rfl, _, _, rfl, rfl, rfl, ?_⟩
    have h15 := sT _ _ h1
    generalize upd H' Tt (.tup [.int ((i : Nat) : Int), .str (lineOf r)]) = H5 at sT h15 ⊢
    have h45 := h4.trans sT
    obtain ⟨d, ws⟩ := r
    have hg := hG _ hrm
    obtain ⟨x, t, rfl⟩ : ∃ x t, ws = x :: t := by
      cases ws with
      | nil => exact absurd rfl hg.ne
      | cons a b => exact ⟨a, b, rfl⟩
    refine ⟨_, rfl, ⟨_, rfl⟩, lineOf (d, x :: t), rfl, rfl, ?_, fun W hW => ?_⟩
    · have := TO.short _ hrm
      rw [sizeLine_eq]
      omega
    rw [words_line hg]
    have sW := same_new hW (.lst ((x :: t).map V.str))
    refine ⟨W, _, 0, .str x, rfl, rfl, .inl (.inl upd_same), at_of (j := 0) rfl rfl, small (by show 2 ≤ 1000; decide), fun U hU => ?_⟩
    have sU := same_new hU (.tup [V.str "write", V.str "copy"])
    refine ⟨U, _, rfl, .inr (.inl (.inl upd_same)), rfl, rfl, _, rfl, ?_⟩
    have s57 := sW.trans sU
    generalize upd (upd H5 W (.lst ((x :: t).map V.str))) U (.tup [V.str "write", V.str "copy"]) = H7 at s57 ⊢
    have h17 := s57 _ _ h15
    refine ite2 (fun e => ?_) (fun e => ?_)
    · refine ⟨_, rfl, nV js, h17, ?_, js ++ [i], ?_, ?_, ?_, ?_⟩
      · rw [List.length_map]
        exact Nat.lt_of_lt_of_le (by omega : _ < 1000) (small (Nat.le_refl _))
      · rw [upd_same]
        exact congrArg (fun t => some (HO.lst t)) (List.map_append (f := fun (j : Nat) => V.int (j : Int)) (l₁ := js) (l₂ := [i])).symm
      · rw [List.length_append]
        show js.length + 1 ≤ i + 1
        omega
      · intro j hj
        rcases List.mem_append.mp hj with hj | hj
        · exact h3 j hj
        · rw [List.mem_singleton.mp hj]
          exact ⟨d, x, t, hr1, copy_lone (in_two e)⟩
      · intro b o g
        have g1 := h45.trans s57 b o g
        rw [upd_ne (ne_of_none g hD)]
        exact g1
    · exact ⟨js, h17, by omega, h3, h45.trans s57⟩
  obtain ⟨js, h1, h2, h3, h4⟩ := pv
  rw [elen] at h2
  have hlen : rows.length = u0.length + 1 := by rw [hlast]; simp
  have nDp : D ≠ p := by
    obtain ⟨o1, b1, c1, hpp1, _⟩ := id hp1.at_
    exact (ne_of_none hpp1 hD).symm
  have hp2 := hp1.same h4
  refine ⟨p, l, D, z, js, _, _, _, _, _, rfl, h1, h4 _ _ l1, by rw [elen]; omega, fun l2 ks H3 s3 k1 k2 => ?_⟩
  have hks : ks ≠ [] ∧ ks.length ≤ 70 ∧ (∀ j ∈ ks, ∃ e x t, rows[j]? = some ((e, x :: t) : Row) ∧ Lone x) ∧ l2 ≠ p := by
    rcases k2 with ⟨rfl, g1, rfl⟩ | ⟨rfl, g1⟩
    · exact ⟨g1, by omega, h3, nDp⟩
    · refine ⟨by simp, by show 1 ≤ 70; decide, fun j hj => ?_, ?_⟩
      · rw [List.mem_singleton.mp hj, elen]
        refine ⟨e0, y0, t0, ?_, hlone⟩
        rw [hlast, List.length_append, List.length_singleton, Nat.add_sub_cancel, List.getElem?_append_right (Nat.le_refl _), Nat.sub_self]
        rfl
      · obtain ⟨o1, b1, c1, hpp1, _⟩ := id hp2.at_
        exact (ne_of_none hpp1 g1).symm
  obtain ⟨hk1, hk2, hk3, hk4⟩ := hks
  clear k2
  have hp3 := hp2.same s3
  have l3 := s3 _ _ (h4 _ _ l1)
  have hkl := List.length_pos_iff.mpr hk1
  -- which
  refine ⟨_, rfl, _, rfl, p, l2, nV ks, n, rfl, hp3, by omega, .inl (.inl k1), hk4, by rw [List.length_map]; exact hkl, by rw [List.length_map]; omega, fun i v H5 hv hp5 b5 => ?_⟩
  rw [List.getElem?_map] at hv
  obtain ⟨j, hj, rfl⟩ := Option.map_eq_some_iff.mp hv
  obtain ⟨d, x, t, hr1, hlx⟩ := hk3 j (List.mem_of_getElem? hj)
  have hrm := List.mem_of_getElem? hr1
  have hg : GoodWs (x :: t) := hG _ hrm
  have hline : ((rows.map lineOf).map V.str)[j]? = some (.str (lineOf (d, x :: t))) := by rw [List.getElem?_map, List.getElem?_map, hr1]; rfl
  have l5 := b5 _ _ l3 nlp
  have hz : (lineOf (d, x :: t)).length ≤ sizeLine := by
    have := TO.short _ hrm
    rw [sizeLine_eq]
    omega
  have hlst := lstrip_line (d := d) hg
  have hz2 : (Txt.lstrip (lineOf (d, x :: t))).length ≤ sizeLine := by omega
  have at1 : atI ((rows.map lineOf).map V.str) (j : Int) = some (.str (lineOf (d, x :: t))) := at_of (j := j) rfl hline
  -- the blanks
  refine ⟨_, rfl, _, rfl, l, _, _, _, rfl, rfl, .inl (.inl l5), at1, _, rfl, _, rfl, l, _, _, _, rfl, rfl, .inl (.inl l5), at1, _, rfl, hz, _, rfl, _, rfl, l, _, _, _, rfl, rfl, .inl (.inl l5), at1, ⟨_, rfl⟩, _, rfl, rfl, hz, _, rfl, hz2, _, _, rfl, rfl, _, rfl, _, rfl, hz, ?_⟩
  have ecut : ((lineOf (d, x :: t)).length : Int) - ((Txt.lstrip (lineOf (d, x :: t))).length : Int) = ((2 * d : Nat) : Int) := by omega
  rw [ecut, cut_blanks]
  -- the word
  refine ⟨_, rfl, small (by show 4 ≤ 1000; decide), fun A hA => ?_⟩
  have sA := same_new hA (.lst ([.str "write q", .str "write a", .str "copy", .str "write x"] : List V))
  have hp6 := hp5.same sA
  obtain ⟨o5, b5', c5, hpp5, _⟩ := id hp5.at_
  have nA : A ≠ p := (ne_of_none hpp5 hA).symm
  refine ⟨p, A, [.str "write q", .str "write a", .str "copy", .str "write x"], n + 1, rfl, hp6, by omega, .inl (.inl upd_same), nA, by decide, by decide, fun i2 v2 H7 hv2 hp7 b7 => ?_⟩
  rw [four_eq, List.getElem?_map, List.getElem?_map] at hv2
  obtain ⟨qs, hv3, rfl⟩ := Option.map_eq_some_iff.mp hv2
  obtain ⟨q4, hv4, rfl⟩ := Option.map_eq_some_iff.mp hv3
  have hq4 := List.mem_of_getElem? hv4
  obtain ⟨fo1, fo2, fo3⟩ := four_ok q4 hq4
  have l7 := b7 _ _ (sA _ _ l5) nlp
  have hrl := (RO _ hrm).2.1
  have hdl : 2 * d ≤ 60 := by
    have : (lineOf (d, x :: t)).length = 2 * d + (Txt.join blank (x :: t)).length := by
      unfold lineOf
      rw [len_app, len_ind]
    omega
  have sw : Sw q4 rows (rows.take j ++ (d, q4) :: rows.drop (j + 1)) := by
    obtain ⟨hjl, hje⟩ := List.getElem?_eq_some_iff.mp hr1
    refine ⟨rows.take j, rows.drop (j + 1), d, x, t, ?_, rfl, hlx⟩
    rw [← hje, ← List.drop_eq_getElem_cons hjl, List.take_append_drop]
  obtain ⟨ps', ma', ep, TO', hl'⟩ := text_sw TO.ok RO h70 (fun ss => four_plain hq4) (good_of fo1) fo2 fo3 sw
  -- all of it
  refine ⟨⟨_, rfl⟩, ?_⟩
  refine ⟨_, rfl, _, rfl, _, rfl, l, _, rfl, .inl (.inl l7), fun B hB => ?_⟩
  have sB := same_new hB (.lst (cutV ((rows.map lineOf).map V.str) none (some (j : Int))))
  refine ⟨_, rfl, _, rfl, _, _, rfl, rfl, small (by rw [len_ind]; omega), small (by show 1 ≤ 1000; decide), fun C hC => ?_⟩
  have sC := same_new hC (.lst [V.str (ind d ++ Txt.join blank q4)])
  have hlc : (cutV ((rows.map lineOf).map V.str) none (some (j : Int))).length ≤ 70 := by
    rw [cutV_to, List.length_take, elen]
    omega
  refine ⟨B, C, _, _, rfl, rfl, sC _ _ upd_same, upd_same, small (by show _ + 1 ≤ 1000; omega), fun G hG2 => ?_⟩
  have sG := same_new hG2 (.lst (cutV ((rows.map lineOf).map V.str) none (some (j : Int)) ++ [V.str (ind d ++ Txt.join blank q4)]))
  have s7G := (sB.trans sC).trans sG
  refine ⟨_, rfl, _, rfl, (j : Int), 1, rfl, rfl, _, rfl, l, _, rfl, .inl (.inl (s7G _ _ l7)), fun M hM => ?_⟩
  have sM := same_new hM (.lst (cutV ((rows.map lineOf).map V.str) (some ((j : Int) + 1)) none))
  have hlm : (cutV ((rows.map lineOf).map V.str) (some ((j : Int) + 1)) none).length ≤ 70 := by
    rw [show ((j : Int) + 1) = ((j + 1 : Nat) : Int) from rfl, cutV_from, List.length_drop, elen]
    omega
  refine ⟨G, M, _, _, rfl, rfl, sM _ _ upd_same, upd_same, ?_, fun O hO => ?_⟩
  · rw [List.length_append]
    exact small (by show _ + 1 + _ ≤ 1000; omega)
  have sO := same_new hO (.lst ((cutV ((rows.map lineOf).map V.str) none (some (j : Int)) ++ [V.str (ind d ++ Txt.join blank q4)]) ++ cutV ((rows.map lineOf).map V.str) (some ((j : Int) + 1)) none))
  have eall : (cutV ((rows.map lineOf).map V.str) none (some (j : Int)) ++ [V.str (ind d ++ Txt.join blank q4)]) ++ cutV ((rows.map lineOf).map V.str) (some ((j : Int) + 1)) none = ((rows.take j ++ (d, q4) :: rows.drop (j + 1)).map lineOf).map V.str := by
    rw [show ((j : Int) + 1) = ((j + 1 : Nat) : Int) from rfl, cutV_from, cutV_to, List.map_append, List.map_append, List.map_cons, List.map_cons, List.map_take, List.map_take, List.map_drop, List.map_drop, List.append_assoc]
    rfl
  refine ⟨_, O, (rows.take j ++ (d, q4) :: rows.drop (j + 1)).map lineOf, rfl, rfl, .inl (.inl (.inl (by rw [upd_same, eall]))), ?_, ?_⟩
  · have hs := sum_lines2 TO'.short
    rw [List.length_map, hl']
    have l1 : (Str.ofString "\n").length = 1 := by decide +kernel
    rw [l1]
    rw [hl'] at hs
    omega
  · have b15 : But p H H5 := (But.of_same ((s1.trans h4).trans s3)).trans b5
    refine q _ ps' ma' _ _ TO' (by omega) (hp7.same ((s7G.trans sM).trans sO)) ?_
    exact ((b15.trans (But.of_same sA)).trans b7).trans (But.of_same ((s7G.trans sM).trans sO))
end
end Fg
set_option Elab.async false
set_option linter.all false
set_option maxRecDepth 100000
set_option maxHeartbeats 4000000
namespace Fg
open PySem L2 TL
/-! ### _law_right -/
theorem mem_joinL {s : List Nat} : ∀ {l : List (List Nat)} {c : Nat}, c ∈ joinL s l → c ∈ s ∨ ∃ x ∈ l, c ∈ x
  | [], c, h => by cases h
  | [x], c, h => .inr ⟨x, List.mem_singleton.mpr rfl, h⟩
  | x :: y :: r, c, h => by
    have h : c ∈ x ++ (s ++ joinL s (y :: r)) := h
    rcases List.mem_append.mp h with h | h
    · exact .inr ⟨x, List.mem_cons_self, h⟩
    · rcases List.mem_append.mp h with h | h
      · exact .inl h
      · rcases mem_joinL h with h | ⟨u, hu, h⟩
        · exact .inl h
        · exact .inr ⟨u, List.mem_cons_of_mem _ hu, h⟩
/-- signs as they stand in a text -/
def SignsIn (z : Str) : Prop := ∀ c ∈ z.cps.toList, c < 1114112
theorem signs_ok {x : Str} (h : PyData.strOk x = true) : SignsIn x := fun c hc => by
  unfold PyData.strOk at h
  rw [← Array.all_toList] at h
  exact of_decide_eq_true (List.all_eq_true.mp h c hc)
theorem signs_line {r : Row} (h : GoodWs r.2) : SignsIn (lineOf r) := fun c hc => by
  have hc : c ∈ tl (lineOf r) := hc
  rw [tl_line] at hc
  rcases List.mem_append.mp hc with hc | hc
  · rw [(List.mem_replicate.mp hc).2]
    decide
  · rcases mem_joinL hc with hc | ⟨x, hx, hc⟩
    · rw [List.mem_singleton.mp hc]
      decide
    · obtain ⟨u, hu, rfl⟩ := List.mem_map.mp hx
      exact signs_ok (h.ok u hu) c hc
theorem signs_text {rows : List Row} (h : Good rows) : SignsIn (Txt.join nl (rows.map lineOf)) := fun c hc => by
  have hc : c ∈ tl (Txt.join nl (rows.map lineOf)) := hc
  rw [join_eq, tl_join, tl_nl] at hc
  rcases mem_joinL hc with hc | ⟨x, hx, hc⟩
  · rw [List.mem_singleton.mp hc]
    decide
  · rw [List.map_map] at hx
    obtain ⟨r, hr, rfl⟩ := List.mem_map.mp hx
    exact signs_line (h r hr) c hc
theorem show_strs : ∀ zs : List Str, PyData.showableAll (zs.map .str) = true ∧ PyData.hasDictAll (zs.map .str) = false ∧ PyData.depthAll (zs.map .str) = 0
  | [] => ⟨rfl, rfl, rfl⟩
  | c :: r => by
    obtain ⟨h1, h2, h3⟩ := show_strs r
    refine ⟨?_, ?_, ?_⟩
    · show (true && PyData.showableAll (r.map .str)) = true
      rw [h1]
      rfl
    · show (false || PyData.hasDictAll (r.map .str)) = false
      rw [h2]
      rfl
    · show max 0 (PyData.depthAll (r.map .str)) = 0
      rw [h3]
      rfl
theorem short_str {x : Str} (h : SignsIn x) : PyData.leavesShort 8 (.str x) = true := by
  show (x.cps.toList.all fun c => decide (c < 16 ^ 8)) = true
  refine List.all_eq_true.mpr fun c hc => decide_eq_true (Nat.lt_trans (h c hc) (by decide))
theorem short_many : ∀ {zs : List Str}, (∀ z ∈ zs, SignsIn z ∧ z.length ≤ 10000) → PyData.leavesShortAll 8 (zs.map .str) = true ∧ PyData.bulkAll (zs.map .str) ≤ 10001 * zs.length
  | [], _ => ⟨rfl, Nat.le_refl _⟩
  | c :: r, h => by
    obtain ⟨h1, h2⟩ := short_many fun y hy => h y (List.mem_cons_of_mem _ hy)
    obtain ⟨v1, v2⟩ := h c List.mem_cons_self
    refine ⟨?_, ?_⟩
    · show (PyData.leavesShort 8 (.str c) && PyData.leavesShortAll 8 (r.map .str)) = true
      rw [short_str v1, h1]
      rfl
    · have v2 : c.cps.size ≤ 10000 := v2
      show c.cps.size + 1 + PyData.bulkAll (r.map .str) ≤ 10001 * (r.length + 1)
      omega
/-- letters, as data -/
def letD (zs : List Str) : PyData := .tuple (zs.map .str)
theorem letD_ok {zs : List Str} (h : ∀ z ∈ zs, SignsIn z ∧ z.length ≤ 10000) (hl : zs.length ≤ 60) : (letD zs).showable = true ∧ (letD zs).hasDict = false ∧ (letD zs).depth ≤ 40 ∧ (letD zs).shown.length ≤ sizeLine := by
  obtain ⟨b1, b2, b3⟩ := show_strs zs
  obtain ⟨a1, a2⟩ := short_many h
  refine ⟨b1, b2, ?_, PyData.shown_fits_bulk (B := 8) (by decide) (by decide) a1 ?_⟩
  · show PyData.depthAll (zs.map .str) + 1 ≤ 40
    rw [b3]
    decide
  · show PyData.bulkAll (zs.map .str) ≤ 2 ^ 20
    omega
theorem letter_ok {sy : Str} {rows : List Row} {x : Str} (hs : SignsIn sy) (hg : Good rows) (hl : ∀ r ∈ rows, (lineOf r).length ≤ 10000) (h : LettersOf sy rows x) : SignsIn x ∧ x.length ≤ 10000 := by
  rcases h with ⟨r, hr, e⟩ | ⟨_, h⟩
  · refine ⟨signs_ok ((hg r hr).ok x (by rw [e]; simp)), ?_⟩
    have h1 := hl r hr
    rw [len_tl, tl_line, e, List.length_append] at h1
    have h2 : (joinL [32] ([("write" : Str), x].map tl)).length = (tl ("write" : Str) ++ ([32] ++ tl x)).length := rfl
    rw [h2, List.length_append, List.length_append, ← len_tl x] at h1
    omega
  · unfold charsOf at h
    obtain ⟨c, hc, rfl⟩ := List.mem_map.mp h
    refine ⟨fun d hd => ?_, by show 1 ≤ 10000; decide⟩
    have hd : d ∈ [c] := hd
    rw [List.mem_singleton.mp hd]
    exact hs c hc
abbrev s_right : Stmt := top 35
abbrev sc_rightN : List Str := ["_law_pot", "_law_source", "_law_other_here", "_law_one", "_law_two", "_law_thing"]
theorem sc_right : FnScope sc_rightN ["_law_pot"] (defScope s_right) := ⟨rfl, rfl, rfl, by decide +kernel, rfl, by decide +kernel, by decide +kernel⟩
/-- all but the pot, and statements, is as it was -/
def KeepR (CS p : Addr) (H H' : Hp) : Prop := ∀ b o, H b = some o → b ≠ p → (∀ dx fs, o ≠ .ins CS dx fs) → H' b = some o
/-- how programs are compared -/
structure EqTxt (K : PySem.W.Frag) (C f : Addr) : Prop where
  eq : PySem.W.findIn K (.ref C) "__eq__" = some (some (.ref f))
  fn : PySem.W.isFn K (.ref f) = true
  ne : PySem.W.findIn K (.ref C) "__ne__" = some (some (.builtin "object.__ne__"))
  ob : PySem.W.mroIn K C (.type "object") = some true
def spRight (CS : Addr) : Sp := fun vs H Q _ => ∃ (p : Addr) (n : Nat), vs = [.ref p] ∧ Pot H p n ∧ n + 3000 < 100000 ∧
  ∀ H' : Hp, Pot H' p (n + 1100) → KeepR CS p H H' → Q (.bl true) H'
theorem gl_text {z sy : Str} {c q t : Addr} {fi : Int} {r : Addr} : (gl z sy c q t fi r).lookup ("text" : Str) = some (V.str z) := by kernel_rfl
theorem gl_letters {z sy : Str} {c q t : Addr} {fi : Int} {r : Addr} : (gl z sy c q t fi r).lookup ("letters" : Str) = some (V.ref r) := by kernel_rfl
theorem gl_symbols {z sy : Str} {c q t : Addr} {fi : Int} {r : Addr} : (gl z sy c q t fi r).lookup ("symbols" : Str) = some (V.str sy) := by kernel_rfl
theorem gl_cells {z sy : Str} {c q t : Addr} {fi : Int} {r : Addr} : (gl z sy c q t fi r).lookup ("cells" : Str) = some (V.ref c) := by kernel_rfl
theorem gl_parts {z sy : Str} {c q t : Addr} {fi : Int} {r : Addr} : (gl z sy c q t fi r).lookup ("parts" : Str) = some (V.ref q) := by kernel_rfl
theorem noSt {CP CS : Addr} (c1 : CP ≠ CS) (dx : Addr) (fs : List (Str × V)) : ∀ dx' fs', HO.ins CP dx fs ≠ HO.ins CS dx' fs' := fun _ _ e => by
  injection e with e1
  exact c1 e1
section
variable {P : Program} {w : World} {K : PySem.W.Frag} {mg : Str → Option Value} {base : Heap}
theorem ok_right {f CP CS fE : Addr} {fd fdE : FuncData} (F : Fun K "_law_right" "_law_right" s_right f fd) (T : Bare mg) (hrp : mg "repr" = none) (hany : mg "any" = none) (TG : GTxt K CP) (TI : IsTxt K CP) (AP : Apart K CP) (TE : EqTxt K CP fE) (c1 : CP ≠ CS)
    (CL : Callee P w K mg base 3 "_law_wide_lore" ["_law_pot"] spLore) (CG : Callee P w K mg base 8 "_law_grown" ["_law_pot", "_law_lore"] spGrown)
    (CH : Callee P w K mg base 3 "_law_other" ["_law_pot", "_law_source"] spOther) (CE : Callee P w K mg base 1 "_law_letters" ["_law_source"] spLet)
    (MG : Maker P w K mg base CP 17 "Program" ["self", "text"] (spGInit CP CS))
    (OE : FnOk P w K mg base CX0 1 fE fdE ["self", "other"] (spEqB CP)) (bE : Binds K fdE ["self", "other"] []) :
    FnOkG P w K mg base 19 f fd ["_law_pot"] (spRight CS) := by
  refine Fun.okG F sc_right (fun vs H Q E h => ?_) (fun cdv A outer st H vs Q E hgu hr h => ?_)
  · obtain ⟨p, n, rfl, _⟩ := h
    rfl
  obtain ⟨p, n, rfl, hp, hn, q⟩ := h
  have hu := hu_of hr
  refine ⟨_, (pss_cons (ps_set (i := 1) sc_right.nd rfl (Or.inl rfl) (pe_join pe_str (pe_call CG.ok (hr.mono (by decide)) rfl CG.mg CG.kp CG.b .nil pass0 (pa_cons (pv 0) (pa_cons (pe_call CL.ok (hr.mono (by decide)) rfl CL.mg CL.kp CL.b .nil pass0 (pa_cons (pv 0) pa_nil)) pa_nil)))))
(pss_cons (ps_set (i := 2) sc_right.nd rfl (Or.inl rfl) (pe_call CH.ok (hr.mono (by decide)) rfl CH.mg CH.kp CH.b .nil pass0 (pa_cons (pv 0) (pa_cons (pv 1) pa_nil))))
(pss_cons (ps_asg (pe_tup (pa_cons (pe_make MG.mkr MG.ok hr rfl MG.mg MG.b .nil pass0 (pa_cons (pv 1) pa_nil)) (pa_cons (pe_make MG.mkr MG.ok hr rfl MG.mg MG.b .nil pass0 (pa_cons (pv 2) pa_nil)) pa_nil))) (pg_tup (by rfl) (pgs_cons (pg_name (i := 3) sc_right.nd rfl (Or.inr rfl)) (pgs_cons (pg_name (i := 4) sc_right.nd rfl (Or.inl rfl)) pgs_nil))))
(pss_cons (ps_if (PW.pt (pw_or (pt_cmpR op_ne (pe_callB (call_reprD hgu hr.units) (by rfl) hrp (by decide +kernel) (pa_cons (pe_fld (pv 3) rfl) pa_nil)) (pe_callB (call_reprD hgu hr.units) (by rfl) hrp (by decide +kernel) (pa_cons (pe_call CE.ok (hr.mono (by decide)) rfl CE.mg CE.kp CE.b .nil pass0 (pa_cons (pv 1) pa_nil)) pa_nil)) (nomark _)) (pw_or1 (pt_cmpR op_ne (pe_callB (call_reprD hgu hr.units) (by rfl) hrp (by decide +kernel) (pa_cons (pe_fld (pv 4) rfl) pa_nil)) (pe_callB (call_reprD hgu hr.units) (by rfl) hrp (by decide +kernel) (pa_cons (pe_call CE.ok (hr.mono (by decide)) rfl CE.mg CE.kp CE.b .nil pass0 (pa_cons (pv 2) pa_nil)) pa_nil)) (nomark _)))))
(pss_one (ps_ret pe_bl))
pss_nil)
(pss_cons (ps_if (PW.pt (pw_or (pt_cmpR op_ne (pe_cmpR (op_eqB OE AP TI TG.cl TE.eq TE.fn bE (hr.mono (by decide))) (pv 3) (pv 4) (nomark _)) (pe_cmpR op_eq (pv 1) (pv 2) (nomark _)) (nomark _)) (pw_or1 (pt_cmpR op_ne (pe_cmpR (op_neB OE AP TI TG.cl TE.eq TE.fn TE.ne TE.ob bE (hr.mono (by decide))) (pv 3) (pv 4) (nomark _)) (pe_cmpR op_ne (pv 1) (pv 2) (nomark _)) (nomark _)))))
(pss_one (ps_ret pe_bl))
pss_nil)
(pss_one (ps_ret (pe_and (pe_cmpR (op_eqB OE AP TI TG.cl TE.eq TE.fn bE (hr.mono (by decide))) (pv 3) (pe_make MG.mkr MG.ok hr rfl MG.mg MG.b .nil pass0 (pa_cons (pv 1) pa_nil)) (nomark _)) (pe_one (pe_not (pe_callB (cr_any rfl) (by rfl) hany (by decide +kernel) (pa_cons (pe_lc (own := [("_law_thing", 5)]) (g := gName 5) rfl sc_right.nd (pi_tup (pe_tup (pa_cons (pv 1) (pa_cons pe_non (pa_cons pe_int (pa_cons (pe_tup pa_nil) (pa_cons (pe_lst (pa_cons (pv 1) pa_nil)) (pa_cons pe_dnewK pa_nil)))))))) (blkOk_by (N := sc_rightN) (sc := defScope s_right) (by decide +kernel)) (fun _ _ _ _ _ => pg_name (i := 5) sc_right.nd rfl (Or.inl rfl)) (fun _ _ _ _ _ => pts_nil) (fun _ _ _ _ _ => (show PE _ _ (tOp (rEqB CP) (tVar 3) (tVar 5)) from pe_cmpR (op_eqB OE AP TI TG.cl TE.eq TE.fn bE (hr.mono (by decide))) (pv 3) (pv 5) (nomark _)))) pa_nil)))))))))))), ?_⟩
  obtain ⟨o0, b0, c0, hpp, hp'⟩ := id hp.at_
  -- the page
  refine ⟨⟨_, rfl⟩, ?_⟩
  refine ⟨_, rfl, _, rfl, p, n, rfl, hp, by omega, fun lo cl pl sy ms pn H1 hlo L1 LO hp1 b1 => ?_⟩
  have nlo : lo ≠ p := (ne_of_none hpp hlo).symm
  refine ⟨p, lo, cl, pl, n + 10, 0, sy, ms, pn, rfl, hp1, by omega, L1, LO, fun g ps ma nm rows left2 H2 eps TO RO h70 hg hp2 L2 b2 => ?_⟩
  refine ⟨_, g, rows.map lineOf, rfl, rfl, .inl (.inl (.inl hg)), ?_, ?_⟩
  · have hs := sum_lines2 TO.short
    rw [List.length_map]
    have l1 : (Str.ofString "\n").length = 1 := by decide +kernel
    rw [l1]
    omega
  have b02 : ∀ b o, H b = some o → b ≠ p → H2 b = some o := fun b o h n => b2 _ _ (b1 _ _ h n) n (ne_of_none h hlo)
  generalize hz : Txt.join nl (rows.map lineOf) = z at TO ⊢
  -- the other page
  refine ⟨_, rfl, _, rfl, p, n + 10 + 1000, sy, ms, ps, ma, nm, rows, z, rfl, hp2, by omega, TO, RO, h70, fun z' ps' ma' rows' H3 TO' h70' hp3 b3 => ?_⟩
  have b03 : ∀ b o, H b = some o → b ≠ p → H3 b = some o := fun b o h n => b3 _ _ (b02 _ _ h n) n
  -- the two programs
  refine ⟨_, rfl, fun x dx hx hdx hne => ⟨x, dx, sy, ms, ps, ma, nm, rows, _, rfl, upd_same, TO, fun H4 k4 P4 => ⟨rfl, ?_⟩⟩⟩
  have s4 : Same H3 (upd (upd H3 dx (.own x)) x (.ins CP dx [])) := (same_new hdx _).trans (same_new (by rw [upd_ne hne.symm]; exact hx) _)
  have k34 : ∀ b o, H3 b = some o → (∀ dx fs, o ≠ .ins CS dx fs) → H4 b = some o := fun b o h ni => k4 _ _ (s4 _ _ h) (ne_of_none h hx) ni
  refine ⟨_, rfl, fun y dy hy hdy hne2 => ⟨y, dy, sy, ms, ps', ma', nm, rows', _, rfl, upd_same, TO', fun H5 k5 P5 => ⟨rfl, ?_⟩⟩⟩
  have s5 : Same H4 (upd (upd H4 dy (.own y)) y (.ins CP dy [])) := (same_new hdy _).trans (same_new (by rw [upd_ne hne2.symm]; exact hy) _)
  have k45 : ∀ b o, H4 b = some o → (∀ dx fs, o ≠ .ins CS dx fs) → H5 b = some o := fun b o h ni => k5 _ _ (s5 _ _ h) (ne_of_none h hy) ni
  obtain ⟨ex, cx, qx, tx, rx, fx, asx, zx, hx4, _, _, _, hrx4, LX⟩ := id P4.it
  obtain ⟨ey, cy, qy, ty, ry, fy, asy, zy, hy5, _, _, _, hry5, LY⟩ := id P5.it
  have hx5 := k45 _ _ hx4 (noSt c1 _ _)
  have hrx5 := k45 _ _ hrx4 (by intro _ _ e; cases e)
  refine ⟨small (by show 2 ≤ 1000; decide), fun tt htt => ⟨tt, _, rfl, .inl (.inl upd_same), rfl, _, _, rfl, _, _, rfl, rfl, ?_⟩⟩
  have s56 := same_new htt (.tup [V.ref x, V.ref y])
  have k06 : ∀ b o, H b = some o → b ≠ p → (∀ dx fs, o ≠ .ins CS dx fs) → (upd H5 tt (.tup [V.ref x, V.ref y])) b = some o := fun b o h n ni => s56 _ _ (k45 _ _ (k34 _ _ (b03 _ _ h n) ni) ni)
  have kp6 : Pot (upd H5 tt (.tup [V.ref x, V.ref y])) p (n + 10 + 1000 + 2) := by
    obtain ⟨o9, c9, d9, h9, r9⟩ := hp3.at_
    exact ⟨o9, c9, d9, s56 _ _ (k45 _ _ (k34 _ _ h9 (by intro _ _ e; cases e)) (by intro _ _ e; cases e)), r9⟩
  have hx6 := s56 _ _ hx5
  have hrx6 := s56 _ _ hrx5
  have hy6 := s56 _ _ hy5
  have hry6 := s56 _ _ hry5
  generalize upd H5 tt (.tup [V.ref x, V.ref y]) = H6 at k06 kp6 hx6 hrx6 hy6 hry6 ⊢
  clear s56
  -- the letters
  have six : ∀ sy ∈ sixS, PyData.strOk sy = true := by decide +kernel
  have ssy := signs_ok (six sy LO.sy)
  obtain ⟨d1, d2, d3, d4⟩ := letD_ok (zs := zx) (fun x hx => letter_ok ssy TO.ok.good TO.short ((LX.mem x).mp hx)) LX.len
  obtain ⟨e1, e2, e3, e4⟩ := letD_ok (zs := zy) (fun x hx => letter_ok ssy TO'.ok.good TO'.short ((LY.mem x).mp hx)) LY.len
  refine ⟨_, rfl, x, CP, ex, _, _, rfl, hx6, TG.cl, TG.nLetters, gl_letters, rx, letD zx, rfl, .tup (.inl (.inl hrx6)) (dp_strs zx), d1, d2, d3, d4, ?_⟩
  refine ⟨_, rfl, sy, ms, ps, ma, nm, rows, z, zx, rfl, TO, h70, LX, fun r H7 s7 _ hr7 => ⟨r, letD zx, rfl, .tup (.inl (.inl hr7)) (dp_strs zx), d1, d2, d3, d4, rfl, _, rfl, ?_⟩⟩
  rw [decide_eq_true rfl]
  refine iteF ?_
  refine ⟨_, rfl, y, CP, ey, _, _, rfl, s7 _ _ hy6, TG.cl, TG.nLetters, gl_letters, ry, letD zy, rfl, .tup (.inl (.inl (s7 _ _ hry6))) (dp_strs zy), e1, e2, e3, e4, ?_⟩
  refine ⟨_, rfl, sy, ms, ps', ma', nm, rows', z', zy, rfl, TO', h70', LY, fun r2 H8 s8 _ hr8 => ⟨r2, letD zy, rfl, .tup (.inl (.inl hr8)) (dp_strs zy), e1, e2, e3, e4, rfl, _, rfl, ?_⟩⟩
  rw [decide_eq_true rfl]
  refine iteF ?_
  have s68 : Same H6 H8 := s7.trans s8
  have hx8 := s68 _ _ hx6
  have hy8 := s68 _ _ hy6
  have sv : ∀ a b : Str, decide (V.str a = V.str b) = decide (a = b) := fun a b => decide_eq_decide.mpr ⟨fun h => V.str.inj h, fun h => by rw [h]⟩
  -- one == two
  refine ⟨_, rfl, _, rfl, x, ex, _, z, _, rfl, hx8, gl_text, .prog hy8 gl_text, fun H9 s9 => ⟨_, rfl, _, rfl, rfl, rfl, _, rfl, ?_⟩⟩
  rw [sv, decide_eq_true rfl]
  refine iteF ?_
  have hx9 := s9 _ _ hx8
  have hy9 := s9 _ _ hy8
  refine ⟨_, rfl, _, rfl, ⟨x, ex, _, z, _, rfl, hx9, gl_text, .prog hy9 gl_text, fun H10 s10 => ⟨_, rfl, _, rfl, rfl, rfl, _, rfl, ?_⟩⟩, y, ey, _, rfl, hy9⟩
  rw [sv, decide_eq_true rfl]
  refine iteF ?_
  have s6A : Same H6 H10 := (s68.trans s9).trans s10
  have hx10 := s6A _ _ hx6
  -- the same again
  refine ⟨_, rfl, _, rfl, fun u du hu2 hdu hne3 => ⟨u, du, sy, ms, ps, ma, nm, rows, _, rfl, upd_same, TO, fun H11 k11 P11 => ⟨rfl, ?_⟩⟩⟩
  have s11 : Same H10 (upd (upd H10 du (.own u)) u (.ins CP du [])) := (same_new hdu _).trans (same_new (by rw [upd_ne hne3.symm]; exact hu2) _)
  have kAB : ∀ b o, H10 b = some o → (∀ dx fs, o ≠ .ins CS dx fs) → H11 b = some o := fun b o h ni => k11 _ _ (s11 _ _ h) (ne_of_none h hu2) ni
  obtain ⟨eu, cu, qu, tu, ru, fu, asu, zu, hu11, _⟩ := id P11.it
  have hx11 := kAB _ _ hx10 (noSt c1 _ _)
  refine ⟨x, ex, _, z, _, rfl, hx11, gl_text, .prog hu11 gl_text, fun H12 s12 => ⟨_, rfl, ?_⟩⟩
  rw [decide_eq_true rfl]
  refine iteT ?_
  have hx12 := s12 _ _ hx11
  have k612 : ∀ b o, H6 b = some o → (∀ dx fs, o ≠ .ins CS dx fs) → H12 b = some o := fun b o h ni => s12 _ _ (kAB _ _ (s6A _ _ h) ni)
  -- nothing else
  refine ⟨_, rfl, small (by show 0 ≤ 1000; decide), fun E0 hE0 => ⟨_, rfl, small (by show 1 ≤ 1000; decide), fun E1 hE1 => fun E2 hE2 => ⟨small (by show 6 ≤ 1000; decide), fun E3 hE3 => ?_⟩⟩⟩
  have t0 := same_new hE0 (.tup [])
  have t1 := same_new hE1 (.lst [V.str z])
  have t2 := same_new hE2 (.dK [])
  have t3 := same_new hE3 (.tup [V.str z, .non, .int 0, .ref E0, .ref E1, .ref E2])
  have g0 := (t1.trans t2).trans t3 _ _ (upd_same (H := H12))
  have g1 := t2.trans t3 _ _ (upd_same)
  have g2 := t3 _ _ (upd_same)
  refine ⟨E3, rfl, ⟨_, .inl (.inl upd_same)⟩, ?_⟩
  have g3 : (upd (upd (upd (upd H12 E0 (.tup [])) E1 (.lst [V.str z])) E2 (.dK [])) E3 (.tup [V.str z, .non, .int 0, .ref E0, .ref E1, .ref E2])) E3 = some (.tup [V.str z, .non, .int 0, .ref E0, .ref E1, .ref E2]) := upd_same
  have s1B := ((t0.trans t1).trans t2).trans t3
  generalize (upd (upd (upd (upd H12 E0 (.tup [])) E1 (.lst [V.str z])) E2 (.dK [])) E3 (.tup [V.str z, .non, .int 0, .ref E0, .ref E1, .ref E2])) = H13 at g0 g1 g2 g3 s1B ⊢
  have hx13 := s1B _ _ hx12
  have hno : ∀ v ∈ ([V.str z, .non, .int 0, .ref E0, .ref E1, .ref E2] : List V), EqRes CP z H13 v false := fun v hv => by
    simp only [List.mem_cons, List.not_mem_nil, or_false] at hv
    rcases hv with rfl | rfl | rfl | rfl | rfl | rfl
    · exact .str _
    · exact .non
    · exact .int _
    · exact .tup g0
    · exact .lst g1
    · exact .dct g2
  refine fun D hD => lc_it (walk_tup (xs := [V.str z, .non, .int 0, .ref E0, .ref E1, .ref E2])) (fun i H' => ∃ bs : List Bool, H' D = some (.lst (bs.map V.bl)) ∧ bs.length = i ∧ (∀ b ∈ bs, b = false) ∧ Same H13 H') ⟨[], upd_same, rfl, fun b h => (by cases h), same_new hD _⟩ (fun i H' hi pv => ?_) (fun i v H' H14 hi pv y => ?_) (fun H14 pv => ?_)
  · obtain ⟨_, _, _, _, h⟩ := pv
    exact .inl (.inl (h _ _ g3))
  · obtain ⟨bs, f1, f2, f3, f4⟩ := pv
    obtain ⟨rfl, hv⟩ := y
    refine ⟨rfl, ?_⟩
    simp only [tYes, ↓reduceIte]
    refine ⟨_, rfl, _, rfl, x, ex, _, z, _, rfl, f4 _ _ hx13, gl_text, (hno v (List.mem_of_getElem? hv)).same f4, fun H15 s15 => ⟨bs.map V.bl, s15 _ _ f1, ?_, bs ++ [false], ?_, ?_, ?_, ?_⟩⟩
    · rw [List.length_map, f2]
      exact Nat.lt_of_lt_of_le (Nat.lt_of_lt_of_le hi (by show 6 ≤ 1000; decide)) (small (Nat.le_refl _))
    · rw [upd_same, List.map_append]
      rfl
    · rw [List.length_append, f2]
      rfl
    · intro b hb
      rcases List.mem_append.mp hb with hb | hb
      · exact f3 b hb
      · exact List.mem_singleton.mp hb
    · intro b o hbo
      have w1 := s15 _ _ (f4 b o hbo)
      rw [upd_ne (ne_of_none hbo hD)]
      exact w1
  obtain ⟨bs, f1, _, f3, f4⟩ := pv
  refine ⟨D, bs, rfl, .inl (.inl f1), _, rfl, ?_⟩
  have eb : bs.any id = false := by
    rw [List.any_eq_false]
    intro b hb
    rw [f3 b hb]
    exact Bool.false_ne_true
  rw [eb]
  refine q H14 ?_ fun b o h n ni => f4 _ _ (s1B _ _ (k612 _ _ (k06 _ _ h n ni) ni))
  obtain ⟨o9, c9, d9, h9, r9⟩ := kp6.at_
  exact Pot.more ⟨o9, c9, d9, f4 _ _ (s1B _ _ (k612 _ _ h9 (by intro _ _ e; cases e))), r9⟩ (by omega)
end
end Fg
set_option Elab.async false
set_option linter.all false
set_option maxRecDepth 100000
set_option maxHeartbeats 4000000
namespace Fg
open PySem L2 TL
/-! ### the law -/
abbrev s_law : Stmt := top 36
abbrev sc_lawN : List Str := ["_law_script", "_law_k", "_law_pot", "_law_turn"]
theorem sc_law : FnScope sc_lawN ["_law_script"] (defScope s_law) := ⟨rfl, rfl, rfl, by decide +kernel, rfl, by decide +kernel, by decide +kernel⟩
def spLaw (K : PySem.W.Frag) : Sp := fun vs H Q _ => ∃ (a : Addr) (ns : List Int), vs = [.ref a] ∧ SqL K H a (ns.map V.int) ∧ ns.length ≤ 63 ∧ ∀ H', Q (.bl true) H'
theorem KeepR.trans {CS p : Addr} {H H1 H2 : Hp} (a : KeepR CS p H H1) (b : KeepR CS p H1 H2) : KeepR CS p H H2 := fun c o h n m => b c o (a c o h n m) n m
theorem KeepR.of_same {CS p : Addr} {H H' : Hp} (s : Same H H') : KeepR CS p H H' := fun b o h _ _ => s b o h
theorem KeepI.seq {K : PySem.W.Frag} {CS a : Addr} {H H' : Hp} {xs : List V} (k : KeepI CS H H') (h : SqL K H a xs) : SqL K H' a xs := by
  rcases h with (h | ⟨o, h⟩) | h
  · exact .inl (.inl (k _ _ h (by intro _ _ e; cases e)))
  · exact .inl (.inr ⟨o, k _ _ h (by intro _ _ e; cases e)⟩)
  · exact .inr h
section
variable {P : Program} {w : World} {K : PySem.W.Frag} {mg : Str → Option Value} {base : Heap}
theorem ok_law {f fR CS : Addr} {fd fdR : FuncData} (F : Fun K "law" "law" s_law f fd) (T : Bare mg) (hmax : mg "max" = none) (hmin : mg "min" = none) (hall : mg "all" = none) (CP : Callee P w K mg base 1 "_law_pot_of" ["_law_script", "_law_k"] (spPotOf K))
    (OR : FnOkG P w K mg base 19 fR fdR ["_law_pot"] (spRight CS)) (mR : mg "_law_right" = some (.ref fR)) (kR : PySem.W.keepIn K (.ref fR) = true) (bR : Binds K fdR ["_law_pot"] []) :
    FnOkG P w K mg base 20 f fd ["_law_script"] (spLaw K) := by
  refine Fun.okG F sc_law (fun vs H Q E h => ?_) (fun cdv A outer st H vs Q E hgu hr h => ?_)
  · obtain ⟨a, ns, rfl, _⟩ := h
    rfl
  obtain ⟨a, ns, rfl, hS, hl, q⟩ := h
  refine ⟨_, (pss_cons (ps_for PassesOwn.never rfl (pi_range1 (by rfl) T.range (pa_cons (pe_callB (call_max2 rfl) (by rfl) hmax (by decide +kernel) (pa_cons pe_int (pa_cons (pe_callB (call_min2 rfl) (by rfl) hmin (by decide +kernel) (pa_cons pe_int (pa_cons (pe_callB call_len_seq (by rfl) T.len PySem.boot_len (pa_cons (pv 0) pa_nil)) pa_nil))) pa_nil))) pa_nil)) (pg_name (i := 1) sc_law.nd rfl (Or.inl rfl))
(pss_cons (ps_set (i := 2) sc_law.nd rfl (Or.inr rfl) (pe_call CP.ok (hr.mono (by decide)) rfl CP.mg CP.kp CP.b .nil pass0 (pa_cons (pv 0) (pa_cons (pv 1) pa_nil))))
(pss_one (ps_if (pt_not (pt_val (pe_callB (cr_all rfl) (by rfl) hall (by decide +kernel) (pa_cons (pe_lc (own := [("_law_turn", 3)]) (g := gName 3) rfl sc_law.nd (pi_range1 (by rfl) T.range (pa_cons pe_int pa_nil)) (blkOk_by (N := sc_lawN) (sc := defScope s_law) (by decide +kernel)) (fun _ _ _ _ _ => pg_name (i := 3) sc_law.nd rfl (Or.inl rfl)) (fun _ _ _ _ _ => pts_nil) (fun _ _ _ _ _ => (pe_callG OR hgu hr rfl mR kR bR (pa_cons (pv 2) pa_nil)))) pa_nil))))
(pss_one (ps_ret pe_bl))
pss_nil))))
(pss_one (ps_ret pe_bl))), ?_⟩
  have hlen : (ns.map V.int).length = ns.length := List.length_map _
  refine ⟨.ref a, rfl, a, _, rfl, .inl hS, 4, _, rfl, 1, _, rfl, ?_⟩
  generalize hm : (if (if ((ns.map V.int).length : Int) < 4 then ((ns.map V.int).length : Int) else 4) > 1 then (if ((ns.map V.int).length : Int) < 4 then ((ns.map V.int).length : Int) else 4) else 1) = m
  have m0 : 0 ≤ m ∧ m ≤ 4 := by
    rw [← hm]
    split <;> split <;> omega
  refine ⟨m, rfl, by omega, by omega, for_range (lo := 0) (n := m.toNat) (fun i σ H' => ∃ (x1 x2 : Option V), σ = [some (.ref a), x1, x2, none] ∧ SqL K H' a (ns.map V.int)) ?_ ?_ ?_⟩
  · exact ⟨none, none, rfl, hS⟩
  · rintro i σ H1 hi ⟨x1, x2, rfl, hS1⟩
    refine ⟨.ref a, rfl, _, rfl, a, ns, i, (by show [V.ref a, V.int (0 + (i : Int))] = _; rw [Int.zero_add]), hS1, by omega, fun p H2 hp0 s2 hp => ?_⟩
    refine ⟨4, rfl, by decide, by decide, fun D hD => lc_range (lo := 0) (n := 4) (fun j H' => H' D = some (.lst ((List.replicate j true).map V.bl)) ∧ Pot H' p (1100 * j) ∧ KeepI CS H1 H') ?_ ?_ ?_⟩
    · exact ⟨upd_same, hp.same (same_new hD _), KeepI.of_same (s2.trans (same_new hD _))⟩
    · rintro j H3 hj ⟨h1, h2, h3⟩
      obtain ⟨o2, c2, d2, hpp2, _⟩ := id hp.at_
      have nDp : D ≠ p := fun e => by rw [e, hpp2] at hD; cases hD
      refine ⟨rfl, ?_⟩
      simp only [tYes, ↓reduceIte]
      refine ⟨.ref p, rfl, p, 1100 * j, rfl, h2, by omega, fun H4 h5 h6 => ?_⟩
      have D4 := h6 _ _ h1 nDp (by intro _ _ e; cases e)
      refine ⟨_, D4, ?_, ?_, ?_, ?_⟩
      · rw [List.length_map, List.length_replicate]
        exact Nat.lt_of_lt_of_le (by omega : j < 1000) (small (Nat.le_refl _))
      · rw [upd_same, List.replicate_succ', List.map_append]
        rfl
      · obtain ⟨o, b, c, e, r⟩ := h5.at_
        exact Pot.more ⟨o, b, c, by rw [upd_ne nDp.symm]; exact e, r⟩ (by omega)
      · intro b o h ni
        have hbp : b ≠ p := ne_of_none h hp0
        have hbD : b ≠ D := ne_of_none (s2 _ _ h) hD
        rw [upd_ne hbD]
        exact h6 _ _ (h3 _ _ h ni) hbp ni
    · rintro H3 ⟨h1, h2, h3⟩
      refine ⟨D, List.replicate 4 true, rfl, .inl (.inl h1), ?_⟩
      refine ⟨true, rfl, iteF ?_⟩
      exact ⟨_, _, rfl, h3.seq hS1⟩
  · rintro σ H1 ⟨x1, x2, rfl, hS1⟩
    exact q H1
end
end Fg
set_option Elab.async false
set_option linter.all false
set_option maxRecDepth 100000
set_option maxHeartbeats 4000000
namespace Fg
open PySem PySem.Spec PyProof.Rows L2
/-! ### the head of a law whose promise holds where no repr is under way -/
/-- how the law's call has to end -/
def LawEnds (s : Shared) : Result → Shared → Prop := fun r s' =>
  r = .ok (.ret (.bool true)) ∧ OldK s.heap s'.heap ∧ s'.os = s.os ∧ AllBare s'.gens
section
variable {P : Program} {w : World} {K : PySem.W.Frag} {mg mb : Str → Option Value} {k : Nat} {fa a : Addr}
  {fd : FuncData} {x : Str} {sp : Sp} {s : Shared} {vs : List Value} {ns : List Int}
/-- from a heap in which at most the script is tracked -/
theorem call_from (H : Hp) (KX : K.In s.heap) (hns : s.heap.Ns mainGlobals mg) (hb : s.heap.Ns builtinsNs mb)
    (hbb : ∀ x : Str, x ≠ "__name__" → mb x = bootBuiltins x) (hlim : s.heap.NoLimit) (hg : s.gens = #[])
    (ha : s.heap.get? a = some { cls := .type "list", data := .seq vs.toArray }) (hr : Room k callerA)
    (F : ∀ base : Heap, K.In base → base.Ns mainGlobals mg → FnOkG P w K mg base k fa fd [x] sp)
    (hbind : ∀ (s : Shared) (u : Value), BindsTo s fd ⟨[u], []⟩ [(x, u)]) (only : Only H) (hok : HOk P w H s.heap)
    (one : ∀ b, H b ≠ none → b = a) (notK : H a ≠ none → K.lookup a = none)
    (hsp : sp [.ref a] H (fun v _ => v = .bl true) fun _ _ _ => False) :
    codeAny (model P w) callerA (.call (.ref fa) ⟨[.ref a], []⟩) (LawEnds s) s := by
  have stays : ∀ {b : Addr} {o : Obj}, s.heap.get? b = some o → (b = a → False) → (hidT s.heap H).get? b = some o :=
    fun {b o} e n => hidT_get e (Classical.byContradiction fun z => n (one b z))
  have dicts : ∀ {b : Addr} {m : Str → Option Value}, s.heap.Ns b m → (hidT s.heap H).Ns b m := fun {b m} n => by
    obtain ⟨o, es, ep, e, d, r⟩ := n
    refine ⟨o, es, ep, stays e fun z => ?_, d, r⟩
    rw [z, ha] at e
    cases e
    cases (show Data.seq vs.toArray _ = Data.dict es ep from d)
  have inK : K.In (hidT s.heap H) := fun b o e => hidT_get (KX b o e) (Classical.byContradiction fun z => by
    have eb := one b z
    subst eb
    rw [notK z] at e
    cases e)
  have hM : Mod K mg (hidT s.heap H) := by
    obtain ⟨mc, h1, h2⟩ := hlim
    exact ⟨inK, dicts hns, ⟨mb, dicts hb, hbb⟩, ⟨mc, dicts h1, h2⟩⟩
  have e0 : Env0 P w K mg (hidT s.heap H) callerA [] s H := by
    refine ⟨rfl, hM, fun b o e => of_hidT e, ?_, trivial, fun b hb => ?_, hok, .of_eq hg⟩
    · exact Nat.le_of_eq (hidT_size _ _)
    · cases (show b ∈ ([] : List Addr) from hb)
  have run := (F _ inK (dicts hns)).runs callerA [] s H ⟨[.ref a], []⟩ [.ref a] [.ref a] _ _ rfl hr e0
    (hbind s (.ref a)) (.cons rfl .nil) hsp
  refine codeAny_mono run fun r s' ends => ?_
  match r, ends with
  | .error e, ends => exact ends.elim
  | .ok .next, ends => exact ends.elim
  | .ok .brk, ends => exact ends.elim
  | .ok .cont, ends => exact ends.elim
  | .ok (.ret u), ⟨v, H', os, bare, un, hok', rel, ev⟩ =>
    have ev : v = .bl true := ev
    subst ev
    have eu : u = Value.bool true := rel
    subst eu
    refine ⟨rfl, OldK.of_keep fun b o e => ?_, os, bare⟩
    rcases only b with z | ⟨ob, xs, z⟩
    · refine un.keep b o e z (fun h => ?_) (by simp)
      cases (show b ∈ ([] : List Addr) from h)
    · have was := (hok b _ z).1
      have is := (hok' b _ (un.frzs b ob _ z)).1
      rw [e] at was
      cases was
      exact is
theorem law_callG (KX : K.In s.heap) (hns : s.heap.Ns mainGlobals mg) (hb : s.heap.Ns builtinsNs mb)
    (hbb : ∀ x : Str, x ≠ "__name__" → mb x = bootBuiltins x) (hlim : s.heap.NoLimit) (hg : s.gens = #[])
    (ha : s.heap.get? a = some { cls := .type "list", data := .seq vs.toArray }) (hi : IntsAre vs ns) (hl : ns.length ≤ sizeLine) (hr : Room k callerA)
    (F : ∀ base : Heap, K.In base → base.Ns mainGlobals mg → FnOkG P w K mg base k fa fd [x] sp)
    (hbind : ∀ (s : Shared) (u : Value), BindsTo s fd ⟨[u], []⟩ [(x, u)])
    (hsp : ∀ H : Hp, Only H → SqL K H a (ns.map V.int) → sp [.ref a] H (fun v _ => v = .bl true) fun _ _ _ => False) :
    codeAny (model P w) callerA (.call (.ref fa) ⟨[.ref a], []⟩) (LawEnds s) s := by
  have rv := vals_ints hi
  have lenV := hi.length
  by_cases hk : K.lookup a = none
  · have atA : ∀ b, (if b = a then some (HO.frz { cls := .type "list", data := .seq vs.toArray } (.lst (ns.map V.int))) else none) ≠ none → b = a :=
      fun b z => Classical.byContradiction fun n => z (if_neg n)
    refine call_from (fun b => if b = a then some (.frz { cls := .type "list", data := .seq vs.toArray } (.lst (ns.map V.int))) else none)
      KX hns hb hbb hlim hg ha hr F hbind (fun b => ?_) (fun b u z => ?_) atA (fun _ => hk) (hsp _ (fun b => ?_) (.inl (.inr ⟨_, if_pos rfl⟩)))
    · by_cases e : b = a
      · exact .inr ⟨_, _, if_pos e⟩
      · exact .inl (if_neg e)
    · have e : b = a := atA b fun y => by (have z := z.symm.trans y; cases z)
      subst e
      have z := (if_pos rfl).symm.trans z
      cases z
      exact ⟨ha, by rw [List.length_map]; exact hl, vs, _, rv, ha⟩
    · by_cases e : b = a
      · exact .inr ⟨_, _, if_pos e⟩
      · exact .inl (if_neg e)
  · obtain ⟨o, ho⟩ := Option.ne_none_iff_exists'.mp hk
    have same := KX a o ho
    rw [ha] at same
    cases same
    have none_ : ∀ b : Addr, (fun _ => none : Hp) b = none := fun _ => rfl
    refine call_from (fun _ => none) KX hns hb hbb hlim hg ha hr F hbind (fun b => .inl rfl) (fun b u z => by cases z) (fun b z => absurd rfl z) (fun z => absurd rfl z)
      (hsp _ (fun b => .inl rfl) (.inr ⟨_, vs.toArray, _, ho, rfl, rfl, rfl, ?_, by simpa using rv⟩))
    rw [List.size_toArray, lenV]
    exact hl
end
/-- the goal that the head leaves, from the law's promise -/
theorem walk_G {l : PySem.W.OpenLaw} {n k : Nat} {q : Program} {loose : List Str} {XP : (Str → Option Value) → Heap → Prop}
    {YP : World → Heap → Prop} {d : DefRec} {K : Params → PySem.W.Frag} {sp : PySem.W.Frag → Sp} {x : Str}
    (hn : l.most = some n) (hn2 : n ≤ sizeLine) (hdf : d.params.defaults = []) (hr : Room k callerA) (hY : ∀ (w : World) (h : Heap), YP w h → (K w.params).In h)
    (F : ∀ (w : World) (mg : Str → Option Value) (fa : Addr) (h : Heap), (K w.params).In h → h.Ns mainGlobals mg → mg d.name = some (.ref fa) → ∃ fd : FuncData,
      (∀ (s : Shared) (u : Value), BindsTo s fd ⟨[u], []⟩ [(x, u)]) ∧ ∀ base : Heap, (K w.params).In base → base.Ns mainGlobals mg → FnOkG l.prog w (K w.params) mg base k fa fd [x] (sp (K w.params)))
    (hsp : ∀ (K : PySem.W.Frag) (H : Hp) (a : Addr) (ns : List Int), ns.length ≤ n → Only H → SqL K H a (ns.map V.int) → sp K [.ref a] H (fun v _ => v = .bl true) fun _ _ _ => False) :
    PySem.W.WalkO q loose XP YP l.row.toRowW d [] (fun f vs => PySem.call f vs) := by
  refine Att.attach_call hn hdf fun w s₀ s₁ mg mb fa o pm cd doc a vs ns G Y ho hd hcd hmg hobj hints hlen hg => ?_
  have KX := hY w _ Y
  obtain ⟨fd, hbind, hF⟩ := F w mg fa _ KX G.T.g hmg
  exact law_callG KX G.T.g G.T.b G.T.builtins G.T.nolimit hg hobj hints (Nat.le_trans hlen hn2) hr hF hbind fun H only sq => hsp _ H a ns hlen only sq
end Fg
set_option Elab.async false
set_option linter.all false
set_option maxRecDepth 100000
set_option maxHeartbeats 4000000
namespace Fg
open PySem L2 TL
/-! ### what the top has written -/
theorem tup_in {K : PySem.W.Frag} {a : Addr} {od : Option Addr} {its : Array Value} {n : Nat} {sl : Array (Option Value)} {xs : List V} (h : K.lookup a = some ⟨.type "tuple", od, .seq its n, sl⟩) (hz : its.size ≤ 1000) (r : Vals xs its.toList) : ∀ H, SqT K H a xs :=
  fun _ => .inr ⟨_, its, n, h, rfl, rfl, small hz, r⟩
theorem all_mk {l : PySem.W.OpenLaw} {w : World} {K : PySem.W.Frag} {h : Heap} {mg : Str → Option Value} {fa : Addr} (X : K.In h) (G : h.Ns mainGlobals mg) (hfa : mg "law" = some (.ref fa))
    {C CS CP f_link f_parse f_iol f_iio f_let f_pot f_take f_of f_lore f_ask f_plain f_body f_grown f_lets f_other f_right f_law f_sin f_pin f_words_at f_read_program f_read_symbols f_read_cell f_read_part f_is_new_name f_read_whole_body f_read_body f_read_statement f_given_by f_setting_by f_sum_by f_condition_by f_gin f_geq aV aB aW : Addr}
    {od_link an_link od_parse an_parse od_iol an_iol od_iio an_iio od_let an_let od_pot an_pot od_take an_take od_of an_of od_lore an_lore od_ask an_ask od_plain an_plain od_body an_body od_grown an_grown od_lets an_lets od_other an_other od_right an_right od_law an_law od_sin an_sin od_pin an_pin od_words_at an_words_at od_read_program an_read_program od_read_symbols an_read_symbols od_read_cell an_read_cell od_read_part an_read_part od_is_new_name an_is_new_name od_read_whole_body an_read_whole_body od_read_body an_read_body od_read_statement an_read_statement od_given_by an_given_by od_setting_by an_setting_by od_sum_by an_sum_by od_condition_by an_condition_by od_gin an_gin od_geq an_geq : Option Addr}
    {sl_link sl_parse sl_iol sl_iio sl_let sl_pot sl_take sl_of sl_lore sl_ask sl_plain sl_body sl_grown sl_lets sl_other sl_right sl_law sl_sin sl_pin sl_words_at sl_read_program sl_read_symbols sl_read_cell sl_read_part sl_is_new_name sl_read_whole_body sl_read_body sl_read_statement sl_given_by sl_setting_by sl_sum_by sl_condition_by sl_gin sl_geq : Array (Option Value)}
    {oc_link kV_link dc_link pm_link cd_link ct_link oc_parse kV_parse dc_parse pm_parse cd_parse ct_parse oc_iol kV_iol dc_iol pm_iol cd_iol ct_iol oc_iio kV_iio dc_iio pm_iio cd_iio ct_iio oc_let kV_let dc_let pm_let cd_let ct_let oc_pot kV_pot dc_pot pm_pot cd_pot ct_pot oc_take kV_take dc_take pm_take cd_take ct_take oc_of kV_of dc_of pm_of cd_of ct_of oc_lore kV_lore dc_lore pm_lore cd_lore ct_lore oc_ask kV_ask dc_ask pm_ask cd_ask ct_ask oc_plain kV_plain dc_plain pm_plain cd_plain ct_plain oc_body kV_body dc_body pm_body cd_body ct_body oc_grown kV_grown dc_grown pm_grown cd_grown ct_grown oc_lets kV_lets dc_lets pm_lets cd_lets ct_lets oc_other kV_other dc_other pm_other cd_other ct_other oc_right kV_right dc_right pm_right cd_right ct_right oc_law kV_law dc_law pm_law cd_law ct_law oc_sin kV_sin dc_sin pm_sin cd_sin ct_sin oc_pin kV_pin dc_pin pm_pin cd_pin ct_pin oc_words_at kV_words_at dc_words_at pm_words_at cd_words_at ct_words_at oc_read_program kV_read_program dc_read_program pm_read_program cd_read_program ct_read_program oc_read_symbols kV_read_symbols dc_read_symbols pm_read_symbols cd_read_symbols ct_read_symbols oc_read_cell kV_read_cell dc_read_cell pm_read_cell cd_read_cell ct_read_cell oc_read_part kV_read_part dc_read_part pm_read_part cd_read_part ct_read_part oc_is_new_name kV_is_new_name dc_is_new_name pm_is_new_name cd_is_new_name ct_is_new_name oc_read_whole_body kV_read_whole_body dc_read_whole_body pm_read_whole_body cd_read_whole_body ct_read_whole_body oc_read_body kV_read_body dc_read_body pm_read_body cd_read_body ct_read_body oc_read_statement kV_read_statement dc_read_statement pm_read_statement cd_read_statement ct_read_statement oc_given_by kV_given_by dc_given_by pm_given_by cd_given_by ct_given_by oc_setting_by kV_setting_by dc_setting_by pm_setting_by cd_setting_by ct_setting_by oc_sum_by kV_sum_by dc_sum_by pm_sum_by cd_sum_by ct_sum_by oc_condition_by kV_condition_by dc_condition_by pm_condition_by cd_condition_by ct_condition_by oc_gin kV_gin dc_gin pm_gin cd_gin ct_gin oc_geq kV_geq dc_geq pm_geq cd_geq ct_geq : Value}
    {t1 t2 t3 t4 t5 t6 : Tok}
    {k_aV_0 k_aV_1 k_aV_2 k_aB_0 k_aB_1 k_aB_2 k_aB_3 k_aW_0 k_aW_1 k_aW_2 k_aW_3 k_aW_4 k_aW_5 k_aW_6 k_aW_7 k_aW_8 k_aW_9 k_aW_10 k_aW_11 k_aW_12 k_aW_13 k_aW_14 k_aW_15 k_aW_16 : Tok}
    {od_aV od_aB od_aW : Option Addr}
    {sl_aV sl_aB sl_aW : Array (Option Value)}
    {n_aV n_aB n_aW : Nat}
    (a_C : PySem.W.nsIn K mainGlobals "Parser" = some (some (.ref C)))
    (pg_C : PySem.W.plainGet K C Str.empty = true)
    (hd_C : PySem.W.hasDictIn K C = true)
    (po_C : PySem.W.plainOver K C = true)
    (sa_C : PySem.W.findIn K (.ref C) "__setattr__" = some (some (.builtin "object.__setattr__")))
    (mk_C : PySem.W.makesIn K C = true)
    (kc_C : PySem.W.keepIn K (.ref C) = true)
    (n_C_lines : PySem.W.findIn K (.ref C) "lines" = some none)
    (n_C_number : PySem.W.findIn K (.ref C) "number" = some none)
    (n_C_symbols : PySem.W.findIn K (.ref C) "symbols" = some none)
    (n_C_mosts : PySem.W.findIn K (.ref C) "mosts" = some none)
    (n_C_starts : PySem.W.findIn K (.ref C) "starts" = some none)
    (n_C_statements : PySem.W.findIn K (.ref C) "statements" = some none)
    (n_C_first : PySem.W.findIn K (.ref C) "first" = some none)
    (a_CS : PySem.W.nsIn K mainGlobals "Statement" = some (some (.ref CS)))
    (pg_CS : PySem.W.plainGet K CS Str.empty = true)
    (hd_CS : PySem.W.hasDictIn K CS = true)
    (po_CS : PySem.W.plainOver K CS = true)
    (sa_CS : PySem.W.findIn K (.ref CS) "__setattr__" = some (some (.builtin "object.__setattr__")))
    (mk_CS : PySem.W.makesIn K CS = true)
    (kc_CS : PySem.W.keepIn K (.ref CS) = true)
    (n_CS_line : PySem.W.findIn K (.ref CS) "line" = some none)
    (n_CS_word : PySem.W.findIn K (.ref CS) "word" = some none)
    (n_CS_given : PySem.W.findIn K (.ref CS) "given" = some none)
    (n_CS_inside : PySem.W.findIn K (.ref CS) "inside" = some none)
    (n_CS_otherwise : PySem.W.findIn K (.ref CS) "otherwise" = some none)
    (n_CS_follow : PySem.W.findIn K (.ref CS) "follow" = some none)
    (a_CP : PySem.W.nsIn K mainGlobals "Program" = some (some (.ref CP)))
    (pg_CP : PySem.W.plainGet K CP Str.empty = true)
    (hd_CP : PySem.W.hasDictIn K CP = true)
    (po_CP : PySem.W.plainOver K CP = true)
    (sa_CP : PySem.W.findIn K (.ref CP) "__setattr__" = some (some (.builtin "object.__setattr__")))
    (mk_CP : PySem.W.makesIn K CP = true)
    (kc_CP : PySem.W.keepIn K (.ref CP) = true)
    (n_CP_text : PySem.W.findIn K (.ref CP) "text" = some none)
    (n_CP_symbols : PySem.W.findIn K (.ref CP) "symbols" = some none)
    (n_CP_cells : PySem.W.findIn K (.ref CP) "cells" = some none)
    (n_CP_parts : PySem.W.findIn K (.ref CP) "parts" = some none)
    (n_CP_statements : PySem.W.findIn K (.ref CP) "statements" = some none)
    (n_CP_first : PySem.W.findIn K (.ref CP) "first" = some none)
    (n_CP_letters : PySem.W.findIn K (.ref CP) "letters" = some none)
    (a_link : PySem.W.nsIn K mainGlobals "link" = some (some (.ref f_link)))
    (l_link : K.lookup f_link = some ⟨oc_link, od_link, .func (PySem.W.fnOf "link" "link" (defArgs s_link) (defBody s_link) (defScope s_link) .none kV_link dc_link pm_link an_link cd_link ct_link), sl_link⟩)
    (c_link : PySem.W.codeIn K cd_link "link" = true)
    (k_link : PySem.W.keepIn K (.ref f_link) = true)
    (a_parse : PySem.W.nsIn K mainGlobals "parse" = some (some (.ref f_parse)))
    (l_parse : K.lookup f_parse = some ⟨oc_parse, od_parse, .func (PySem.W.fnOf "parse" "parse" (defArgs s_parse) (defBody s_parse) (defScope s_parse) .none kV_parse dc_parse pm_parse an_parse cd_parse ct_parse), sl_parse⟩)
    (c_parse : PySem.W.codeIn K cd_parse "parse" = true)
    (k_parse : PySem.W.keepIn K (.ref f_parse) = true)
    (a_iol : PySem.W.nsIn K mainGlobals "is_of_letters" = some (some (.ref f_iol)))
    (l_iol : K.lookup f_iol = some ⟨oc_iol, od_iol, .func (PySem.W.fnOf "is_of_letters" "is_of_letters" (defArgs s_is_of_letters) (defBody s_is_of_letters) (defScope s_is_of_letters) .none kV_iol dc_iol pm_iol an_iol cd_iol ct_iol), sl_iol⟩)
    (c_iol : PySem.W.codeIn K cd_iol "is_of_letters" = true)
    (k_iol : PySem.W.keepIn K (.ref f_iol) = true)
    (a_iio : PySem.W.nsIn K mainGlobals "is_in_order" = some (some (.ref f_iio)))
    (l_iio : K.lookup f_iio = some ⟨oc_iio, od_iio, .func (PySem.W.fnOf "is_in_order" "is_in_order" (defArgs s_is_in_order) (defBody s_is_in_order) (defScope s_is_in_order) .none kV_iio dc_iio pm_iio an_iio cd_iio ct_iio), sl_iio⟩)
    (c_iio : PySem.W.codeIn K cd_iio "is_in_order" = true)
    (k_iio : PySem.W.keepIn K (.ref f_iio) = true)
    (a_let : PySem.W.nsIn K mainGlobals "letters_of" = some (some (.ref f_let)))
    (l_let : K.lookup f_let = some ⟨oc_let, od_let, .func (PySem.W.fnOf "letters_of" "letters_of" (defArgs s_letters_of) (defBody s_letters_of) (defScope s_letters_of) .none kV_let dc_let pm_let an_let cd_let ct_let), sl_let⟩)
    (c_let : PySem.W.codeIn K cd_let "letters_of" = true)
    (k_let : PySem.W.keepIn K (.ref f_let) = true)
    (a_pot : PySem.W.nsIn K mainGlobals "_law_pot_of" = some (some (.ref f_pot)))
    (l_pot : K.lookup f_pot = some ⟨oc_pot, od_pot, .func (PySem.W.fnOf "_law_pot_of" "_law_pot_of" (defArgs s__law_pot_of) (defBody s__law_pot_of) (defScope s__law_pot_of) .none kV_pot dc_pot pm_pot an_pot cd_pot ct_pot), sl_pot⟩)
    (c_pot : PySem.W.codeIn K cd_pot "_law_pot_of" = true)
    (k_pot : PySem.W.keepIn K (.ref f_pot) = true)
    (a_take : PySem.W.nsIn K mainGlobals "_law_take" = some (some (.ref f_take)))
    (l_take : K.lookup f_take = some ⟨oc_take, od_take, .func (PySem.W.fnOf "_law_take" "_law_take" (defArgs s__law_take) (defBody s__law_take) (defScope s__law_take) .none kV_take dc_take pm_take an_take cd_take ct_take), sl_take⟩)
    (c_take : PySem.W.codeIn K cd_take "_law_take" = true)
    (k_take : PySem.W.keepIn K (.ref f_take) = true)
    (a_of : PySem.W.nsIn K mainGlobals "_law_of" = some (some (.ref f_of)))
    (l_of : K.lookup f_of = some ⟨oc_of, od_of, .func (PySem.W.fnOf "_law_of" "_law_of" (defArgs s__law_of) (defBody s__law_of) (defScope s__law_of) .none kV_of dc_of pm_of an_of cd_of ct_of), sl_of⟩)
    (c_of : PySem.W.codeIn K cd_of "_law_of" = true)
    (k_of : PySem.W.keepIn K (.ref f_of) = true)
    (a_lore : PySem.W.nsIn K mainGlobals "_law_wide_lore" = some (some (.ref f_lore)))
    (l_lore : K.lookup f_lore = some ⟨oc_lore, od_lore, .func (PySem.W.fnOf "_law_wide_lore" "_law_wide_lore" (defArgs s_wide_lore) (defBody s_wide_lore) (defScope s_wide_lore) .none kV_lore dc_lore pm_lore an_lore cd_lore ct_lore), sl_lore⟩)
    (c_lore : PySem.W.codeIn K cd_lore "_law_wide_lore" = true)
    (k_lore : PySem.W.keepIn K (.ref f_lore) = true)
    (a_ask : PySem.W.nsIn K mainGlobals "_law_wide_asked" = some (some (.ref f_ask)))
    (l_ask : K.lookup f_ask = some ⟨oc_ask, od_ask, .func (PySem.W.fnOf "_law_wide_asked" "_law_wide_asked" (defArgs s_wide_asked) (defBody s_wide_asked) (defScope s_wide_asked) .none kV_ask dc_ask pm_ask an_ask cd_ask ct_ask), sl_ask⟩)
    (c_ask : PySem.W.codeIn K cd_ask "_law_wide_asked" = true)
    (k_ask : PySem.W.keepIn K (.ref f_ask) = true)
    (a_plain : PySem.W.nsIn K mainGlobals "_law_wide_plain" = some (some (.ref f_plain)))
    (l_plain : K.lookup f_plain = some ⟨oc_plain, od_plain, .func (PySem.W.fnOf "_law_wide_plain" "_law_wide_plain" (defArgs s_wide_plain) (defBody s_wide_plain) (defScope s_wide_plain) .none kV_plain dc_plain pm_plain an_plain cd_plain ct_plain), sl_plain⟩)
    (c_plain : PySem.W.codeIn K cd_plain "_law_wide_plain" = true)
    (k_plain : PySem.W.keepIn K (.ref f_plain) = true)
    (a_body : PySem.W.nsIn K mainGlobals "_law_wide_body" = some (some (.ref f_body)))
    (l_body : K.lookup f_body = some ⟨oc_body, od_body, .func (PySem.W.fnOf "_law_wide_body" "_law_wide_body" (defArgs s_wide_body) (defBody s_wide_body) (defScope s_wide_body) .none kV_body dc_body pm_body an_body cd_body ct_body), sl_body⟩)
    (c_body : PySem.W.codeIn K cd_body "_law_wide_body" = true)
    (k_body : PySem.W.keepIn K (.ref f_body) = true)
    (a_grown : PySem.W.nsIn K mainGlobals "_law_grown" = some (some (.ref f_grown)))
    (l_grown : K.lookup f_grown = some ⟨oc_grown, od_grown, .func (PySem.W.fnOf "_law_grown" "_law_grown" (defArgs s_grown) (defBody s_grown) (defScope s_grown) .none kV_grown dc_grown pm_grown an_grown cd_grown ct_grown), sl_grown⟩)
    (c_grown : PySem.W.codeIn K cd_grown "_law_grown" = true)
    (k_grown : PySem.W.keepIn K (.ref f_grown) = true)
    (a_lets : PySem.W.nsIn K mainGlobals "_law_letters" = some (some (.ref f_lets)))
    (l_lets : K.lookup f_lets = some ⟨oc_lets, od_lets, .func (PySem.W.fnOf "_law_letters" "_law_letters" (defArgs s_letters) (defBody s_letters) (defScope s_letters) .none kV_lets dc_lets pm_lets an_lets cd_lets ct_lets), sl_lets⟩)
    (c_lets : PySem.W.codeIn K cd_lets "_law_letters" = true)
    (k_lets : PySem.W.keepIn K (.ref f_lets) = true)
    (a_other : PySem.W.nsIn K mainGlobals "_law_other" = some (some (.ref f_other)))
    (l_other : K.lookup f_other = some ⟨oc_other, od_other, .func (PySem.W.fnOf "_law_other" "_law_other" (defArgs s_other) (defBody s_other) (defScope s_other) .none kV_other dc_other pm_other an_other cd_other ct_other), sl_other⟩)
    (c_other : PySem.W.codeIn K cd_other "_law_other" = true)
    (k_other : PySem.W.keepIn K (.ref f_other) = true)
    (a_right : PySem.W.nsIn K mainGlobals "_law_right" = some (some (.ref f_right)))
    (l_right : K.lookup f_right = some ⟨oc_right, od_right, .func (PySem.W.fnOf "_law_right" "_law_right" (defArgs s_right) (defBody s_right) (defScope s_right) .none kV_right dc_right pm_right an_right cd_right ct_right), sl_right⟩)
    (c_right : PySem.W.codeIn K cd_right "_law_right" = true)
    (k_right : PySem.W.keepIn K (.ref f_right) = true)
    (a_law : PySem.W.nsIn K mainGlobals "law" = some (some (.ref f_law)))
    (l_law : K.lookup f_law = some ⟨oc_law, od_law, .func (PySem.W.fnOf "law" "law" (defArgs s_law) (defBody s_law) (defScope s_law) .none kV_law dc_law pm_law an_law cd_law ct_law), sl_law⟩)
    (c_law : PySem.W.codeIn K cd_law "law" = true)
    (k_law : PySem.W.keepIn K (.ref f_law) = true)
    (a_sin : PySem.W.findIn K (.ref CS) "__init__" = some (some (.ref f_sin)))
    (i_sin : PySem.W.isFn K (.ref f_sin) = true)
    (l_sin : K.lookup f_sin = some ⟨oc_sin, od_sin, .func (PySem.W.fnOf "__init__" "Statement.__init__" (defArgs s_Statement___init__) (defBody s_Statement___init__) (defScope s_Statement___init__) .none kV_sin dc_sin pm_sin an_sin cd_sin ct_sin), sl_sin⟩)
    (c_sin : PySem.W.codeIn K cd_sin "Statement.__init__" = true)
    (k_sin : PySem.W.keepIn K (.ref f_sin) = true)
    (a_pin : PySem.W.findIn K (.ref C) "__init__" = some (some (.ref f_pin)))
    (i_pin : PySem.W.isFn K (.ref f_pin) = true)
    (l_pin : K.lookup f_pin = some ⟨oc_pin, od_pin, .func (PySem.W.fnOf "__init__" "Parser.__init__" (defArgs s_Parser_init) (defBody s_Parser_init) (defScope s_Parser_init) .none kV_pin dc_pin pm_pin an_pin cd_pin ct_pin), sl_pin⟩)
    (c_pin : PySem.W.codeIn K cd_pin "Parser.__init__" = true)
    (k_pin : PySem.W.keepIn K (.ref f_pin) = true)
    (a_words_at : PySem.W.findIn K (.ref C) "words_at" = some (some (.ref f_words_at)))
    (i_words_at : PySem.W.isFn K (.ref f_words_at) = true)
    (l_words_at : K.lookup f_words_at = some ⟨oc_words_at, od_words_at, .func (PySem.W.fnOf "words_at" "Parser.words_at" (defArgs s_Parser_words_at) (defBody s_Parser_words_at) (defScope s_Parser_words_at) .none kV_words_at dc_words_at pm_words_at an_words_at cd_words_at ct_words_at), sl_words_at⟩)
    (c_words_at : PySem.W.codeIn K cd_words_at "Parser.words_at" = true)
    (k_words_at : PySem.W.keepIn K (.ref f_words_at) = true)
    (a_read_program : PySem.W.findIn K (.ref C) "read_program" = some (some (.ref f_read_program)))
    (i_read_program : PySem.W.isFn K (.ref f_read_program) = true)
    (l_read_program : K.lookup f_read_program = some ⟨oc_read_program, od_read_program, .func (PySem.W.fnOf "read_program" "Parser.read_program" (defArgs s_Parser_read_program) (defBody s_Parser_read_program) (defScope s_Parser_read_program) .none kV_read_program dc_read_program pm_read_program an_read_program cd_read_program ct_read_program), sl_read_program⟩)
    (c_read_program : PySem.W.codeIn K cd_read_program "Parser.read_program" = true)
    (k_read_program : PySem.W.keepIn K (.ref f_read_program) = true)
    (a_read_symbols : PySem.W.findIn K (.ref C) "read_symbols" = some (some (.ref f_read_symbols)))
    (i_read_symbols : PySem.W.isFn K (.ref f_read_symbols) = true)
    (l_read_symbols : K.lookup f_read_symbols = some ⟨oc_read_symbols, od_read_symbols, .func (PySem.W.fnOf "read_symbols" "Parser.read_symbols" (defArgs s_Parser_read_symbols) (defBody s_Parser_read_symbols) (defScope s_Parser_read_symbols) .none kV_read_symbols dc_read_symbols pm_read_symbols an_read_symbols cd_read_symbols ct_read_symbols), sl_read_symbols⟩)
    (c_read_symbols : PySem.W.codeIn K cd_read_symbols "Parser.read_symbols" = true)
    (k_read_symbols : PySem.W.keepIn K (.ref f_read_symbols) = true)
    (a_read_cell : PySem.W.findIn K (.ref C) "read_cell" = some (some (.ref f_read_cell)))
    (i_read_cell : PySem.W.isFn K (.ref f_read_cell) = true)
    (l_read_cell : K.lookup f_read_cell = some ⟨oc_read_cell, od_read_cell, .func (PySem.W.fnOf "read_cell" "Parser.read_cell" (defArgs s_Parser_read_cell) (defBody s_Parser_read_cell) (defScope s_Parser_read_cell) .none kV_read_cell dc_read_cell pm_read_cell an_read_cell cd_read_cell ct_read_cell), sl_read_cell⟩)
    (c_read_cell : PySem.W.codeIn K cd_read_cell "Parser.read_cell" = true)
    (k_read_cell : PySem.W.keepIn K (.ref f_read_cell) = true)
    (a_read_part : PySem.W.findIn K (.ref C) "read_part" = some (some (.ref f_read_part)))
    (i_read_part : PySem.W.isFn K (.ref f_read_part) = true)
    (l_read_part : K.lookup f_read_part = some ⟨oc_read_part, od_read_part, .func (PySem.W.fnOf "read_part" "Parser.read_part" (defArgs s_Parser_read_part) (defBody s_Parser_read_part) (defScope s_Parser_read_part) .none kV_read_part dc_read_part pm_read_part an_read_part cd_read_part ct_read_part), sl_read_part⟩)
    (c_read_part : PySem.W.codeIn K cd_read_part "Parser.read_part" = true)
    (k_read_part : PySem.W.keepIn K (.ref f_read_part) = true)
    (a_is_new_name : PySem.W.findIn K (.ref C) "is_new_name" = some (some (.ref f_is_new_name)))
    (i_is_new_name : PySem.W.isFn K (.ref f_is_new_name) = true)
    (l_is_new_name : K.lookup f_is_new_name = some ⟨oc_is_new_name, od_is_new_name, .func (PySem.W.fnOf "is_new_name" "Parser.is_new_name" (defArgs s_Parser_is_new_name) (defBody s_Parser_is_new_name) (defScope s_Parser_is_new_name) .none kV_is_new_name dc_is_new_name pm_is_new_name an_is_new_name cd_is_new_name ct_is_new_name), sl_is_new_name⟩)
    (c_is_new_name : PySem.W.codeIn K cd_is_new_name "Parser.is_new_name" = true)
    (k_is_new_name : PySem.W.keepIn K (.ref f_is_new_name) = true)
    (a_read_whole_body : PySem.W.findIn K (.ref C) "read_whole_body" = some (some (.ref f_read_whole_body)))
    (i_read_whole_body : PySem.W.isFn K (.ref f_read_whole_body) = true)
    (l_read_whole_body : K.lookup f_read_whole_body = some ⟨oc_read_whole_body, od_read_whole_body, .func (PySem.W.fnOf "read_whole_body" "Parser.read_whole_body" (defArgs s_Parser_read_whole_body) (defBody s_Parser_read_whole_body) (defScope s_Parser_read_whole_body) .none kV_read_whole_body dc_read_whole_body pm_read_whole_body an_read_whole_body cd_read_whole_body ct_read_whole_body), sl_read_whole_body⟩)
    (c_read_whole_body : PySem.W.codeIn K cd_read_whole_body "Parser.read_whole_body" = true)
    (k_read_whole_body : PySem.W.keepIn K (.ref f_read_whole_body) = true)
    (a_read_body : PySem.W.findIn K (.ref C) "read_body" = some (some (.ref f_read_body)))
    (i_read_body : PySem.W.isFn K (.ref f_read_body) = true)
    (l_read_body : K.lookup f_read_body = some ⟨oc_read_body, od_read_body, .func (PySem.W.fnOf "read_body" "Parser.read_body" (defArgs s_Parser_read_body) (defBody s_Parser_read_body) (defScope s_Parser_read_body) .none kV_read_body dc_read_body pm_read_body an_read_body cd_read_body ct_read_body), sl_read_body⟩)
    (c_read_body : PySem.W.codeIn K cd_read_body "Parser.read_body" = true)
    (k_read_body : PySem.W.keepIn K (.ref f_read_body) = true)
    (a_read_statement : PySem.W.findIn K (.ref C) "read_statement" = some (some (.ref f_read_statement)))
    (i_read_statement : PySem.W.isFn K (.ref f_read_statement) = true)
    (l_read_statement : K.lookup f_read_statement = some ⟨oc_read_statement, od_read_statement, .func (PySem.W.fnOf "read_statement" "Parser.read_statement" (defArgs s_Parser_read_statement) (defBody s_Parser_read_statement) (defScope s_Parser_read_statement) .none kV_read_statement dc_read_statement pm_read_statement an_read_statement cd_read_statement ct_read_statement), sl_read_statement⟩)
    (c_read_statement : PySem.W.codeIn K cd_read_statement "Parser.read_statement" = true)
    (k_read_statement : PySem.W.keepIn K (.ref f_read_statement) = true)
    (a_given_by : PySem.W.findIn K (.ref C) "given_by" = some (some (.ref f_given_by)))
    (i_given_by : PySem.W.isFn K (.ref f_given_by) = true)
    (l_given_by : K.lookup f_given_by = some ⟨oc_given_by, od_given_by, .func (PySem.W.fnOf "given_by" "Parser.given_by" (defArgs s_Parser_given_by) (defBody s_Parser_given_by) (defScope s_Parser_given_by) .none kV_given_by dc_given_by pm_given_by an_given_by cd_given_by ct_given_by), sl_given_by⟩)
    (c_given_by : PySem.W.codeIn K cd_given_by "Parser.given_by" = true)
    (k_given_by : PySem.W.keepIn K (.ref f_given_by) = true)
    (a_setting_by : PySem.W.findIn K (.ref C) "setting_by" = some (some (.ref f_setting_by)))
    (i_setting_by : PySem.W.isFn K (.ref f_setting_by) = true)
    (l_setting_by : K.lookup f_setting_by = some ⟨oc_setting_by, od_setting_by, .func (PySem.W.fnOf "setting_by" "Parser.setting_by" (defArgs s_Parser_setting_by) (defBody s_Parser_setting_by) (defScope s_Parser_setting_by) .none kV_setting_by dc_setting_by pm_setting_by an_setting_by cd_setting_by ct_setting_by), sl_setting_by⟩)
    (c_setting_by : PySem.W.codeIn K cd_setting_by "Parser.setting_by" = true)
    (k_setting_by : PySem.W.keepIn K (.ref f_setting_by) = true)
    (a_sum_by : PySem.W.findIn K (.ref C) "sum_by" = some (some (.ref f_sum_by)))
    (i_sum_by : PySem.W.isFn K (.ref f_sum_by) = true)
    (l_sum_by : K.lookup f_sum_by = some ⟨oc_sum_by, od_sum_by, .func (PySem.W.fnOf "sum_by" "Parser.sum_by" (defArgs s_Parser_sum_by) (defBody s_Parser_sum_by) (defScope s_Parser_sum_by) .none kV_sum_by dc_sum_by pm_sum_by an_sum_by cd_sum_by ct_sum_by), sl_sum_by⟩)
    (c_sum_by : PySem.W.codeIn K cd_sum_by "Parser.sum_by" = true)
    (k_sum_by : PySem.W.keepIn K (.ref f_sum_by) = true)
    (a_condition_by : PySem.W.findIn K (.ref C) "condition_by" = some (some (.ref f_condition_by)))
    (i_condition_by : PySem.W.isFn K (.ref f_condition_by) = true)
    (l_condition_by : K.lookup f_condition_by = some ⟨oc_condition_by, od_condition_by, .func (PySem.W.fnOf "condition_by" "Parser.condition_by" (defArgs s_Parser_condition_by) (defBody s_Parser_condition_by) (defScope s_Parser_condition_by) .none kV_condition_by dc_condition_by pm_condition_by an_condition_by cd_condition_by ct_condition_by), sl_condition_by⟩)
    (c_condition_by : PySem.W.codeIn K cd_condition_by "Parser.condition_by" = true)
    (k_condition_by : PySem.W.keepIn K (.ref f_condition_by) = true)
    (a_gin : PySem.W.findIn K (.ref CP) "__init__" = some (some (.ref f_gin)))
    (i_gin : PySem.W.isFn K (.ref f_gin) = true)
    (l_gin : K.lookup f_gin = some ⟨oc_gin, od_gin, .func (PySem.W.fnOf "__init__" "Program.__init__" (defArgs s_Program_init) (defBody s_Program_init) (defScope s_Program_init) .none kV_gin dc_gin pm_gin an_gin cd_gin ct_gin), sl_gin⟩)
    (c_gin : PySem.W.codeIn K cd_gin "Program.__init__" = true)
    (k_gin : PySem.W.keepIn K (.ref f_gin) = true)
    (a_geq : PySem.W.findIn K (.ref CP) "__eq__" = some (some (.ref f_geq)))
    (i_geq : PySem.W.isFn K (.ref f_geq) = true)
    (l_geq : K.lookup f_geq = some ⟨oc_geq, od_geq, .func (PySem.W.fnOf "__eq__" "Program.__eq__" (defArgs s_Program_eq) (defBody s_Program_eq) (defScope s_Program_eq) .none kV_geq dc_geq pm_geq an_geq cd_geq ct_geq), sl_geq⟩)
    (c_geq : PySem.W.codeIn K cd_geq "Program.__eq__" = true)
    (k_geq : PySem.W.keepIn K (.ref f_geq) = true)
    (z_len : PySem.W.nsIn K mainGlobals "len" = some none)
    (z_int : PySem.W.nsIn K mainGlobals "int" = some none)
    (z_abs : PySem.W.nsIn K mainGlobals "abs" = some none)
    (z_str : PySem.W.nsIn K mainGlobals "str" = some none)
    (z_list : PySem.W.nsIn K mainGlobals "list" = some none)
    (z_tuple : PySem.W.nsIn K mainGlobals "tuple" = some none)
    (z_range : PySem.W.nsIn K mainGlobals "range" = some none)
    (z_all : PySem.W.nsIn K mainGlobals "all" = some none)
    (z_sorted : PySem.W.nsIn K mainGlobals "sorted" = some none)
    (z_set : PySem.W.nsIn K mainGlobals "set" = some none)
    (z_zip : PySem.W.nsIn K mainGlobals "zip" = some none)
    (z_isinstance : PySem.W.nsIn K mainGlobals "isinstance" = some none)
    (z_enumerate : PySem.W.nsIn K mainGlobals "enumerate" = some none)
    (z_repr : PySem.W.nsIn K mainGlobals "repr" = some none)
    (z_max : PySem.W.nsIn K mainGlobals "max" = some none)
    (z_min : PySem.W.nsIn K mainGlobals "min" = some none)
    (z_any : PySem.W.nsIn K mainGlobals "any" = some none)
    (v_ALPHABET : PySem.W.nsIn K mainGlobals "ALPHABET" = some (some (.str alpha t1)))
    (v_MOST_CELLS : PySem.W.nsIn K mainGlobals "MOST_CELLS" = some (some (.int 2 t2)))
    (v_MOST_PARTS : PySem.W.nsIn K mainGlobals "MOST_PARTS" = some (some (.int 2 t3)))
    (v_MOST_STATEMENTS : PySem.W.nsIn K mainGlobals "MOST_STATEMENTS" = some (some (.int 20 t4)))
    (v_MOST_BODIES : PySem.W.nsIn K mainGlobals "MOST_BODIES" = some (some (.int 4 t5)))
    (v_LONGEST_NAME : PySem.W.nsIn K mainGlobals "LONGEST_NAME" = some (some (.int 8 t6)))
    (v_VALUES : PySem.W.nsIn K mainGlobals "VALUES" = some (some (.ref aV)))
    (l_VALUES : K.lookup aV = some ⟨.type "tuple", od_aV, .seq #[.str "0" k_aV_0, .str "1" k_aV_1, .str "2" k_aV_2] n_aV, sl_aV⟩)
    (v_BARE_WORDS : PySem.W.nsIn K mainGlobals "BARE_WORDS" = some (some (.ref aB)))
    (l_BARE_WORDS : K.lookup aB = some ⟨.type "tuple", od_aB, .seq #[.str "right" k_aB_0, .str "left" k_aB_1, .str "copy" k_aB_2, .str "stop" k_aB_3] n_aB, sl_aB⟩)
    (v_WORDS : PySem.W.nsIn K mainGlobals "WORDS" = some (some (.ref aW)))
    (l_WORDS : K.lookup aW = some ⟨.type "tuple", od_aW, .seq #[.str "symbols" k_aW_0, .str "cell" k_aW_1, .str "part" k_aW_2, .str "main" k_aW_3, .str "right" k_aW_4, .str "left" k_aW_5, .str "write" k_aW_6, .str "copy" k_aW_7, .str "set" k_aW_8, .str "add" k_aW_9, .str "if" k_aW_10, .str "else" k_aW_11, .str "while" k_aW_12, .str "do" k_aW_13, .str "stop" k_aW_14, .str "at" k_aW_15, .str "not" k_aW_16] n_aW, sl_aW⟩)
    (is1 : PySem.W.findIn K (.ref CP) "__class__" = some (some (.builtin "object.__class__")))
    (is2 : PySem.W.specialIn K (.builtin "object.__class__") "__get__" = some (some (.builtin "getset_descriptor.__get__")))
    (is3 : PySem.W.takesIn K (.builtin "object.__class__") = some true)
    (is4 : PySem.W.mroIn K CP (.type "object") = some true)
    (ne1 : PySem.W.findIn K (.ref CP) "__ne__" = some (some (.builtin "object.__ne__")))
    (ap1 : PySem.W.isClsIn K CP = true)
    (ap2 : PySem.W.typeIn K (.ref CP) = some (.type "type"))
    (ap3 : PySem.W.subIn K (.type "str") (.ref CP) = some false)
    (ap4 : PySem.W.subIn K (.type "NoneType") (.ref CP) = some false)
    (ap5 : PySem.W.subIn K (.type "int") (.ref CP) = some false)
    (ap6 : PySem.W.subIn K (.type "tuple") (.ref CP) = some false)
    (ap7 : PySem.W.subIn K (.type "list") (.ref CP) = some false)
    (ap8 : PySem.W.subIn K (.type "dict") (.ref CP) = some false)
    (d1 : CP ≠ CS)
    (d2 : CP ≠ C)
    (d3 : C ≠ CS) :
    ∃ fd : FuncData, (∀ (s : Shared) (v : Value), BindsTo s fd ⟨[v], []⟩ [("_law_script", v)]) ∧ ∀ base : Heap, K.In base → base.Ns mainGlobals mg → FnOkG l.prog w K mg base 20 fa fd ["_law_script"] (spLaw K) := by
  have e := hfa.symm.trans (PySem.W.mg_of X G a_law)
  cases e
  have F_link := fun_mk (st := s_link) l_link c_link k_link
  have b_link := F_link.binds (ps := ["body", "end"]) fun _ _ _ _ _ _ us hl => match us, hl with | [_, _], _ => rfl
  have m_link := PySem.W.mg_of X G a_link
  have F_parse := fun_mk (st := s_parse) l_parse c_parse k_parse
  have b_parse := F_parse.binds (ps := ["text"]) fun _ _ _ _ _ _ us hl => match us, hl with | [_], _ => rfl
  have m_parse := PySem.W.mg_of X G a_parse
  have F_iol := fun_mk (st := s_is_of_letters) l_iol c_iol k_iol
  have b_iol := F_iol.binds (ps := ["word"]) fun _ _ _ _ _ _ us hl => match us, hl with | [_], _ => rfl
  have m_iol := PySem.W.mg_of X G a_iol
  have F_iio := fun_mk (st := s_is_in_order) l_iio c_iio k_iio
  have b_iio := F_iio.binds (ps := ["word", "order"]) fun _ _ _ _ _ _ us hl => match us, hl with | [_, _], _ => rfl
  have m_iio := PySem.W.mg_of X G a_iio
  have F_let := fun_mk (st := s_letters_of) l_let c_let k_let
  have b_let := F_let.binds (ps := ["program"]) fun _ _ _ _ _ _ us hl => match us, hl with | [_], _ => rfl
  have m_let := PySem.W.mg_of X G a_let
  have F_pot := fun_mk (st := s__law_pot_of) l_pot c_pot k_pot
  have b_pot := F_pot.binds (ps := ["_law_script", "_law_k"]) fun _ _ _ _ _ _ us hl => match us, hl with | [_, _], _ => rfl
  have m_pot := PySem.W.mg_of X G a_pot
  have F_take := fun_mk (st := s__law_take) l_take c_take k_take
  have b_take := F_take.binds (ps := ["_law_pot", "_law_upto"]) fun _ _ _ _ _ _ us hl => match us, hl with | [_, _], _ => rfl
  have m_take := PySem.W.mg_of X G a_take
  have F_of := fun_mk (st := s__law_of) l_of c_of k_of
  have b_of := F_of.binds (ps := ["_law_pot", "_law_some"]) fun _ _ _ _ _ _ us hl => match us, hl with | [_, _], _ => rfl
  have m_of := PySem.W.mg_of X G a_of
  have F_lore := fun_mk (st := s_wide_lore) l_lore c_lore k_lore
  have b_lore := F_lore.binds (ps := ["_law_pot"]) fun _ _ _ _ _ _ us hl => match us, hl with | [_], _ => rfl
  have m_lore := PySem.W.mg_of X G a_lore
  have F_ask := fun_mk (st := s_wide_asked) l_ask c_ask k_ask
  have b_ask := F_ask.binds (ps := ["_law_pot", "_law_lore"]) fun _ _ _ _ _ _ us hl => match us, hl with | [_, _], _ => rfl
  have m_ask := PySem.W.mg_of X G a_ask
  have F_plain := fun_mk (st := s_wide_plain) l_plain c_plain k_plain
  have b_plain := F_plain.binds (ps := ["_law_pot", "_law_lore", "_law_known"]) fun _ _ _ _ _ _ us hl => match us, hl with | [_, _, _], _ => rfl
  have m_plain := PySem.W.mg_of X G a_plain
  have F_body := fun_mk (st := s_wide_body) l_body c_body k_body
  have b_body := F_body.binds (ps := ["_law_pot", "_law_lore", "_law_known", "_law_depth"]) fun _ _ _ _ _ _ us hl => match us, hl with | [_, _, _, _], _ => rfl
  have m_body := PySem.W.mg_of X G a_body
  have F_grown := fun_mk (st := s_grown) l_grown c_grown k_grown
  have b_grown := F_grown.binds (ps := ["_law_pot", "_law_lore"]) fun _ _ _ _ _ _ us hl => match us, hl with | [_, _], _ => rfl
  have m_grown := PySem.W.mg_of X G a_grown
  have F_lets := fun_mk (st := s_letters) l_lets c_lets k_lets
  have b_lets := F_lets.binds (ps := ["_law_source"]) fun _ _ _ _ _ _ us hl => match us, hl with | [_], _ => rfl
  have m_lets := PySem.W.mg_of X G a_lets
  have F_other := fun_mk (st := s_other) l_other c_other k_other
  have b_other := F_other.binds (ps := ["_law_pot", "_law_source"]) fun _ _ _ _ _ _ us hl => match us, hl with | [_, _], _ => rfl
  have m_other := PySem.W.mg_of X G a_other
  have F_right := fun_mk (st := s_right) l_right c_right k_right
  have b_right := F_right.binds (ps := ["_law_pot"]) fun _ _ _ _ _ _ us hl => match us, hl with | [_], _ => rfl
  have m_right := PySem.W.mg_of X G a_right
  have F_law := fun_mk (st := s_law) l_law c_law k_law
  have b_law := F_law.binds (ps := ["_law_script"]) fun _ _ _ _ _ _ us hl => match us, hl with | [_], _ => rfl
  have m_law := PySem.W.mg_of X G a_law
  have F_sin := fun_mk (st := s_Statement___init__) l_sin c_sin k_sin
  have b_sin := F_sin.binds (ps := ["self", "line", "word", "given"]) fun _ _ _ _ _ _ us hl => match us, hl with | [_, _, _, _], _ => rfl
  have m_sin : Meth K CS "__init__" f_sin := ⟨a_sin, i_sin, k_sin⟩
  have F_pin := fun_mk (st := s_Parser_init) l_pin c_pin k_pin
  have b_pin := F_pin.binds (ps := ["self", "text"]) fun _ _ _ _ _ _ us hl => match us, hl with | [_, _], _ => rfl
  have m_pin : Meth K C "__init__" f_pin := ⟨a_pin, i_pin, k_pin⟩
  have F_words_at := fun_mk (st := s_Parser_words_at) l_words_at c_words_at k_words_at
  have b_words_at := F_words_at.binds (ps := ["self", "depth"]) fun _ _ _ _ _ _ us hl => match us, hl with | [_, _], _ => rfl
  have m_words_at : Meth K C "words_at" f_words_at := ⟨a_words_at, i_words_at, k_words_at⟩
  have F_read_program := fun_mk (st := s_Parser_read_program) l_read_program c_read_program k_read_program
  have b_read_program := F_read_program.binds (ps := ["self"]) fun _ _ _ _ _ _ us hl => match us, hl with | [_], _ => rfl
  have m_read_program : Meth K C "read_program" f_read_program := ⟨a_read_program, i_read_program, k_read_program⟩
  have F_read_symbols := fun_mk (st := s_Parser_read_symbols) l_read_symbols c_read_symbols k_read_symbols
  have b_read_symbols := F_read_symbols.binds (ps := ["self"]) fun _ _ _ _ _ _ us hl => match us, hl with | [_], _ => rfl
  have m_read_symbols : Meth K C "read_symbols" f_read_symbols := ⟨a_read_symbols, i_read_symbols, k_read_symbols⟩
  have F_read_cell := fun_mk (st := s_Parser_read_cell) l_read_cell c_read_cell k_read_cell
  have b_read_cell := F_read_cell.binds (ps := ["self"]) fun _ _ _ _ _ _ us hl => match us, hl with | [_], _ => rfl
  have m_read_cell : Meth K C "read_cell" f_read_cell := ⟨a_read_cell, i_read_cell, k_read_cell⟩
  have F_read_part := fun_mk (st := s_Parser_read_part) l_read_part c_read_part k_read_part
  have b_read_part := F_read_part.binds (ps := ["self"]) fun _ _ _ _ _ _ us hl => match us, hl with | [_], _ => rfl
  have m_read_part : Meth K C "read_part" f_read_part := ⟨a_read_part, i_read_part, k_read_part⟩
  have F_is_new_name := fun_mk (st := s_Parser_is_new_name) l_is_new_name c_is_new_name k_is_new_name
  have b_is_new_name := F_is_new_name.binds (ps := ["self", "word"]) fun _ _ _ _ _ _ us hl => match us, hl with | [_, _], _ => rfl
  have m_is_new_name : Meth K C "is_new_name" f_is_new_name := ⟨a_is_new_name, i_is_new_name, k_is_new_name⟩
  have F_read_whole_body := fun_mk (st := s_Parser_read_whole_body) l_read_whole_body c_read_whole_body k_read_whole_body
  have b_read_whole_body := F_read_whole_body.binds (ps := ["self"]) fun _ _ _ _ _ _ us hl => match us, hl with | [_], _ => rfl
  have m_read_whole_body : Meth K C "read_whole_body" f_read_whole_body := ⟨a_read_whole_body, i_read_whole_body, k_read_whole_body⟩
  have F_read_body := fun_mk (st := s_Parser_read_body) l_read_body c_read_body k_read_body
  have b_read_body := F_read_body.binds (ps := ["self", "depth"]) fun _ _ _ _ _ _ us hl => match us, hl with | [_, _], _ => rfl
  have m_read_body : Meth K C "read_body" f_read_body := ⟨a_read_body, i_read_body, k_read_body⟩
  have F_read_statement := fun_mk (st := s_Parser_read_statement) l_read_statement c_read_statement k_read_statement
  have b_read_statement := F_read_statement.binds (ps := ["self", "depth"]) fun _ _ _ _ _ _ us hl => match us, hl with | [_, _], _ => rfl
  have m_read_statement : Meth K C "read_statement" f_read_statement := ⟨a_read_statement, i_read_statement, k_read_statement⟩
  have F_given_by := fun_mk (st := s_Parser_given_by) l_given_by c_given_by k_given_by
  have b_given_by := F_given_by.binds (ps := ["self", "words"]) fun _ _ _ _ _ _ us hl => match us, hl with | [_, _], _ => rfl
  have m_given_by : Meth K C "given_by" f_given_by := ⟨a_given_by, i_given_by, k_given_by⟩
  have F_setting_by := fun_mk (st := s_Parser_setting_by) l_setting_by c_setting_by k_setting_by
  have b_setting_by := F_setting_by.binds (ps := ["self", "words"]) fun _ _ _ _ _ _ us hl => match us, hl with | [_, _], _ => rfl
  have m_setting_by : Meth K C "setting_by" f_setting_by := ⟨a_setting_by, i_setting_by, k_setting_by⟩
  have F_sum_by := fun_mk (st := s_Parser_sum_by) l_sum_by c_sum_by k_sum_by
  have b_sum_by := F_sum_by.binds (ps := ["self", "words"]) fun _ _ _ _ _ _ us hl => match us, hl with | [_, _], _ => rfl
  have m_sum_by : Meth K C "sum_by" f_sum_by := ⟨a_sum_by, i_sum_by, k_sum_by⟩
  have F_condition_by := fun_mk (st := s_Parser_condition_by) l_condition_by c_condition_by k_condition_by
  have b_condition_by := F_condition_by.binds (ps := ["self", "words"]) fun _ _ _ _ _ _ us hl => match us, hl with | [_, _], _ => rfl
  have m_condition_by : Meth K C "condition_by" f_condition_by := ⟨a_condition_by, i_condition_by, k_condition_by⟩
  have F_gin := fun_mk (st := s_Program_init) l_gin c_gin k_gin
  have b_gin := F_gin.binds (ps := ["self", "text"]) fun _ _ _ _ _ _ us hl => match us, hl with | [_, _], _ => rfl
  have m_gin : Meth K CP "__init__" f_gin := ⟨a_gin, i_gin, k_gin⟩
  have F_geq := fun_mk (st := s_Program_eq) l_geq c_geq k_geq
  have b_geq := F_geq.binds (ps := ["self", "other"]) fun _ _ _ _ _ _ us hl => match us, hl with | [_, _], _ => rfl
  have m_geq : Meth K CP "__eq__" f_geq := ⟨a_geq, i_geq, k_geq⟩
  have T_C : PTxt K C := ⟨⟨pg_C, hd_C, po_C, sa_C⟩, n_C_lines, n_C_number, n_C_symbols, n_C_mosts, n_C_starts, n_C_statements, n_C_first⟩
  have g_C := PySem.W.mg_of X G a_C
  have T_CS : STxt K CS := ⟨⟨pg_CS, hd_CS, po_CS, sa_CS⟩, n_CS_line, n_CS_word, n_CS_given, n_CS_inside, n_CS_otherwise, n_CS_follow⟩
  have g_CS := PySem.W.mg_of X G a_CS
  have T_CP : GTxt K CP := ⟨⟨pg_CP, hd_CP, po_CP, sa_CP⟩, n_CP_text, n_CP_symbols, n_CP_cells, n_CP_parts, n_CP_statements, n_CP_first, n_CP_letters⟩
  have g_CP := PySem.W.mg_of X G a_CP
  have y_len := PySem.W.mg_none_of X G z_len
  have y_int := PySem.W.mg_none_of X G z_int
  have y_abs := PySem.W.mg_none_of X G z_abs
  have y_str := PySem.W.mg_none_of X G z_str
  have y_list := PySem.W.mg_none_of X G z_list
  have y_tuple := PySem.W.mg_none_of X G z_tuple
  have y_range := PySem.W.mg_none_of X G z_range
  have y_all := PySem.W.mg_none_of X G z_all
  have y_sorted := PySem.W.mg_none_of X G z_sorted
  have y_set := PySem.W.mg_none_of X G z_set
  have y_zip := PySem.W.mg_none_of X G z_zip
  have y_isinstance := PySem.W.mg_none_of X G z_isinstance
  have y_enumerate := PySem.W.mg_none_of X G z_enumerate
  have y_repr := PySem.W.mg_none_of X G z_repr
  have y_max := PySem.W.mg_none_of X G z_max
  have y_min := PySem.W.mg_none_of X G z_min
  have y_any := PySem.W.mg_none_of X G z_any
  have T : Bare mg := ⟨y_len, y_int, y_abs, y_str, y_list, y_tuple, y_range⟩
  have T1 : Consts K mg := ⟨⟨_, PySem.W.mg_of X G v_ALPHABET⟩, ⟨_, PySem.W.mg_of X G v_MOST_CELLS⟩, ⟨_, PySem.W.mg_of X G v_MOST_PARTS⟩, ⟨_, PySem.W.mg_of X G v_MOST_STATEMENTS⟩, ⟨_, PySem.W.mg_of X G v_MOST_BODIES⟩, ⟨_, PySem.W.mg_of X G v_LONGEST_NAME⟩, y_all, y_sorted, y_set⟩
  have T2 : Consts2 K mg := ⟨⟨_, PySem.W.mg_of X G v_VALUES, tup_in l_VALUES (Nat.le_of_ble_eq_true rfl) (.cons ⟨_, rfl⟩ (.cons ⟨_, rfl⟩ (.cons ⟨_, rfl⟩ .nil)))⟩, ⟨_, PySem.W.mg_of X G v_BARE_WORDS, tup_in l_BARE_WORDS (Nat.le_of_ble_eq_true rfl) (.cons ⟨_, rfl⟩ (.cons ⟨_, rfl⟩ (.cons ⟨_, rfl⟩ (.cons ⟨_, rfl⟩ .nil))))⟩, ⟨_, PySem.W.mg_of X G v_WORDS, tup_in l_WORDS (Nat.le_of_ble_eq_true rfl) (.cons ⟨_, rfl⟩ (.cons ⟨_, rfl⟩ (.cons ⟨_, rfl⟩ (.cons ⟨_, rfl⟩ (.cons ⟨_, rfl⟩ (.cons ⟨_, rfl⟩ (.cons ⟨_, rfl⟩ (.cons ⟨_, rfl⟩ (.cons ⟨_, rfl⟩ (.cons ⟨_, rfl⟩ (.cons ⟨_, rfl⟩ (.cons ⟨_, rfl⟩ (.cons ⟨_, rfl⟩ (.cons ⟨_, rfl⟩ (.cons ⟨_, rfl⟩ (.cons ⟨_, rfl⟩ (.cons ⟨_, rfl⟩ .nil)))))))))))))))))⟩⟩
  have TI : IsTxt K CP := ⟨is1, is2, is3, is4⟩
  have TE : EqTxt K CP f_geq := ⟨a_geq, i_geq, ne1, is4⟩
  refine ⟨PySem.W.fnOf "law" "law" (defArgs s_law) (defBody s_law) (defScope s_law) .none kV_law dc_law pm_law an_law cd_law ct_law, fun s v => .of_eq rfl, fun base _ _ => ?_⟩
  have CT : Callee l.prog w K mg base 1 "_law_take" ["_law_pot", "_law_upto"] spTake := ⟨f_take, _, ok_take F_take T, m_take, k_take, b_take⟩
  have CO : Callee l.prog w K mg base 2 "_law_of" ["_law_pot", "_law_some"] (spOf K) := ⟨f_of, _, ok_of F_of T CT, m_of, k_of, b_of⟩
  have CPot : Callee l.prog w K mg base 1 "_law_pot_of" ["_law_script", "_law_k"] (spPotOf K) := ⟨f_pot, _, ok_pot_of F_pot T, m_pot, k_pot, b_pot⟩
  have CLet : Callee l.prog w K mg base 1 "is_of_letters" ["word"] (spText1 ofLetters) := ⟨f_iol, _, ok_is_of_letters F_iol T1, m_iol, k_iol, b_iol⟩
  have COrd : Callee l.prog w K mg base 1 "is_in_order" ["word", "order"] spOrder := ⟨f_iio, _, ok_is_in_order F_iio T1, m_iio, k_iio, b_iio⟩
  have MW : Meter l.prog w K mg base C 1 "words_at" ["self", "depth"] (spWords C) := ⟨f_words_at, _, ok_words_at F_words_at T T_C, m_words_at, b_words_at⟩
  have MSet : Meter l.prog w K mg base C 1 "setting_by" ["self", "words"] (spSetting K C) := ⟨f_setting_by, _, ok_setting_by F_setting_by T T2 T_C, m_setting_by, b_setting_by⟩
  have MSum : Meter l.prog w K mg base C 1 "sum_by" ["self", "words"] (spSum K C) := ⟨f_sum_by, _, ok_sum_by F_sum_by T T_C, m_sum_by, b_sum_by⟩
  have MCo : Meter l.prog w K mg base C 2 "condition_by" ["self", "words"] (spCond K C) := ⟨f_condition_by, _, ok_condition_by F_condition_by T T_C COrd MSet, m_condition_by, b_condition_by⟩
  have MGi : Meter l.prog w K mg base C 3 "given_by" ["self", "words"] (spGiven K C) := ⟨f_given_by, _, ok_given_by F_given_by T T2 T_C CLet MSet MSum MCo, m_given_by, b_given_by⟩
  let MI : Maker l.prog w K mg base CS 1 "Statement" ["self", "line", "word", "given"] (spStInit CS) := ⟨f_sin, _, ok_st_init F_sin T_CS, ⟨mk_CS, a_sin, i_sin, kc_CS⟩, g_CS, b_sin⟩
  have OB : FnOk l.prog w K mg base CX0 12 f_read_body _ ["self", "depth"] (spBod C CS 1) := ok_bodies F_read_body F_read_statement m_read_body m_read_statement b_read_body b_read_statement T T1 T_C T_CS MW MGi MI 4 (by decide)
  have MBo : Meter l.prog w K mg base C 12 "read_body" ["self", "depth"] (spBod C CS 1) := ⟨f_read_body, _, OB, m_read_body, b_read_body⟩
  have CLi : Callee l.prog w K mg base 5 "link" ["body", "end"] (spLink CS 5) := ⟨f_link, _, ok_link F_link T_CS y_zip m_link b_link 5, m_link, k_link, b_link⟩
  have MWh : Meter l.prog w K mg base C 13 "read_whole_body" ["self"] (spWhole C CS) := ⟨f_read_whole_body, _, ok_read_whole_body F_read_whole_body T_C T_CS MBo CLi, m_read_whole_body, b_read_whole_body⟩
  have MNew : Meter l.prog w K mg base C 2 "is_new_name" ["self", "word"] (spNew C) := ⟨f_is_new_name, _, ok_is_new_name F_is_new_name T T1 T2 T_C CLet, m_is_new_name, b_is_new_name⟩
  have MCe : Meter l.prog w K mg base C 3 "read_cell" ["self"] (spCell C CS) := ⟨f_read_cell, _, ok_read_cell F_read_cell T T1 T_C MW MNew, m_read_cell, b_read_cell⟩
  have MPa : Meter l.prog w K mg base C 14 "read_part" ["self"] (spPart C CS) := ⟨f_read_part, _, ok_read_part F_read_part T T1 T_C MW MNew MWh, m_read_part, b_read_part⟩
  have MSy : Meter l.prog w K mg base C 2 "read_symbols" ["self"] (spSyms C CS) := ⟨f_read_symbols, _, ok_read_symbols F_read_symbols T T1 T_C MW COrd, m_read_symbols, b_read_symbols⟩
  have MPr : Meter l.prog w K mg base C 15 "read_program" ["self"] (spProg C CS) := ⟨f_read_program, _, ok_read_program F_read_program T T_C MW MSy MCe MPa MWh, m_read_program, b_read_program⟩
  let MK : Maker l.prog w K mg base C 1 "Parser" ["self", "text"] (spPInit C) := ⟨f_pin, _, ok_parser_init F_pin T_C, ⟨mk_C, a_pin, i_pin, kc_C⟩, g_C, b_pin⟩
  have CPa : Callee l.prog w K mg base 16 "parse" ["text"] (spParse C CS) := ⟨f_parse, _, ok_parse F_parse T y_isinstance T_C d3 MK MPr, m_parse, k_parse, b_parse⟩
  have CLs : Callee l.prog w K mg base 1 "letters_of" ["program"] (spLetters CP CS) := ⟨f_let, _, ok_letters_of F_let T y_set y_sorted T_CP T_CS, m_let, k_let, b_let⟩
  let MG : Maker l.prog w K mg base CP 17 "Program" ["self", "text"] (spGInit CP CS) := ⟨f_gin, _, ok_program_init F_gin T T_C T_CP d1 d2 CPa CLs, ⟨mk_CP, a_gin, i_gin, kc_CP⟩, g_CP, b_gin⟩
  have CAs : Callee l.prog w K mg base 3 "_law_wide_asked" ["_law_pot", "_law_lore"] spAsked := ⟨f_ask, _, ok_wide_asked F_ask T CT CO, m_ask, k_ask, b_ask⟩
  have CPl : Callee l.prog w K mg base 3 "_law_wide_plain" ["_law_pot", "_law_lore", "_law_known"] spPlain := ⟨f_plain, _, ok_wide_plain F_plain T CT CO, m_plain, k_plain, b_plain⟩
  have CLo : Callee l.prog w K mg base 3 "_law_wide_lore" ["_law_pot"] spLore := ⟨f_lore, _, ok_wide_lore F_lore T CT CO, m_lore, k_lore, b_lore⟩
  have CBo := ok_wide_body1 F_body T m_body k_body b_body CT CO CAs CPl
  have CGr : Callee l.prog w K mg base 8 "_law_grown" ["_law_pot", "_law_lore"] spGrown := ⟨f_grown, _, ok_grown F_grown T y_enumerate CBo, m_grown, k_grown, b_grown⟩
  have AP : Apart K CP := ⟨ap1, ap2, ap3, ap4, ap5, ap6, ap7, ap8⟩
  have OE := ok_program_eqB (P := l.prog) (w := w) (base := base) F_geq T_CP TI AP y_isinstance g_CP
  have CH : Callee l.prog w K mg base 3 "_law_other" ["_law_pot", "_law_source"] spOther := ⟨f_other, _, ok_other F_other T y_enumerate CO, m_other, k_other, b_other⟩
  have CE : Callee l.prog w K mg base 1 "_law_letters" ["_law_source"] spLet := ⟨f_lets, _, ok_letters F_lets T y_set y_sorted, m_lets, k_lets, b_lets⟩
  have OR := ok_right F_right T y_repr y_any T_CP TI AP TE d1 CLo CGr CH CE MG OE b_geq
  exact ok_law F_law T y_max y_min y_all CPot OR m_right k_right b_right
end Fg
open PySem PySem.W PyProof.Rows L2
set_option maxRecDepth 100000 in
set_option maxHeartbeats 0 in
theorem PySem.Challenge.cw_fewgoings_k09_what_a_program_tells_holds : PySem.Challenge.rw_fewgoings_k09_what_a_program_tells.Holds := by
  w_on; o_law; k_head; (case hw => w_witness2)
  k_fill
  refine Fg.walk_G (l := PySem.Challenge.rw_fewgoings_k09_what_a_program_tells) (n := 63) (k := 20) (x := "_law_script") (sp := Fg.spLaw) rfl (by decide) rfl ⟨rfl, by decide, by decide⟩ (fun w h Y => PySem.W.kIn_of Y) ?F (fun _ _ a ns hl _ hS => ⟨a, ns, rfl, hS, hl, fun _ => rfl⟩)
  case F =>
    intro w mg fa h KX G hmg
    refine' Fg.all_mk KX G hmg ?a_C ?pg_C ?hd_C ?po_C ?sa_C ?mk_C ?kc_C ?n_C_lines ?n_C_number ?n_C_symbols ?n_C_mosts ?n_C_starts ?n_C_statements ?n_C_first ?a_CS ?pg_CS ?hd_CS ?po_CS ?sa_CS ?mk_CS ?kc_CS ?n_CS_line ?n_CS_word ?n_CS_given ?n_CS_inside ?n_CS_otherwise ?n_CS_follow ?a_CP ?pg_CP ?hd_CP ?po_CP ?sa_CP ?mk_CP ?kc_CP ?n_CP_text ?n_CP_symbols ?n_CP_cells ?n_CP_parts ?n_CP_statements ?n_CP_first ?n_CP_letters ?a_link ?l_link ?c_link ?k_link ?a_parse ?l_parse ?c_parse ?k_parse ?a_iol ?l_iol ?c_iol ?k_iol ?a_iio ?l_iio ?c_iio ?k_iio ?a_let ?l_let ?c_let ?k_let ?a_pot ?l_pot ?c_pot ?k_pot ?a_take ?l_take ?c_take ?k_take ?a_of ?l_of ?c_of ?k_of ?a_lore ?l_lore ?c_lore ?k_lore ?a_ask ?l_ask ?c_ask ?k_ask ?a_plain ?l_plain ?c_plain ?k_plain ?a_body ?l_body ?c_body ?k_body ?a_grown ?l_grown ?c_grown ?k_grown ?a_lets ?l_lets ?c_lets ?k_lets ?a_other ?l_other ?c_other ?k_other ?a_right ?l_right ?c_right ?k_right ?a_law ?l_law ?c_law ?k_law ?a_sin ?i_sin ?l_sin ?c_sin ?k_sin ?a_pin ?i_pin ?l_pin ?c_pin ?k_pin ?a_words_at ?i_words_at ?l_words_at ?c_words_at ?k_words_at ?a_read_program ?i_read_program ?l_read_program ?c_read_program ?k_read_program ?a_read_symbols ?i_read_symbols ?l_read_symbols ?c_read_symbols ?k_read_symbols ?a_read_cell ?i_read_cell ?l_read_cell ?c_read_cell ?k_read_cell ?a_read_part ?i_read_part ?l_read_part ?c_read_part ?k_read_part ?a_is_new_name ?i_is_new_name ?l_is_new_name ?c_is_new_name ?k_is_new_name ?a_read_whole_body ?i_read_whole_body ?l_read_whole_body ?c_read_whole_body ?k_read_whole_body ?a_read_body ?i_read_body ?l_read_body ?c_read_body ?k_read_body ?a_read_statement ?i_read_statement ?l_read_statement ?c_read_statement ?k_read_statement ?a_given_by ?i_given_by ?l_given_by ?c_given_by ?k_given_by ?a_setting_by ?i_setting_by ?l_setting_by ?c_setting_by ?k_setting_by ?a_sum_by ?i_sum_by ?l_sum_by ?c_sum_by ?k_sum_by ?a_condition_by ?i_condition_by ?l_condition_by ?c_condition_by ?k_condition_by ?a_gin ?i_gin ?l_gin ?c_gin ?k_gin ?a_geq ?i_geq ?l_geq ?c_geq ?k_geq ?z_len ?z_int ?z_abs ?z_str ?z_list ?z_tuple ?z_range ?z_all ?z_sorted ?z_set ?z_zip ?z_isinstance ?z_enumerate ?z_repr ?z_max ?z_min ?z_any ?v_ALPHABET ?v_MOST_CELLS ?v_MOST_PARTS ?v_MOST_STATEMENTS ?v_MOST_BODIES ?v_LONGEST_NAME ?v_VALUES ?l_VALUES ?v_BARE_WORDS ?l_BARE_WORDS ?v_WORDS ?l_WORDS ?is1 ?is2 ?is3 ?is4 ?ne1 ?ap1 ?ap2 ?ap3 ?ap4 ?ap5 ?ap6 ?ap7 ?ap8 ?d1 ?d2 ?d3
    (case a_C => k_is)
    (case pg_C => k_is)
    (case hd_C => k_is)
    (case po_C => k_is)
    (case sa_C => k_is)
    (case mk_C => k_is)
    (case kc_C => k_is)
    (case n_C_lines => k_is)
    (case n_C_number => k_is)
    (case n_C_symbols => k_is)
    (case n_C_mosts => k_is)
    (case n_C_starts => k_is)
    (case n_C_statements => k_is)
    (case n_C_first => k_is)
    (case a_CS => k_is)
    (case pg_CS => k_is)
    (case hd_CS => k_is)
    (case po_CS => k_is)
    (case sa_CS => k_is)
    (case mk_CS => k_is)
    (case kc_CS => k_is)
    (case n_CS_line => k_is)
    (case n_CS_word => k_is)
    (case n_CS_given => k_is)
    (case n_CS_inside => k_is)
    (case n_CS_otherwise => k_is)
    (case n_CS_follow => k_is)
    (case a_CP => k_is)
    (case pg_CP => k_is)
    (case hd_CP => k_is)
    (case po_CP => k_is)
    (case sa_CP => k_is)
    (case mk_CP => k_is)
    (case kc_CP => k_is)
    (case n_CP_text => k_is)
    (case n_CP_symbols => k_is)
    (case n_CP_cells => k_is)
    (case n_CP_parts => k_is)
    (case n_CP_statements => k_is)
    (case n_CP_first => k_is)
    (case n_CP_letters => k_is)
    (case a_link => k_is)
    (case l_link => k_is)
    (case c_link => k_is)
    (case k_link => k_is)
    (case a_parse => k_is)
    (case l_parse => k_is)
    (case c_parse => k_is)
    (case k_parse => k_is)
    (case a_iol => k_is)
    (case l_iol => k_is)
    (case c_iol => k_is)
    (case k_iol => k_is)
    (case a_iio => k_is)
    (case l_iio => k_is)
    (case c_iio => k_is)
    (case k_iio => k_is)
    (case a_let => k_is)
    (case l_let => k_is)
    (case c_let => k_is)
    (case k_let => k_is)
    (case a_pot => k_is)
    (case l_pot => k_is)
    (case c_pot => k_is)
    (case k_pot => k_is)
    (case a_take => k_is)
    (case l_take => k_is)
    (case c_take => k_is)
    (case k_take => k_is)
    (case a_of => k_is)
    (case l_of => k_is)
    (case c_of => k_is)
    (case k_of => k_is)
    (case a_lore => k_is)
    (case l_lore => k_is)
    (case c_lore => k_is)
    (case k_lore => k_is)
    (case a_ask => k_is)
    (case l_ask => k_is)
    (case c_ask => k_is)
    (case k_ask => k_is)
    (case a_plain => k_is)
    (case l_plain => k_is)
    (case c_plain => k_is)
    (case k_plain => k_is)
    (case a_body => k_is)
    (case l_body => k_is)
    (case c_body => k_is)
    (case k_body => k_is)
    (case a_grown => k_is)
    (case l_grown => k_is)
    (case c_grown => k_is)
    (case k_grown => k_is)
    (case a_lets => k_is)
    (case l_lets => k_is)
    (case c_lets => k_is)
    (case k_lets => k_is)
    (case a_other => k_is)
    (case l_other => k_is)
    (case c_other => k_is)
    (case k_other => k_is)
    (case a_right => k_is)
    (case l_right => k_is)
    (case c_right => k_is)
    (case k_right => k_is)
    (case a_law => k_is)
    (case l_law => k_is)
    (case c_law => k_is)
    (case k_law => k_is)
    (case a_sin => k_is)
    (case i_sin => k_is)
    (case l_sin => k_is)
    (case c_sin => k_is)
    (case k_sin => k_is)
    (case a_pin => k_is)
    (case i_pin => k_is)
    (case l_pin => k_is)
    (case c_pin => k_is)
    (case k_pin => k_is)
    (case a_words_at => k_is)
    (case i_words_at => k_is)
    (case l_words_at => k_is)
    (case c_words_at => k_is)
    (case k_words_at => k_is)
    (case a_read_program => k_is)
    (case i_read_program => k_is)
    (case l_read_program => k_is)
    (case c_read_program => k_is)
    (case k_read_program => k_is)
    (case a_read_symbols => k_is)
    (case i_read_symbols => k_is)
    (case l_read_symbols => k_is)
    (case c_read_symbols => k_is)
    (case k_read_symbols => k_is)
    (case a_read_cell => k_is)
    (case i_read_cell => k_is)
    (case l_read_cell => k_is)
    (case c_read_cell => k_is)
    (case k_read_cell => k_is)
    (case a_read_part => k_is)
    (case i_read_part => k_is)
    (case l_read_part => k_is)
    (case c_read_part => k_is)
    (case k_read_part => k_is)
    (case a_is_new_name => k_is)
    (case i_is_new_name => k_is)
    (case l_is_new_name => k_is)
    (case c_is_new_name => k_is)
    (case k_is_new_name => k_is)
    (case a_read_whole_body => k_is)
    (case i_read_whole_body => k_is)
    (case l_read_whole_body => k_is)
    (case c_read_whole_body => k_is)
    (case k_read_whole_body => k_is)
    (case a_read_body => k_is)
    (case i_read_body => k_is)
    (case l_read_body => k_is)
    (case c_read_body => k_is)
    (case k_read_body => k_is)
    (case a_read_statement => k_is)
    (case i_read_statement => k_is)
    (case l_read_statement => k_is)
    (case c_read_statement => k_is)
    (case k_read_statement => k_is)
    (case a_given_by => k_is)
    (case i_given_by => k_is)
    (case l_given_by => k_is)
    (case c_given_by => k_is)
    (case k_given_by => k_is)
    (case a_setting_by => k_is)
    (case i_setting_by => k_is)
    (case l_setting_by => k_is)
    (case c_setting_by => k_is)
    (case k_setting_by => k_is)
    (case a_sum_by => k_is)
    (case i_sum_by => k_is)
    (case l_sum_by => k_is)
    (case c_sum_by => k_is)
    (case k_sum_by => k_is)
    (case a_condition_by => k_is)
    (case i_condition_by => k_is)
    (case l_condition_by => k_is)
    (case c_condition_by => k_is)
    (case k_condition_by => k_is)
    (case a_gin => k_is)
    (case i_gin => k_is)
    (case l_gin => k_is)
    (case c_gin => k_is)
    (case k_gin => k_is)
    (case a_geq => k_is)
    (case i_geq => k_is)
    (case l_geq => k_is)
    (case c_geq => k_is)
    (case k_geq => k_is)
    (case z_len => k_is)
    (case z_int => k_is)
    (case z_abs => k_is)
    (case z_str => k_is)
    (case z_list => k_is)
    (case z_tuple => k_is)
    (case z_range => k_is)
    (case z_all => k_is)
    (case z_sorted => k_is)
    (case z_set => k_is)
    (case z_zip => k_is)
    (case z_isinstance => k_is)
    (case z_enumerate => k_is)
    (case z_repr => k_is)
    (case z_max => k_is)
    (case z_min => k_is)
    (case z_any => k_is)
    (case v_ALPHABET => k_is)
    (case v_MOST_CELLS => k_is)
    (case v_MOST_PARTS => k_is)
    (case v_MOST_STATEMENTS => k_is)
    (case v_MOST_BODIES => k_is)
    (case v_LONGEST_NAME => k_is)
    (case v_VALUES => k_is)
    (case l_VALUES => k_is)
    (case v_BARE_WORDS => k_is)
    (case l_BARE_WORDS => k_is)
    (case v_WORDS => k_is)
    (case l_WORDS => k_is)
    (case is1 => k_is)
    (case is2 => k_is)
    (case is3 => k_is)
    (case is4 => k_is)
    (case ne1 => k_is)
    (case ap1 => k_is)
    (case ap2 => k_is)
    (case ap3 => k_is)
    (case ap4 => k_is)
    (case ap5 => k_is)
    (case ap6 => k_is)
    (case ap7 => k_is)
    (case ap8 => k_is)
    (case d1 => decide)
    (case d2 => decide)
    (case d3 => decide)
