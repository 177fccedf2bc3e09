import PyProof.Rows.All
import Wide.All
import OpenK.AllK
import Wide.FinOn
import HandS.ForMost
import HandS.Call
import HandS.Strs
import HandS.SetFor
import HandS.SetKeys
import HandS.Walk
import HandS.NoneIn
import HandS.Conv
import HandS.TupAny
import HandS.FStr
import HandS.Deep
import KE.KDictItemsList
import KE.KDictList
import KE.KItemsList
import KE.KDictSum
import HandS.ListItems
import PyProof.ListStr
import HandS.IsInst
import HandS.TupMul
import PyProof.ReprRoads
import PyProof.ReprLen
import PyProof.StrLawsRepr
import PyProof.FitsInt
import HandS.TupSets
import HandS.TupLe
import HandS.Zip
import HandS.Style
import HandS.Codes
import PyProof.Rows.IntBool
import PyProof.EqKinds
import PyProof.Rows.StrCase
import PySem.Challenge.RW_fewgoings_k42_writers_of_any_value
set_option Elab.async false
set_option linter.all false
set_option maxRecDepth 100000
namespace Fh
open PySem L2
def top (i : Nat) : Stmt := PySem.Challenge.pw_fewgoings_k42_writers_of_any_value.main.body.getD i (.Pass ⟨0, 0, 0, 0⟩)
/-- a def of the text that stands ready to be called -/
structure Callee (P : Program) (w : World) (K : PySem.W.Frag) (mg : Str → Option Value) (base : Heap) (k : Nat) (x : Str) (ps : List Str) (sp : Sp) where
  f : Addr
  fd : FuncData
  ok : FnOk P w K mg base CX0 k f fd ps sp
  mg : mg x = some (.ref f)
  kp : PySem.W.keepIn K (.ref f) = true
  b : Binds K fd ps []
/-- the built-in names that are nobody's -/
structure Bare (mg : Str → Option Value) : Prop where
  len : mg "len" = none
  int : mg "int" = none
  abs : mg "abs" = none
  str : mg "str" = none
  list : mg "list" = none
  tuple : mg "tuple" = none
  range : mg "range" = none
theorem same_new {H : Hp} {p : Addr} (h : H p = none) (o : HO) : Same H (upd H p o) := fun b u q => by rw [upd_ne (ne_of_none q h)]; exact q
/-- all but what stands at p is as it was -/
def But (p : Addr) (H H' : Hp) : Prop := ∀ b o, H b = some o → b ≠ p → H' b = some o
theorem But.refl (p : Addr) (H : Hp) : But p H H := fun _ _ h _ => h
theorem But.trans {p : Addr} {H H1 H2 : Hp} (a : But p H H1) (b : But p H1 H2) : But p H H2 := fun c o h n => b c o (a c o h n) n
theorem But.of_same {p : Addr} {H H' : Hp} (s : Same H H') : But p H H' := fun b o h _ => s b o h
theorem But.upd {p : Addr} {H : Hp} {o : HO} : But p H (L2.upd H p o) := fun b u q n => by rw [upd_ne n]; exact q
theorem small {n : Nat} (h : n ≤ 1000) : n ≤ sizeLine := Nat.le_of_lt (small1000 h)
end Fh
set_option Elab.async false
set_option linter.all false
set_option maxRecDepth 100000
set_option maxHeartbeats 2000000
namespace Fh
open PySem PySem.Spec PyProof.Rows L2
/-! ### promises that hold where no repr is under way -/
structure FnOkG (P : Program) (w : World) (K : PySem.W.Frag) (mg : Str → Option Value)
    (base : Heap) (k : Nat) (f : Addr) (fd : FuncData) (ps : List Str) (sp : Sp) : Prop where
  size : ∀ vs H Q E, sp vs H Q E → vs.length = ps.length
  runs : ∀ (A : Around) (outer : List Env) (s : Shared) (H : Hp) (args : Args) (us : List Value) (vs : List V)
    (Q : VK) (E : XK), A.guards = some [] → Room k A → Env0 P w K mg base A outer s H →
    BindsTo s fd args (ps.zip us) → Vals vs us → sp vs H Q E →
    codeAny (model P w) A (.call (.ref f) args) (CR CX0 outer P w H s Q E) s
theorem Fun.okG {P : Program} {w : World} {K : PySem.W.Frag} {mg : Str → Option Value} {base : Heap}
    {x qual : Str} {st : Stmt} {f : Addr} {fd : FuncData} {N ps : List Str} {k : Nat} {sp : Sp}
    (F : Fun K x qual st f fd) (S : FnScope N ps (defScope st)) (size : ∀ vs H Q E, sp vs H Q E → vs.length = ps.length)
    (body : ∀ (cdv : Value) (A : Around) (outer : List Env) (s : Shared) (H : Hp) (vs : List V) (Q : VK) (E : XK),
      A.guards = some [] → Room k (A.deeper (envOfC qual (defScope st) s.heap.objs.size f cdv)) → sp vs H Q E →
      ∃ t, PSs (cxOf CX0 P w K mg base N qual (defScope st) f cdv A outer s H E).nox (defBody st) t ∧
        t { nx := fun _ H' => Q .non H', rt := Q } (start N vs) H) :
    FnOkG P w K mg base (k + 1) f fd ps sp := by
  obtain ⟨oc, od, kV, doc, pm, an, cdv, ct, osl, rfl, inK, hcd⟩ := F.ex
  refine ⟨size, fun A outer s H args us vs Q E hgu hr e0 hb rv hsp => ?_⟩
  have lenV := size _ _ _ _ hsp
  have KX : K.In s.heap := e0.mod.kin.keeps fun b o e =>
    (e0.bs b o e).1
  have lims : s.heap.NoLimit := e0.mod.nolimit.keeps fun b o e =>
    (e0.bs b o e).1
  refine codeAny_call_function hr.depth (KX _ _ inK) rfl S.co S.gen rfl
    (PySem.W.codeRec_of KX hcd) (hb _ _ _ _ ?_)
  refine wpAny_newFunctionEnv_cells S.kind (fun y hy => ?_) fun env he s1 call => ?_
  · rcases S.par y.1 (List.of_mem_zip (show (y.1, y.2) ∈ ps.zip us from hy)).1 with q | q
    · exact .inl q
    · exact .inr ⟨q, PySem.W.cellsFrom_some _ _ _ (.inl q)⟩
  · subst he
    refine ⟨lims.keeps call.toInCall.keep, codeAny_func ?_⟩
    obtain ⟨t, ht, hq⟩ := body cdv A outer s H vs Q E hgu (hr.deeper _) hsp
    refine wpAny_mono (ht.nox.run [] s1 (start N vs) H _ (inv_start S hr.hd e0 lenV rv call) hq) (fun fl s' ends => ?_)
      fun e s' ends => ends
    match fl, ends with
    | .ret u, ⟨v, σ', H', J, rel, q⟩ => exact ⟨v, H', J.os, J.bare, J.base, J.hok, rel, q⟩
    | .next, ⟨σ', H', J, q⟩ => exact ⟨.non, H', J.os, J.bare, J.base, J.hok, rfl, q⟩
    | .brk, ⟨_, _, _, q⟩ => exact q.elim
    | .cont, ⟨_, _, _, q⟩ => exact q.elim
section
variable {X : Cx}
/-- f(e, ..) of such a def -/
theorem pe_callG {f : Addr} {fd : FuncData} {ps : List Str} {sp : Sp} {k : Nat} {x : Str} {p pos : Pos} {e : Expr} {es : List Expr} {t : TA}
    (F : FnOkG X.prog X.w X.K X.mg X.base k f fd ps sp) (hgu : X.A.guards = some []) (hr : Room k X.A) (hg : Gl X x)
    (hm : X.mg x = some (.ref f)) (hk : PySem.W.keepIn X.K (.ref f) = true) (hb : Binds X.K fd ps [])
    (ha : PA X (e :: es) t) (hdb : (x == ("__debug__" : Str)) = false := by decide)
    (he : starEach (e :: es) X.env = (false, eval e X.env) :: starEach es X.env := by rfl)
    (hpl : (backTo pos (starEach es X.env)).any (·.1) = false := by rfl) :
    PE X (.Call (.Name x p) (e :: es) [] pos) (tCall sp [] (fun _ _ _ => False) t) := by
  refine ⟨fun pins s σ H Q I h => wpAny_Call_Name_kw (ld_glob I hg hm ?_ hdb)⟩
  refine PySem.W.callWith_K (h₀ := X.base) I.ok.mod.kin hk
    (thn (ha.run pos pins s σ H _ I h) fun us s1 ⟨vs, H1, I1, rv, q⟩ => ⟨I1.kIn, ?_⟩) he hpl
  have q' : sp (vs ++ []) H1 Q (fun _ _ _ => False) := q
  rw [List.append_nil] at q'
  have lenU : us.length = ps.length := by
    rw [← rv.length]
    exact F.size _ _ _ _ q'
  have bind := hb s1 us I1.kIn (by simpa using lenU)
  rw [List.append_nil] at bind
  refine wpAny_call (codeAny_mono (F.runs X.A X.stack s1 H1 ⟨us, []⟩ us vs Q _ hgu hr I1.env0 bind rv q') fun r s' ends => ?_)
  match r, ends with
  | .error e, ends => exact ends.elim
  | .ok (.ret u), ends => exact I1.after ends
  | .ok .next, ends => exact ends.elim
  | .ok .brk, ends => exact ends.elim
  | .ok .cont, ends => exact ends.elim
end
/-! ### a call with keywords alone -/
section
variable {X : Cx} {CX : CXT} {k : Nat} {f : Addr} {fd : FuncData} {ps ks : List Str} {sp : Sp} {E : XK} {x : Str} {p pos : PySem.Pos} {kws : List Keyword} {tk : TA} {g : List Value → List Value → List Value} {gV : List V → List V → List V}
theorem pe_callK0 (F : FnOk X.prog X.w X.K X.mg X.base CX k f fd ps sp) (hr : Room k X.A) (hg : Gl X x) (hm : X.mg x = some (.ref f)) (hk : PySem.W.keepIn X.K (.ref f) = true) (hb : KBinds X.K fd ps ks g gV) (hx : Passes CX X E)
    (hkw : PK X kws tk) (hall : (backToKw pos (keywordEach kws X.env)).all (·.1.isSome) = true := by rfl) (hks : (backToKw pos (keywordEach kws X.env)).filterMap (·.1) = ks := by rfl)
    (hdb : (x == ("__debug__" : Str)) = false := by decide)
    (hpl : ((backTo pos (starEach [] X.env)).any (·.1) || (backToKw pos (keywordEach kws X.env)).any (·.1.isNone)) = false := by rfl) :
    PE X (.Call (.Name x p) [] kws pos) (tCallK sp gV E tNil tk) := by
  refine ⟨fun pins s σ H Q I h => ?_⟩
  refine wpAny_Call_Name_kw (ld_glob I hg hm ?_ hdb)
  refine PySem.W.callWith_KW0 (h₀ := X.base) I.ok.mod.kin hk hall ?_ hpl
  refine thn (hkw.run pos pins s σ H _ I h) fun ws s2 ⟨zs, H2, I2, rz, q2⟩ => ⟨I2.kIn, ?_⟩
  rw [hks]
  exact run_fnk (us := []) (vs := []) F hr hb hx I2 .nil rz q2
end
end Fh
set_option Elab.async false
set_option linter.all false
set_option maxRecDepth 100000
set_option maxHeartbeats 2000000
namespace Fh
open PySem L2
abbrev s__law_take : Stmt := top 38
abbrev sc__law_takeN : List Str := ["_law_pot", "_law_upto", "_law_digit", "_law_prime", "_law_mixed"]
theorem sc__law_take : FnScope sc__law_takeN ["_law_pot", "_law_upto"] (defScope s__law_take) := ⟨rfl, rfl, rfl, by decide +kernel, rfl, by decide +kernel, by decide +kernel⟩
/-- a pot: what is left of the cell, a number, how many were taken -/
structure Pot (H : Hp) (p : Addr) (n : Nat) : Prop where
  at_ : ∃ o b c : Int, H p = some (.lst [.int o, .int b, .int c]) ∧ 0 ≤ o ∧ 0 ≤ b ∧ b < 2305843009213693952 ∧ 0 ≤ c ∧ c ≤ (n : Int)
theorem Pot.more {H : Hp} {p : Addr} {n m : Nat} (h : Pot H p n) (l : n ≤ m) : Pot H p m := by
  obtain ⟨o, b, c, e, h1, h2, h3, h4, h5⟩ := h
  exact ⟨o, b, c, e, h1, h2, h3, h4, by omega⟩
theorem Pot.same {H H' : Hp} {p : Addr} {n : Nat} (h : Pot H p n) (s : Same H H') : Pot H' p n := by
  obtain ⟨o, b, c, e, r⟩ := h
  exact ⟨o, b, c, s _ _ e, r⟩
def spTake : Sp := fun vs H Q _ => ∃ (p : Addr) (u : Int) (n : Nat), vs = [.ref p, .int u] ∧ Pot H p n ∧ n < 100000 ∧ 0 < u ∧ u < 1000 ∧
  ∀ (d : Int) (H' : Hp), 0 ≤ d → d < u → Pot H' p (n + 1) → But p H H' → Q (.int d) H'
theorem at3_0 (x y z : V) : atI [x, y, z] 0 = some x := rfl
theorem at3_1 (x y z : V) : atI [x, y, z] 1 = some y := rfl
theorem at3_2 (x y z : V) : atI [x, y, z] 2 = some z := rfl
theorem five {i : Int} (h0 : 0 ≤ i) (h1 : i < 5) : ∃ v : Int, atI ([.int 2147483647, .int 2147483629, .int 2147483587, .int 2147483579, .int 2147483563] : List V) i = some (.int v) ∧ 0 < v ∧ v ≤ 2147483647 := by
  have h : i = 0 ∨ i = 1 ∨ i = 2 ∨ i = 3 ∨ i = 4 := by omega
  rcases h with rfl | rfl | rfl | rfl | rfl
  · exact ⟨2147483647, rfl, by decide, by decide⟩
  · exact ⟨2147483629, rfl, by decide, by decide⟩
  · exact ⟨2147483587, rfl, by decide, by decide⟩
  · exact ⟨2147483579, rfl, by decide, by decide⟩
  · exact ⟨2147483563, rfl, by decide, by decide⟩
abbrev s__law_of : Stmt := top 39
abbrev sc__law_ofN : List Str := ["_law_pot", "_law_some"]
theorem sc__law_of : FnScope sc__law_ofN ["_law_pot", "_law_some"] (defScope s__law_of) := ⟨rfl, rfl, rfl, by decide +kernel, rfl, by decide +kernel, by decide +kernel⟩
abbrev s__law_pot_of : Stmt := top 37
abbrev sc__law_pot_ofN : List Str := ["_law_script", "_law_k", "_law_cell", "_law_own"]
theorem sc__law_pot_of : FnScope sc__law_pot_ofN ["_law_script", "_law_k"] (defScope s__law_pot_of) := ⟨rfl, rfl, rfl, by decide +kernel, rfl, by decide +kernel, by decide +kernel⟩
section
variable {P : Program} {w : World} {K : PySem.W.Frag} {mg : Str → Option Value} {base : Heap}
theorem ok_take {f : Addr} {fd : FuncData} (F : Fun K "_law_take" "_law_take" s__law_take f fd) (T : Bare mg) : FnOk P w K mg base CX0 1 f fd ["_law_pot", "_law_upto"] spTake := by
  refine F.ok sc__law_take (fun vs H Q E h => ?_) (fun cdv A outer s H vs Q E hr h => ?_)
  · obtain ⟨p, u, n, rfl, _⟩ := h
    rfl
  obtain ⟨p, u, n, rfl, ⟨o, b, c, hp, o0, b0, b1, c0, c1⟩, hn, u0, u1, q⟩ := h
  refine ⟨_, (pss_cons (ps_if (pt_cmpR op_gt (pe_ix ix_list (pv 0) pe_int (fun _ _ => rfl)) pe_int (nomark _))
(pss_cons (ps_set (i := 2) sc__law_take.nd rfl (Or.inl rfl) (pe_op op_mod (pe_callTy call_int1 (by rfl) T.int (by decide +kernel) (pa_cons (pe_ix ix_list (pv 0) pe_int (fun _ _ => rfl)) pa_nil)) (pv 1)))
(pss_cons (ps_asg (pe_op op_fdiv (pe_ix ix_list (pv 0) pe_int (fun _ _ => rfl)) (pv 1)) (pg_sub (pv 0) pe_int set_list))
(pss_one (ps_ret (pv 2)))))
pss_nil)
(pss_cons (ps_asg (pe_op op_add (pe_ix ix_list (pv 0) pe_int (fun _ _ => rfl)) pe_int) (pg_sub (pv 0) pe_int set_list))
(pss_cons (ps_set (i := 3) sc__law_take.nd rfl (Or.inl rfl) (pe_ix ix_list (pe_lst (pa_cons pe_int (pa_cons pe_int (pa_cons pe_int (pa_cons pe_int (pa_cons pe_int pa_nil)))))) (pe_op op_mod (pe_callTy call_int1 (by rfl) T.int (by decide +kernel) (pa_cons (pe_ix ix_list (pv 0) pe_int (fun _ _ => rfl)) pa_nil)) pe_int) (fun _ _ => rfl)))
(pss_cons (ps_set (i := 4) sc__law_take.nd rfl (Or.inl rfl) (pe_op op_mod (pe_callTy call_int1 (by rfl) T.int (by decide +kernel) (pa_cons (pe_op op_pow (pe_op op_add (pe_op op_add (pe_ix ix_list (pv 0) pe_int (fun _ _ => rfl)) (pe_op op_mul (pe_op op_mul pe_int (pe_ix ix_list (pv 0) pe_int (fun _ _ => rfl))) (pe_ix ix_list (pv 0) pe_int (fun _ _ => rfl)))) pe_int) pe_int) pa_nil)) (pv 3)))
(pss_one (ps_ret (pe_op op_mod (pe_callTy call_int1 (by rfl) T.int (by decide +kernel) (pa_cons (pe_op op_fdiv (pe_op op_mul (pv 4) (pe_op op_add (pe_op op_mod (pe_callTy call_int1 (by rfl) T.int (by decide +kernel) (pa_cons (pv 4) pa_nil)) pe_int) (pe_op op_mul pe_int (pe_ix ix_list (pv 0) pe_int (fun _ _ => rfl))))) pe_int) pa_nil)) (pv 1)))))))), ?_⟩
  have hS : SqL K H p [.int o, .int b, .int c] := .inl (.inl hp)
  -- if pot[0] > 0
  refine ⟨.ref p, rfl, p, _, 0, _, rfl, rfl, hS, rfl, o, 0, rfl, rfl, _, rfl, ?_⟩
  refine ite2 (fun h => ?_) (fun h => ?_)
  · have ho : (0 : Int) < o := of_decide_eq_true h
    -- digit = int(pot[0]) % upto
    refine ⟨.ref p, rfl, p, _, 0, _, rfl, rfl, hS, rfl, .inl ⟨o, rfl, ?_⟩⟩
    refine ⟨.int u, rfl, o, u, rfl, rfl, u0, ?_⟩
    -- pot[0] = pot[0] // upto
    refine ⟨.ref p, rfl, p, _, 0, _, rfl, rfl, hS, rfl, .int u, rfl, o, u, rfl, rfl, ⟨u0, by omega⟩, ?_⟩
    refine ⟨.ref p, rfl, p, _, 0, 0, rfl, rfl, hp, rfl, ?_⟩
    refine ⟨_, rfl, ?_⟩
    refine q (o % u) _ (Int.emod_nonneg _ (by omega)) (Int.emod_lt_of_pos _ u0) ⟨o / u, b, c, upd_same, Int.ediv_nonneg (by omega) (by omega), b0, b1, c0, by omega⟩ But.upd
  · -- pot[2] = pot[2] + 1
    refine ⟨.ref p, rfl, p, _, 2, _, rfl, rfl, hS, rfl, c, 1, rfl, rfl, .ref p, rfl, p, _, 2, 2, rfl, rfl, hp, rfl, ?_⟩
    have hp2 : (upd H p (.lst [.int o, .int b, .int (c + 1)])) p = some (.lst [.int o, .int b, .int (c + 1)]) := upd_same
    have hS2 : SqL K (upd H p (.lst [.int o, .int b, .int (c + 1)])) p [.int o, .int b, .int (c + 1)] := .inl (.inl hp2)
    -- prime = [..][int(pot[2]) % 5]
    refine ⟨small (by show 5 ≤ 1000; decide), fun l hl => ?_⟩
    have npl : p ≠ l := ne_of_none hp2 hl
    have e1 : ∀ o', upd (upd H p (.lst [.int o, .int b, .int (c + 1)])) l o' p = some (.lst [.int o, .int b, .int (c + 1)]) := fun o' => by rw [upd_ne npl]; exact hp2
    obtain ⟨v, hv, v0, v1⟩ := five (i := (c + 1) % 5) (Int.emod_nonneg _ (by decide)) (Int.emod_lt_of_pos _ (by decide))
    refine ⟨.ref p, rfl, p, _, 2, _, rfl, rfl, .inl (.inl (e1 _)), rfl, .inl ⟨c + 1, rfl, ?_⟩⟩
    refine ⟨c + 1, 5, rfl, rfl, (by show (0 : Int) < 5; decide), l, _, _, _, rfl, rfl, .inl (.inl upd_same), hv, ?_⟩
    -- mixed
    have sz : (70001 * (c + 1)) * (c + 1) ≤ 70001 * 100001 * 100001 := by
      have a1 : 0 ≤ c + 1 := by omega
      have a2 : c + 1 ≤ 100001 := by omega
      have a3 : 70001 * (c + 1) ≤ 70001 * 100001 := by omega
      exact Int.mul_le_mul a3 a2 a1 (by decide)
    have sz0 : 0 ≤ (70001 * (c + 1)) * (c + 1) := Int.mul_nonneg (by omega) (by omega)
    refine ⟨.ref p, rfl, p, _, 1, _, rfl, rfl, .inl (.inl (e1 _)), rfl, ?_⟩
    refine ⟨.ref p, rfl, p, _, 2, _, rfl, rfl, .inl (.inl (e1 _)), rfl, 70001, c + 1, rfl, rfl, .inl ⟨by decide, by decide⟩, ?_⟩
    refine ⟨.ref p, rfl, p, _, 2, _, rfl, rfl, .inl (.inl (e1 _)), rfl, 70001 * (c + 1), c + 1, rfl, rfl, .inl ⟨by omega, by omega⟩, ?_⟩
    refine ⟨b, 70001 * (c + 1) * (c + 1), rfl, rfl, b + 70001 * (c + 1) * (c + 1), 53, rfl, rfl, ?_⟩
    refine ⟨b + 70001 * (c + 1) * (c + 1) + 53, 3, rfl, rfl, ⟨by decide, by decide, by omega⟩, .inl ⟨_, rfl, ?_⟩⟩
    refine ⟨.int v, rfl, _, v, rfl, rfl, v0, ?_⟩
    dsimp only
    generalize em : (b + 70001 * (c + 1) * (c + 1) + 53) ^ (3 : Int).toNat % v = m
    have m0 : 0 ≤ m := by rw [← em]; exact Int.emod_nonneg _ (by omega)
    have m1 : m < 2147483647 := by
      have := Int.emod_lt_of_pos ((b + 70001 * (c + 1) * (c + 1) + 53) ^ (3 : Int).toNat) v0
      omega
    -- return
    refine ⟨.int m, rfl, .int m, rfl, .inl ⟨m, rfl, m, 10007, rfl, rfl, (by show (0 : Int) < 10007; decide), ?_⟩⟩
    refine ⟨.ref p, rfl, p, _, 2, _, rfl, rfl, .inl (.inl (e1 _)), rfl, 83, c + 1, rfl, rfl, .inl ⟨by decide, by decide⟩, ?_⟩
    refine ⟨m % 10007, 83 * (c + 1), rfl, rfl, m, m % 10007 + 83 * (c + 1), rfl, rfl, .inl ⟨by omega, by omega⟩, ?_⟩
    refine ⟨_, 101, rfl, rfl, ⟨by decide, by decide⟩, .inl ⟨_, rfl, ?_⟩⟩
    refine ⟨.int u, rfl, _, u, rfl, rfl, u0, ?_⟩
    refine q _ _ (Int.emod_nonneg _ (by omega)) (Int.emod_lt_of_pos _ u0) ⟨o, b, c + 1, e1 _, o0, b0, b1, by omega, by omega⟩ ?_
    exact But.trans But.upd (But.of_same (same_new hl _))
/-! ### _law_of -/
theorem But.seq {p : Addr} {H H' : Hp} {a : Addr} {xs : List V} (e : But p H H') (n : a ≠ p) (h : SqL K H a xs) : SqL K H' a xs := by
  rcases h with (h | ⟨o, h⟩) | h
  · exact .inl (.inl (e _ _ h n))
  · exact .inl (.inr ⟨o, e _ _ h n⟩)
  · exact .inr h
def spOf (K : PySem.W.Frag) : Sp := fun vs H Q _ => ∃ (p l : Addr) (xs : List V) (n : Nat), vs = [.ref p, .ref l] ∧ Pot H p n ∧ n < 100000 ∧ SqL K H l xs ∧ l ≠ p ∧ 0 < xs.length ∧ xs.length < 1000 ∧
  ∀ (i : Nat) (v : V) (H' : Hp), xs[i]? = some v → Pot H' p (n + 1) → But p H H' → Q v H'
theorem ok_of {f : Addr} {fd : FuncData} (F : Fun K "_law_of" "_law_of" s__law_of f fd) (T : Bare mg) (C : Callee P w K mg base 1 "_law_take" ["_law_pot", "_law_upto"] spTake) : FnOk P w K mg base CX0 2 f fd ["_law_pot", "_law_some"] (spOf K) := by
  refine F.ok sc__law_of (fun vs H Q E h => ?_) (fun cdv A outer s H vs Q E hr h => ?_)
  · obtain ⟨p, l, xs, n, rfl, _⟩ := h
    rfl
  obtain ⟨p, l, xs, n, rfl, hp, hn, hS, npl, l0, l1, q⟩ := h
  refine ⟨_, (pss_one (ps_ret (pe_ix ix_list (pv 1) (pe_call C.ok hr rfl C.mg C.kp C.b .nil pass0 (pa_cons (pv 0) (pa_cons (pe_callB call_len_seq (by rfl) T.len PySem.boot_len (pa_cons (pv 1) pa_nil)) pa_nil))) (fun _ _ => rfl)))), ?_⟩
  refine ⟨.ref l, rfl, .ref p, rfl, .ref l, rfl, l, xs, rfl, .inl hS, p, (xs.length : Int), n, rfl, hp, hn, by omega, by omega, fun d H' d0 d1 hp' b => ?_⟩
  have hd : d.toNat < xs.length := by omega
  refine ⟨l, xs, d, xs[d.toNat], rfl, rfl, b.seq npl hS, ?_, ?_⟩
  · exact at_of (j := d.toNat) (by omega) (List.getElem?_eq_getElem hd)
  · exact q d.toNat _ H' (List.getElem?_eq_getElem hd) hp' b
/-! ### _law_pot_of -/
theorem op_powB {X : Cx} : OpR X (binaryOp .Pow) (rI (fun i j => 0 ≤ j ∧ (Builtin.Int.intBits i : Int) * j ≤ 2 ^ 27) fun i j => .int (i ^ j.toNat)) := opI fun _ _ _ _ _ _ _ hc q => PyProof.Rows.pow_int hc.1 hc.2 q
def spPotOf (K : PySem.W.Frag) : Sp := fun vs H Q _ => ∃ (a : Addr) (ns : List Int) (j : Nat), vs = [.ref a, .int (j : Int)] ∧ SqL K H a (ns.map V.int) ∧ j ≤ 100 ∧
  ∀ (p : Addr) (H' : Hp), H p = none → Same H H' → Pot H' p 0 → Q (.ref p) H'
theorem ok_pot_of {f : Addr} {fd : FuncData} (F : Fun K "_law_pot_of" "_law_pot_of" s__law_pot_of f fd) (T : Bare mg) : FnOk P w K mg base CX0 1 f fd ["_law_script", "_law_k"] (spPotOf K) := by
  refine F.ok sc__law_pot_of (fun vs H Q E h => ?_) (fun cdv A outer s H vs Q E hr h => ?_)
  · obtain ⟨a, ns, j, rfl, _⟩ := h
    rfl
  obtain ⟨a, ns, j, rfl, hS, hj, q⟩ := h
  refine ⟨_, (pss_cons (ps_set (i := 2) sc__law_pot_of.nd rfl (Or.inl rfl) (pe_ifExp (pt_cmpR op_lt (pv 1) (pe_callB call_len_seq (by rfl) T.len PySem.boot_len (pa_cons (pv 0) pa_nil)) (nomark _)) (pe_ix ix_list (pv 0) (pv 1) (fun _ _ => rfl)) (pe_op op_add (pe_op op_mul pe_int (pv 1)) pe_int)))
(pss_cons (ps_set (i := 3) sc__law_pot_of.nd rfl (Or.inl rfl) (pe_op op_mul (pe_op op_mod (pe_callTy call_int1 (by rfl) T.int (by decide +kernel) (pa_cons (pe_callB call_abs (by rfl) T.abs (by decide +kernel) (pa_cons (pv 2) pa_nil)) pa_nil)) (pe_op op_powB (pe_op op_pow pe_int pe_int) pe_int)) (pe_callTy call_int1 (by rfl) T.int (by decide +kernel) (pa_cons (pe_cmpR op_ge (pe_callB call_abs (by rfl) T.abs (by decide +kernel) (pa_cons (pv 2) pa_nil)) (pe_op op_pow pe_int pe_int) (nomark _)) pa_nil))))
(pss_one (ps_ret (pe_lst (pa_cons (pv 3) (pa_cons (pe_op op_mod (pe_op op_add (pe_op op_add (pe_op op_mul (pe_op op_mod (pe_callTy call_int1 (by rfl) T.int (by decide +kernel) (pa_cons (pv 2) pa_nil)) pe_int) pe_int) (pe_op op_mul (pe_op op_mul pe_int (pv 1)) (pv 1))) pe_int) pe_int) (pa_cons pe_int pa_nil)))))))), ?_⟩
  have hl : (ns.map V.int).length = ns.length := List.length_map _
  refine ⟨_, rfl, _, rfl, a, _, rfl, .inl hS, _, _, rfl, rfl, _, rfl, ?_⟩
  refine ite2 (fun h => ?_) (fun h => ?_)
  rotate_left
  refine ⟨_, rfl, 31, _, rfl, rfl, .inl ⟨by decide, by decide⟩, _, 11, rfl, rfl, ?_⟩
  dsimp only
  generalize (31 * (j : Int) + 11) = c
  rotate_left
  have hlt : j < ns.length := by
    have := of_decide_eq_true h
    rw [hl] at this
    omega
  refine ⟨_, rfl, _, rfl, a, _, _, _, rfl, rfl, hS, atI_nat (by rw [List.getElem?_map, List.getElem?_eq_getElem hlt] <;> rfl), ?_⟩
  generalize ns[j] = c
  all_goals
    refine ⟨.int c, rfl, c, rfl, .inl ⟨_, rfl, ?_⟩⟩
    refine ⟨10, 60, rfl, rfl, ⟨by decide, by decide, by decide⟩, 10 ^ 60, 5, rfl, rfl, ⟨by decide, by decide +kernel⟩, _, _, rfl, rfl, (by show (0 : Int) < (10 ^ 60) ^ 5; decide +kernel), ?_⟩
    refine ⟨.int c, rfl, c, rfl, 10, 18, rfl, rfl, ⟨by decide, by decide, by decide⟩, _, _, rfl, rfl, .inr ⟨_, rfl, ?_⟩⟩
    generalize ha : (if c < 0 then -c else c) = a0
    have ha0 : 0 ≤ a0 := by rw [← ha]; split <;> omega
    refine ⟨_, _, rfl, rfl, .inr (by split <;> decide), ?_⟩
    have own0 : 0 ≤ a0 % (10 ^ (60 : Int).toNat) ^ (5 : Int).toNat * (if decide ((10 : Int) ^ (18 : Int).toNat ≤ a0) = true then 1 else 0) := by
      refine Int.mul_nonneg (Int.emod_nonneg _ (by decide +kernel)) ?_
      split <;> decide
    -- return
    refine ⟨_, rfl, .int c, rfl, .inl ⟨c, rfl, c, _, rfl, rfl, (by show (0 : Int) < 2305843009213693951; decide), _, _, rfl, rfl, .inr ⟨by decide, by decide⟩, ?_⟩⟩
    refine ⟨.int (j : Int), rfl, 6337, j, rfl, rfl, .inl ⟨by decide, by decide⟩, .int (j : Int), rfl, _, j, rfl, rfl, .inr ⟨by omega, by omega⟩, ?_⟩
    refine ⟨_, _, rfl, rfl, _, 29, rfl, rfl, _, _, rfl, rfl, (by show (0 : Int) < 2305843009213693921; decide), small (by show 3 ≤ 1000; decide), fun p hp => ?_⟩
    refine q p _ hp (same_new hp _) ⟨_, _, 0, upd_same, own0, Int.emod_nonneg _ (by decide), ?_, by decide, by decide⟩
    exact Int.lt_trans (Int.emod_lt_of_pos _ (by decide)) (by decide)
end
end Fh
set_option Elab.async false
set_option linter.all false
set_option maxRecDepth 100000
set_option maxHeartbeats 2000000
namespace Fh
open PySem L2 TL
/-! ### rows of a text: so deep, these words -/
def ind (d : Nat) : Str := ⟨(List.replicate (2 * d) 32).toArray⟩
abbrev blank : Str := " "
abbrev Row := Nat × List Str
def lineOf (r : Row) : Str := ind r.1 ++ Txt.join blank r.2
/-- words as they stand in a line -/
structure GoodWs (ws : List Str) : Prop where
  ne : ws ≠ []
  w : ∀ x ∈ ws, tl x ≠ [] ∧ 32 ∉ tl x
  ok : ∀ x ∈ ws, PyData.strOk x = true
theorem tl_ind (d : Nat) : tl (ind d) = List.replicate (2 * d) 32 := rfl
theorem tl_blank : tl blank = [32] := by decide +kernel
theorem tl_line (r : Row) : tl (lineOf r) = List.replicate (2 * r.1) 32 ++ joinL [32] (r.2.map tl) := by
  unfold lineOf
  rw [tl_append, join_eq, tl_join, tl_blank, tl_ind]
theorem joinL_head {ws : List Str} (g : GoodWs ws) : ∃ c r, joinL [32] (ws.map tl) = c :: r ∧ c ≠ 32 := by
  match ws, g with
  | [], g => exact absurd rfl g.ne
  | x :: t, g =>
    obtain ⟨h1, h2⟩ := g.w x List.mem_cons_self
    cases e : tl x with
    | nil => exact absurd e h1
    | cons c r =>
      have hc : c ≠ 32 := fun z => h2 (by rw [e, z]; exact List.mem_cons_self)
      cases t with
      | nil => exact ⟨c, r, by show joinL [32] [tl x] = _; rw [e]; rfl, hc⟩
      | cons y u => exact ⟨c, r ++ ([32] ++ joinL [32] ((y :: u).map tl)), by show tl x ++ ([32] ++ joinL [32] ((y :: u).map tl)) = _; rw [e]; rfl, hc⟩
theorem split_ws {ws : List Str} (g : GoodWs ws) : Txt.split (Txt.join blank ws) blank = ws :=
  split_join tl_blank (by decide +kernel) g.ne fun p hp => (g.w p hp).2
/-- what words_at finds in a line at a depth -/
def wordsOf (z : Str) (d : Nat) : List Str :=
  if Txt.startswith z (ind d) = false then [] else
    let ws := Txt.split (cutS z (some ((ind d).length : Nat)) none) blank
    if ("" : Str) ∈ ws then [] else ws
theorem len_ind (d : Nat) : (ind d).length = 2 * d := by rw [len_tl, tl_ind, List.length_replicate]
theorem starts_iff (x y : Str) : Txt.startswith x y = true ↔ (tl x).take (tl y).length = tl y := by
  unfold Txt.startswith
  rw [Bool.and_eq_true, decide_eq_true_eq, PySem.StrLaws.subAt_eq, ← len_tl y]
  constructor
  · rintro ⟨_, h⟩
    have := eq_of_beq h
    rw [List.drop_zero] at this
    exact this
  · intro h
    refine ⟨?_, ?_⟩
    · have := congrArg List.length h
      rw [List.length_take, ← len_tl y, ← len_tl x] at this
      omega
    · rw [List.drop_zero]
      exact beq_iff_eq.mpr h
theorem tl_cut (z : Str) (k : Nat) : tl (cutS z (some (k : Int)) none) = (tl z).drop k := by
  unfold cutS
  rw [HT.sIx_none, HT.sIx_nat]
  show ((z.cps.toList.drop (min k z.length)).take _) = _
  have hz := len_tl z
  by_cases h : k ≤ z.length
  · rw [Nat.min_eq_left h, List.take_of_length_le (by rw [List.length_drop]; show (tl z).length - k ≤ _; omega)]
  · rw [Nat.min_eq_right (by omega), List.drop_eq_nil_of_le (by show (tl z).length ≤ _; omega), List.drop_eq_nil_of_le (by omega)]
    exact List.take_nil
theorem empty_tl {x : Str} (h : tl x = []) : x = ("" : Str) := ext_tl (by rw [h]; decide +kernel)
theorem words_here {d : Nat} {ws : List Str} (g : GoodWs ws) : wordsOf (lineOf (d, ws)) d = ws := by
  unfold wordsOf
  have hs : Txt.startswith (lineOf (d, ws)) (ind d) = true := by
    rw [starts_iff, tl_line, tl_ind]
    exact List.take_left
  rw [if_neg (by rw [hs]; exact Bool.false_ne_true.symm)]
  have hc : cutS (lineOf (d, ws)) (some ((ind d).length : Nat)) none = Txt.join blank ws := ext_tl (by
    rw [tl_cut, tl_line, len_ind, join_eq, tl_join, tl_blank]
    exact List.drop_left' List.length_replicate)
  dsimp only
  rw [hc, split_ws g]
  rw [if_neg fun hm => (g.w _ hm).1 (by decide +kernel)]
theorem words_deeper {d e : Nat} {ws : List Str} (g : GoodWs ws) (h : d < e) : wordsOf (lineOf (d, ws)) e = [] := by
  unfold wordsOf
  have hs : Txt.startswith (lineOf (d, ws)) (ind e) = false := by
    cases q : Txt.startswith (lineOf (d, ws)) (ind e) with
    | false => rfl
    | true =>
      rw [starts_iff, tl_line, tl_ind, List.length_replicate] at q
      obtain ⟨c, r, ej, hc⟩ := joinL_head g
      have z := congrArg (fun l : List Nat => l[2 * d]?) q
      dsimp only at z
      rw [ej, List.getElem?_take_of_lt (by omega), List.getElem?_append_right (by rw [List.length_replicate]; exact Nat.le_refl _), List.length_replicate, Nat.sub_self, List.getElem?_cons_zero, List.getElem?_replicate, if_pos (by omega)] at z
      exact absurd (Option.some.inj z) hc
  rw [if_pos hs]
theorem words_outer {d e : Nat} {ws : List Str} (g : GoodWs ws) (h : e < d) : wordsOf (lineOf (d, ws)) e = [] := by
  unfold wordsOf
  split
  · rfl
  dsimp only
  rw [if_pos]
  have hx : (Txt.split (cutS (lineOf (d, ws)) (some ((ind e).length : Nat)) none) blank).map tl = spl [32] 0 [] ((List.replicate (2 * d) 32 ++ joinL [32] (ws.map tl)).drop (2 * e)) := by
    rw [split_spl _ _ (by rw [tl_blank]; simp) (kind_ok (by decide +kernel)), tl_cut, tl_line, len_ind, tl_blank]
  have h1 : (List.replicate (2 * d) 32 ++ joinL [32] (ws.map tl)).drop (2 * e) = [] ++ ([32] ++ (List.replicate (2 * d - 2 * e - 1) 32 ++ joinL [32] (ws.map tl))) := by
    rw [List.drop_append_of_le_length (by rw [List.length_replicate]; omega), List.drop_replicate]
    have : 2 * d - 2 * e = (2 * d - 2 * e - 1) + 1 := by omega
    rw [this, List.replicate_succ]
    rfl
  rw [h1, spl_part1 (s := 32) (S := []) (p := []) (by simp)] at hx
  cases hs : Txt.split (cutS (lineOf (d, ws)) (some ((ind e).length : Nat)) none) blank with
  | nil => rw [hs] at hx; cases hx
  | cons y r =>
    rw [hs, List.map_cons] at hx
    have e1 : tl y = [] := (List.cons.inj hx).1
    rw [empty_tl e1]
    exact List.mem_cons_self
/-! ### two blanks, so often -/
theorem op_mulS {X : Cx} : OpR X (binaryOp .Mult) (fun x y H Q => ∃ d : Nat, x = .str "  " ∧ y = .int (d : Int) ∧ d ≤ 5 ∧ Q (.str (ind d)) H) := by
  intro pins s σ H x y v u Q I rx ry h
  obtain ⟨d, rfl, rfl, hd, q⟩ := h
  obtain ⟨t, rfl⟩ := rx
  obtain ⟨t', rfl⟩ := ry
  have hcases : d = 0 ∨ d = 1 ∨ d = 2 ∨ d = 3 ∨ d = 4 ∨ d = 5 := by omega
  rcases hcases with rfl | rfl | rfl | rfl | rfl | rfl
  · refine P.mul_str_none (by decide) (by decide) ⟨.str (ind 0), H, I.tok _, ⟨s.toks, congrArg (fun z => Value.str z s.toks) ?_⟩, q⟩
    decide +kernel
  all_goals
    refine P.mul_str (by decide) (by decide +kernel) (by decide +kernel) ?_
    rw [if_neg (by decide)]
  · rw [if_pos (by decide)]
    exact ⟨.str (ind 1), H, I, ⟨t, congrArg (fun z => Value.str z t) (by decide +kernel)⟩, q⟩
  all_goals
    rw [if_neg (by decide +kernel)]
    refine ⟨by decide +kernel, .str (ind _), H, I.tok _, ⟨s.toks, congrArg (fun z => Value.str z s.toks) ?_⟩, q⟩
    decide +kernel
end Fh
set_option Elab.async false
set_option linter.all false
set_option maxRecDepth 100000
set_option maxHeartbeats 2000000
namespace Fh
open PySem L2 TL
/-! ### the parser between two calls -/
def pf (l : Addr) (n : Int) (sy : Str) (m s t : Addr) (fi : Int) : List (Str × V) :=
  [("lines", .ref l), ("number", .int n), ("symbols", .str sy), ("mosts", .ref m), ("starts", .ref s), ("statements", .ref t), ("first", .int fi)]
section
variable {l m s t : Addr} {n fi : Int} {sy : Str}
theorem pf_lines : (pf l n sy m s t fi).lookup ("lines" : Str) = some (V.ref l) := by kernel_rfl
theorem pf_number : (pf l n sy m s t fi).lookup ("number" : Str) = some (V.int n) := by kernel_rfl
theorem pf_symbols : (pf l n sy m s t fi).lookup ("symbols" : Str) = some (V.str sy) := by kernel_rfl
theorem pf_mosts : (pf l n sy m s t fi).lookup ("mosts" : Str) = some (V.ref m) := by kernel_rfl
theorem pf_starts : (pf l n sy m s t fi).lookup ("starts" : Str) = some (V.ref s) := by kernel_rfl
theorem pf_statements : (pf l n sy m s t fi).lookup ("statements" : Str) = some (V.ref t) := by kernel_rfl
theorem pf_first : (pf l n sy m s t fi).lookup ("first" : Str) = some (V.int fi) := by kernel_rfl
theorem put_number {k : Int} : putF "number" (.int k) (pf l n sy m s t fi) = pf l k sy m s t fi := by kernel_rfl
theorem put_symbols {z : Str} : putF "symbols" (.str z) (pf l n sy m s t fi) = pf l n z m s t fi := by kernel_rfl
theorem put_first {k : Int} : putF "first" (.int k) (pf l n sy m s t fi) = pf l n sy m s t k := by kernel_rfl
theorem pf_words_at : (pf l n sy m s t fi).lookup ("words_at" : Str) = none := by kernel_rfl
end
structure PAt (C : Addr) (H : Hp) (p l m s t : Addr) (n : Int) (sy : Str) (fi : Int) : Prop where
  ob : ∃ dx, H p = some (.ins C dx (pf l n sy m s t fi))
/-- what is known of the class Parser -/
structure PTxt (K : PySem.W.Frag) (C : Addr) : Prop where
  cl : Cls K C
  nLines : NoAttr K C "lines"
  nNumber : NoAttr K C "number"
  nSymbols : NoAttr K C "symbols"
  nMosts : NoAttr K C "mosts"
  nStarts : NoAttr K C "starts"
  nStatements : NoAttr K C "statements"
  nFirst : NoAttr K C "first"
/-- a method that stands ready to be called -/
structure Meter (P : Program) (w : World) (K : PySem.W.Frag) (mg : Str → Option Value) (base : Heap) (C : Addr) (k : Nat) (x : Str) (ps : List Str) (sp : Sp) where
  f : Addr
  fd : FuncData
  ok : FnOk P w K mg base CX0 k f fd ps sp
  m : Meth K C x f
  b : Binds K fd ps []
def wordsAt (lines : List Str) (k d : Nat) : List Str := match lines[k]? with
  | none => []
  | some z => wordsOf z d
/-- the lines of the text, not too many, none too long -/
structure Lines (H : Hp) (l : Addr) (lines : List Str) : Prop where
  at_ : H l = some (.lst (lines.map V.str))
  few : lines.length ≤ 1000
  short : ∀ z ∈ lines, z.length ≤ 10000
abbrev s_Parser_words_at : Stmt := inClass (top 32) 1
abbrev sc_Parser_words_atN : List Str := ["self", "depth", "line", "indentation", "words"]
theorem sc_Parser_words_at : FnScope sc_Parser_words_atN ["self", "depth"] (defScope s_Parser_words_at) := ⟨rfl, rfl, rfl, by decide +kernel, rfl, by decide +kernel, by decide +kernel⟩
def spWords (C : Addr) : Sp := fun vs H Q _ => ∃ (p l m s t : Addr) (k d : Nat) (sy : Str) (fi : Int) (lines : List Str), vs = [.ref p, .int (d : Int)] ∧ PAt C H p l m s t ((k : Int) + 1) sy fi ∧ Lines H l lines ∧ d ≤ 5 ∧
  ∀ (a : Addr) (H' : Hp), Same H H' → H a = none → H' a = some (.lst ((wordsAt lines k d).map V.str)) → Q (.ref a) H'
theorem inV_str (x : Str) (xs : List Str) : inV (.str x) (xs.map V.str) = decide (x ∈ xs) := by
  unfold inV
  rw [List.any_map]
  induction xs with
  | nil => rfl
  | cons y r ih =>
    rw [List.any_cons, ih]
    show ((y == x) || decide (x ∈ r)) = decide (x ∈ y :: r)
    by_cases e : x = y
    · subst e
      simp
    · have e' : (y == x) = false := beq_eq_false_iff_ne.mpr (Ne.symm e)
      rw [e', Bool.false_or]
      simp [e]
theorem flats (xs : List Str) : (xs.map V.str).all flatV = true := by
  induction xs with
  | nil => rfl
  | cons y r ih => exact ih
theorem sizeLine_big {n : Nat} (h : n ≤ 20000) : n ≤ sizeLine := by rw [sizeLine_eq]; omega
section
variable {P : Program} {w : World} {K : PySem.W.Frag} {mg : Str → Option Value} {base : Heap}
theorem ok_words_at {f C : Addr} {fd : FuncData} (F : Fun K "words_at" "Parser.words_at" s_Parser_words_at f fd) (T : Bare mg) (TP : PTxt K C) : FnOk P w K mg base CX0 1 f fd ["self", "depth"] (spWords C) := by
  refine F.ok sc_Parser_words_at (fun vs H Q E h => ?_) (fun cdv A outer st H vs Q E hr h => ?_)
  · obtain ⟨p, l, m, s, t, k, d, sy, fi, lines, rfl, _⟩ := h
    rfl
  obtain ⟨p, l, m, s, t, k, d, sy, fi, lines, rfl, ⟨dx, hp⟩, L, hd, q⟩ := h
  refine ⟨_, (pss_cons (ps_if (pt_cmpR op_gt (pe_fld (pv 0) rfl) (pe_callB call_len_seq (by rfl) T.len PySem.boot_len (pa_cons (pe_fld (pv 0) rfl) pa_nil)) (nomark _))
(pss_one (ps_ret (pe_lst pa_nil)))
pss_nil)
(pss_cons (ps_set (i := 2) sc_Parser_words_at.nd rfl (Or.inl rfl) (pe_ix ix_list (pe_fld (pv 0) rfl) (pe_op op_sub (pe_fld (pv 0) rfl) pe_int) (fun _ _ => rfl)))
(pss_cons (ps_set (i := 3) sc_Parser_words_at.nd rfl (Or.inl rfl) (pe_op op_mulS pe_str (pv 1)))
(pss_cons (ps_if (pt_not (pt_val (pe_m1 PySem.F.slot_str_startswith PySem.F.type_str_startswith mt_startswith (pv 2) (pv 3))))
(pss_one (ps_ret (pe_lst pa_nil)))
pss_nil)
(pss_cons (ps_set (i := 4) sc_Parser_words_at.nd rfl (Or.inl rfl) (pe_split (pe_slice sl_str (pv 2) (po_some (pe_callB call_len_str (by rfl) T.len PySem.boot_len (pa_cons (pv 3) pa_nil))) po_none) pe_str))
(pss_one (ps_ret (pe_ifExp (pt_cmpR op_in_seq pe_str (pv 4) (by rfl)) (pe_lst pa_nil) (pv 4))))))))), ?_⟩
  have hS : SqL K H l (lines.map V.str) := .inl (.inl L.at_)
  have hl : (lines.map V.str).length = lines.length := List.length_map _
  refine ⟨_, rfl, p, C, dx, _, _, rfl, hp, TP.cl, TP.nNumber, pf_number, _, rfl, p, C, dx, _, _, rfl, hp, TP.cl, TP.nLines, pf_lines, l, _, rfl, .inl hS, _, _, rfl, rfl, _, rfl, ?_⟩
  refine ite2 (fun h => ?_) (fun h => ?_)
  · have hk : lines.length ≤ k := by
      have z : ((lines.map V.str).length : Int) < (k : Int) + 1 := of_decide_eq_true h
      rw [hl] at z
      omega
    refine ⟨small (by show 0 ≤ 1000; decide), fun a ha => ?_⟩
    refine q a _ (same_new ha _) ha ?_
    unfold wordsAt
    rw [List.getElem?_eq_none hk]
    exact upd_same
  · have hk : k < lines.length := by
      have z : ¬ ((lines.map V.str).length : Int) < (k : Int) + 1 := fun z => h (decide_eq_true z)
      rw [hl] at z
      omega
    have hz := L.short lines[k] (List.getElem_mem hk)
    refine ⟨_, rfl, p, C, dx, _, _, rfl, hp, TP.cl, TP.nLines, pf_lines, _, rfl, p, C, dx, _, _, rfl, hp, TP.cl, TP.nNumber, pf_number, _, _, rfl, rfl, l, _, _, _, rfl, rfl, hS, at_of (j := k) (by omega) (by rw [List.getElem?_map, List.getElem?_eq_getElem hk] <;> rfl), ?_⟩
    refine ⟨_, rfl, d, rfl, rfl, hd, ?_⟩
    have hli : (ind d).length ≤ sizeLine := sizeLine_big (by rw [len_ind]; omega)
    refine ⟨_, rfl, ⟨_, rfl⟩, _, rfl, _, _, rfl, rfl, _, rfl, ?_⟩
    refine ite2 (fun h2 => ?_) (fun h2 => ?_)
    · have hs : Txt.startswith lines[k] (ind d) = false := by
        have : (!Txt.startswith lines[k] (ind d)) = true := h2
        simpa using this
      refine ⟨small (by show 0 ≤ 1000; decide), fun a ha => ?_⟩
      refine q a _ (same_new ha _) ha ?_
      unfold wordsAt
      rw [List.getElem?_eq_getElem hk]
      show _ = some (HO.lst ((wordsOf lines[k] d).map V.str))
      unfold wordsOf
      rw [if_pos hs]
      exact upd_same
    · have hs : ¬ Txt.startswith lines[k] (ind d) = false := by
        intro z
        exact h2 (by show (!Txt.startswith lines[k] (ind d)) = true; rw [z]; rfl)
      have hc : (cutS lines[k] (some ((ind d).length : Nat)) none).length ≤ 10000 := Nat.le_trans (cutS_length _ _ _) hz
      refine ⟨_, rfl, _, rfl, _, rfl, hli, _, rfl, _, rfl, sizeLine_big (by omega), ⟨_, rfl⟩, _, _, rfl, rfl, by decide +kernel, sizeLine_big (by omega), fun a ha => ?_⟩
      have hSa : SqL K (upd H a (.lst ((Txt.split (cutS lines[k] (some ((ind d).length : Nat)) none) " ").map V.str))) a ((Txt.split (cutS lines[k] (some ((ind d).length : Nat)) none) " ").map V.str) := .inl (.inl upd_same)
      refine ⟨_, rfl, a, _, rfl, .inl hSa, rfl, flats _, _, rfl, ?_⟩
      have e : wordsAt lines k d = (if ("" : Str) ∈ Txt.split (cutS lines[k] (some ((ind d).length : Nat)) none) " " then [] else Txt.split (cutS lines[k] (some ((ind d).length : Nat)) none) " ") := by
        unfold wordsAt
        rw [List.getElem?_eq_getElem hk]
        show wordsOf lines[k] d = _
        unfold wordsOf
        rw [if_neg hs]
      dsimp only
      rw [inV_str]
      refine ite2 (fun h3 => ?_) (fun h3 => ?_)
      · refine ⟨small (by show 0 ≤ 1000; decide), fun b hb => ?_⟩
        have s1 : Same H (upd H a (.lst ((Txt.split (cutS lines[k] (some ((ind d).length : Nat)) none) " ").map V.str))) := same_new ha _
        refine q b _ (s1.trans (same_new hb _)) (s1.free hb) ?_
        rw [e, if_pos (of_decide_eq_true h3)]
        exact upd_same
      · refine ⟨_, rfl, q a _ (same_new ha _) ha ?_⟩
        rw [e, if_neg (fun z => h3 (decide_eq_true z))]
        exact upd_same
end
end Fh
set_option Elab.async false
set_option linter.all false
set_option maxRecDepth 100000
set_option maxHeartbeats 4000000
/-! sorted(set(xs)), xs a list of ints or of texts -/
namespace Fh
open PySem PySem.Spec PyProof.Rows L2
/-- a kind of members: what a member is as a value -/
structure Kd (P : Program) (w : World) (κ : Type) [DecidableEq κ] where
  knd : PySem.KeyKind P w κ
  val : κ → Tok → Value
  is_val : ∀ (k j : κ) (t : Tok), knd.is k (val j t) = true ↔ j = k
  sc : ∀ (k : κ) (t : Tok), (val k t).scannable = true
  vv : κ → V
  rel : ∀ (k : κ) (t : Tok), RelV (vv k) (val k t)
  get : ∀ (k : κ) (u : Value), RelV (vv k) u → ∃ t, u = val k t
def kdInt (P : Program) (w : World) : Kd P w Int where
  knd := PySem.intKind P w
  val := fun k t => .int k t
  is_val := fun k j t => by
    show ((j == k) = true) ↔ j = k
    exact beq_iff_eq
  sc := fun _ _ => rfl
  vv := V.int
  rel := fun _ t => ⟨t, rfl⟩
  get := fun _ _ r => r
def kdStr (P : Program) (w : World) : Kd P w Str where
  knd := PySem.strKind P w
  val := fun k t => .str k t
  is_val := fun k j t => by
    show ((j == k) = true) ↔ j = k
    exact beq_iff_eq
  sc := fun _ _ => rfl
  vv := V.str
  rel := fun _ t => ⟨t, rfl⟩
  get := fun _ _ r => r
theorem perm_of_map {α β : Type} (f : α → β) : ∀ {l m : List β}, l.Perm m → ∀ a : List α, m = a.map f → ∃ b : List α, l = b.map f ∧ b.Perm a := by
  intro l m p
  induction p with
  | nil => exact fun a e => ⟨[], rfl, by rw [List.map_eq_nil_iff.mp e.symm]⟩
  | cons x p ih =>
    intro a e
    cases a with
    | nil => cases e
    | cons y r =>
      rw [List.map_cons] at e
      obtain ⟨e1, e2⟩ := List.cons.inj e
      obtain ⟨b, h1, h2⟩ := ih r e2
      exact ⟨y :: b, by rw [List.map_cons, h1, e1], h2.cons y⟩
  | swap x y l =>
    intro a e
    match a, e with
    | [], e => cases e
    | [_], e => simp at e
    | u :: v :: r, e =>
      rw [List.map_cons, List.map_cons] at e
      obtain ⟨e1, e2⟩ := List.cons.inj e
      obtain ⟨e3, e4⟩ := List.cons.inj e2
      exact ⟨v :: u :: r, by rw [List.map_cons, List.map_cons, ← e1, ← e3, ← e4], List.Perm.swap u v r⟩
  | trans p q ih1 ih2 =>
    intro a e
    obtain ⟨b, h1, h2⟩ := ih2 a e
    obtain ⟨c, h3, h4⟩ := ih1 b h1
    exact ⟨c, h3, h4.trans h2⟩
section
variable {P : Program} {w : World} {κ : Type} [DecidableEq κ]
/-- a member in the table -/
def Kd.ent (D : Kd P w κ) (p : κ × Tok) : Int × Value := (D.knd.hash p.1, D.val p.1 p.2)
/-- the set at a holds kt, no member twice; its table can be walked -/
structure SetG (D : Kd P w κ) (h : Heap) (a : Addr) (kt : List (κ × Tok)) : Prop where
  ex : ∃ o es ep t, h.get? a = some o ∧ o.ExactSet ∧ o.data = .set es ep t ∧ es.toList = kt.map D.ent ∧ t.fits es.size = true ∧ Ris t.place.toList ∧ (w.params.followText "set-order" = true ∨ t.led = true)
  nd : (kt.map (·.1)).Nodup
  few : kt.length < scanBound
variable {D : Kd P w κ} {h h' : Heap} {a : Addr} {kt : List (κ × Tok)}
theorem SetG.moved (R : SetG D h a kt) (k : ∀ o, h.get? a = some o → h'.get? a = some o) : SetG D h' a kt := by
  obtain ⟨⟨o, es, ep, t, ho, r⟩, n, f⟩ := R
  exact ⟨⟨o, es, ep, t, k o ho, r⟩, n, f⟩
theorem ents_ok (l : List (κ × Tok)) : ElemsOf D.knd (l.map D.ent) := fun e he => by
  obtain ⟨p, _, rfl⟩ := List.mem_map.mp he
  exact ⟨⟨p.1, (D.is_val _ _ _).mpr rfl, rfl⟩, D.sc _ _⟩
theorem ents_mem {k : κ} (l : List (κ × Tok)) : (∃ e ∈ l.map D.ent, D.knd.is k e.2 = true) ↔ k ∈ l.map (·.1) := by
  constructor
  · rintro ⟨e, he, q⟩
    obtain ⟨p, hp, rfl⟩ := List.mem_map.mp he
    exact List.mem_map.mpr ⟨p, hp, (D.is_val _ _ _).mp q⟩
  · intro m
    obtain ⟨p, hp, e⟩ := List.mem_map.mp m
    exact ⟨D.ent p, List.mem_map.mpr ⟨p, hp, rfl⟩, (D.is_val _ _ _).mpr e⟩
variable {A : Around} {E : Value → Shared → Prop} {s : Shared}
theorem put_at {h : Heap} {a : Addr} {o : Obj} {es es' : Array (Int × Value)} {ep : Nat} {t t' : SetTable} (ho : h.get? a = some o) (hd : o.data = .set es ep t) :
    (h.update a (Obj.putSet es' t')).get? a = some { o with data := .set es' (ep + 1) t' } := store_at ho hd
theorem size_of {es : Array (Int × Value)} {l : List (κ × Tok)} (e : es.toList = l.map D.ent) : es.size = l.length := by
  rw [← Array.length_toList, e, List.length_map]
theorem addG_tail {g : Bool → Sem Unit} (hg : ∀ (b : Bool) (u : Shared) (Z : Unit → Shared → Prop), Z () u → wpAny (model P w) A (g b) Z E u)
    {o : Obj} {es : Array (Int × Value)} {ep : Nat} {t : SetTable} (ho : s.heap.get? a = some o) (hex : o.ExactSet) (hd : o.data = .set es ep t)
    {e1 : Array (Int × Value)} {t2 : SetTable} {k1 : List (κ × Tok)} (he1 : e1.toList = k1.map D.ent) (nd1 : (k1.map (·.1)).Nodup) (hb1 : k1.length < scanBound)
    (hf2 : t2.fits e1.size = true) (hr : Ris t2.place.toList) (hl : w.params.followText "set-order" = true ∨ t2.led = true) {dm : Bool} {R : Option Bool → Shared → Prop}
    (hR : ∀ h2 k2, Heap.SameBut a s.heap h2 → k2.Perm k1 → SetG D h2 a k2 → R (some true) { s with heap := h2 }) :
    wpAny (model P w) A (do
        storeSet a e1 t2
        if (!dm && t2.tooFull) = true then do
            g (relayAll t2 e1 (SetTable.grown e1.size)).2.2
            storeSet a (relayAll t2 e1 (SetTable.grown e1.size)).1 (relayAll t2 e1 (SetTable.grown e1.size)).2.1
            pure (some true)
          else pure (some true)) R E s := by
  have z1 : e1.size < scanBound := by rw [size_of he1]; exact hb1
  refine wpAny_bind (wpAny_storeSet_of ho hd ?_ (fits_of_scanBound z1))
  have p1 := put_at (es' := e1) (t' := t2) ho hd
  have b1 := Heap.SameBut.update s.heap a (Obj.putSet e1 t2)
  split
  · have m1 := relayAll_perm t2 e1 (SetTable.grown e1.size)
    have m2 := relayAll_fits t2 e1 (SetTable.grown e1.size)
    have m3 := relayAll_ris t2 e1 (SetTable.grown e1.size)
    have m4 := relayAll_led t2 e1 (SetTable.grown e1.size)
    generalize relayAll t2 e1 (SetTable.grown e1.size) = Y at m1 m2 m3 m4 ⊢
    obtain ⟨e2, t3, gv⟩ := Y
    dsimp only at m1 m2 m3 m4 ⊢
    obtain ⟨k2, hk2, hp2⟩ := perm_of_map D.ent m1 k1 he1
    have z2 : e2.size < scanBound := by rw [size_of hk2, hp2.length_eq]; exact hb1
    refine wpAny_bind (hg _ _ _ (wpAny_bind (wpAny_storeSet_of p1 rfl ?_ (fits_of_scanBound z2))))
    refine wpAny_pure (hR _ k2 (b1.trans (Heap.SameBut.update _ a _)) hp2 ⟨⟨_, e2, _, t3, put_at (es' := e2) (t' := t3) p1 rfl, hex, rfl, hk2, m2, m3, ?_⟩, ?_, ?_⟩)
    · rcases hl with q | q
      · exact .inl q
      · exact .inr (by rw [m4]; exact q)
    · exact (hp2.map _).nodup_iff.mpr nd1
    · rw [hp2.length_eq]; exact hb1
  · exact wpAny_pure (hR _ k1 b1 (List.Perm.refl _) ⟨⟨_, e1, _, t2, p1, hex, rfl, he1, hf2, hr, hl⟩, nd1, hb1⟩)
theorem addG {k : κ} {tk : Tok} {Q : Bool → Shared → Prop} (R : SetG D s.heap a kt) (room : kt.length + 1 < scanBound)
    (hQ : ∀ b h2 k2, Heap.SameBut a s.heap h2 → SetG D h2 a k2 → (∀ j, j ∈ k2.map (·.1) ↔ j ∈ kt.map (·.1) ∨ j = k) → k2.length ≤ kt.length + 1 → Q b { s with heap := h2 }) :
    wpAny (model P w) A (setAddHashed a (D.val k tk) (D.knd.hash k)) Q E s := by
  obtain ⟨⟨o, es, ep, t, ho, hex, hd, hes, hf, hr, hl⟩, nd, few⟩ := id R
  have hkey : D.knd.is k (D.val k tk) = true := (D.is_val _ _ _).mpr rfl
  have hsc := D.sc k tk
  have hb : es.size < scanBound := by rw [size_of hes]; exact few
  have hel : ElemsOf D.knd es.toList := by rw [hes]; exact ents_ok kt
  unfold setAddHashed setAddHashedIn
  refine wpAny_holding (wpAny_bind (wpAny_setState_of ho hd hf ?_))
  dsimp only
  rw [byScan_of hsc hb hel, if_pos rfl]
  unfold setAddByScan
  refine wpAny_bind (wpAny_bind (wpAny_rule (wpAny_bind (wpAny_setScan_of hkey ho hd hf hel ?_))))
  cases hfi : List.findIdx? (fun e => D.knd.is k e.2) es.toList with
  | some j =>
    dsimp only
    obtain ⟨hj, pj, _⟩ := List.findIdx?_eq_some_iff_getElem.mp hfi
    have hmem : k ∈ kt.map (·.1) := (ents_mem (D := D) kt).mp ⟨es.toList[j], by rw [← hes]; exact List.getElem_mem hj, pj⟩
    refine wpAny_pure (wpAny_pure (hQ _ s.heap kt (Heap.SameBut.refl a s.heap) R (fun i => ⟨.inl, fun z => z.elim id fun e => e ▸ hmem⟩) (Nat.le_succ _)))
  | none =>
    dsimp only
    have hnk : k ∉ kt.map (·.1) := fun z => by
      obtain ⟨e, he, q⟩ := (ents_mem (D := D) kt).mpr z
      have c := List.findIdx?_eq_none_iff.mp hfi e (by rw [hes]; exact he)
      rw [q] at c
      cases c
    have hgw : ∀ (b : Bool) {u : Shared} {Z : Unit → Shared → Prop}, Z () u → wpAny (model P w) A (match b with | true => rule "set.scan.the-table-gave-way" | false => pure ()) Z E u :=
      fun b u Z q => by
        cases b
        · exact wpAny_pure q
        · exact wpAny_rule q
    have m1 := layNew_perm t es (D.knd.hash k) (D.val k tk)
    have m2 := layNew_fits t es (D.knd.hash k) (D.val k tk)
    have m3 := layNew_ris t es (D.knd.hash k) (D.val k tk) hr
    have m4 := layNew_led t es (D.knd.hash k) (D.val k tk)
    generalize layNew t es (D.knd.hash k) (D.val k tk) = Y at m1 m2 m3 m4 ⊢
    obtain ⟨e1, t1, dm, gv⟩ := Y
    dsimp only at m1 m2 m3 m4 ⊢
    rw [Array.toList_push, hes] at m1
    obtain ⟨k1, hk1, hp1⟩ := perm_of_map D.ent m1 (kt ++ [(k, tk)]) (by rw [List.map_append]; rfl)
    have pk : ∀ j, j ∈ k1.map (·.1) ↔ j ∈ kt.map (·.1) ∨ j = k := fun j => by
      rw [(hp1.map _).mem_iff, List.map_append, List.mem_append]
      simp
    have nd1 : (k1.map (·.1)).Nodup := by
      refine (hp1.map _).nodup_iff.mpr ?_
      rw [List.map_append]
      refine List.nodup_append.mpr ⟨nd, by simp, fun x hx y hy e => ?_⟩
      have hy2 : y = k := by simpa using hy
      exact hnk (by rw [← hy2, ← e]; exact hx)
    have ln1 : k1.length = kt.length + 1 := by rw [hp1.length_eq, List.length_append]; rfl
    have hled : w.params.followText "set-order" = true ∨ t1.led = true := hl.elim .inl fun z => .inr (by rw [m4]; exact z)
    have fin : ∀ h2 k2, Heap.SameBut a s.heap h2 → k2.Perm k1 → SetG D h2 a k2 → ∀ b, Q b { s with heap := h2 } := fun h2 k2 sb p r b =>
      hQ b h2 k2 sb r (fun j => by rw [(p.map _).mem_iff, pk]) (by rw [p.length_eq, ln1]; exact Nat.le_refl _)
    refine wpAny_bind (hgw _ ?_)
    split
    · refine wpAny_bind ?_
      rw [hashByValue_scannable 8 hsc]
      refine wpAny_pure ?_
      refine addG_tail ?_ ho hex hd hk1 nd1 (by rw [ln1]; exact room) ?_ ?_ ?_ fun h2 k2 sb p r => wpAny_pure (fin h2 k2 sb p r _)
      · exact fun b u Z q => hgw b q
      · first | (split <;> first | exact m2 | exact SetTable.fits_plain_off m2) | exact m2
      · first | (split <;> exact m3) | exact m3
      · first | (split <;> exact hled) | exact hled
    · refine wpAny_bind (wpAny_pure ?_)
      rw [if_pos rfl]
      exact addG_tail (fun b u Z q => hgw b q) ho hex hd hk1 nd1 (by rw [ln1]; exact room) m2 m3 hled fun h2 k2 sb p r => wpAny_pure (fin h2 k2 sb p r _)

/-! ### all members of a walk put in -/
theorem loopG {I : Addr} {fp wr : List Addr} {G : Array GenState → Array GenState → Prop} {n : Nat} {Pv : Nat → Value → Prop} {St : Nat → Shared → Prop} {R : Result → Shared → Prop}
    (W : WalksS P w A.in1 I fp wr G n Pv St) (S : Addr) (hS : S ∉ fp) (ks : List κ) (hn : n = ks.length) (hb : ks.length + 1 < scanBound) (hval : ∀ i v, Pv i v → ∃ k t, ks[i]? = some k ∧ v = D.val k t) :
    ∀ (r i : Nat) (u : Shared), n - i = r → i ≤ n → St i u → (∃ kt, SetG D u.heap S kt ∧ kt.length ≤ i ∧ ∀ j, j ∈ kt.map (·.1) ↔ j ∈ ks.take i) →
      (∀ u' kt, Moved (S :: wr) G u u' → SetG D u'.heap S kt → kt.length ≤ n → (∀ j, j ∈ kt.map (·.1) ↔ j ∈ ks) → R (.ok (.ret .none)) u') →
      codeAny (model P w) A (.builtin "set.update.loop" ⟨[.ref S, .ref I], []⟩) R u := by
  have hSw : S ∉ wr := fun z => hS (W.sub _ z)
  have hsub : ∀ b ∈ wr, b ∈ S :: wr := fun b z => List.mem_cons_of_mem _ z
  intro r
  induction r with
  | zero =>
    intro i u hr hi hst ⟨kt, g, hc, hm⟩ hR
    have hin : i = n := by omega
    subst hin
    refine codeAny_builtin F.entry_set_update_loop ?_
    rw [Around.under_plainId F.plain_set_update_loop _]
    refine wpAny_bind (m := pyNext (.ref I)) (W.done u _ _ hst fun u' mv => wpAny_pure (hR u' kt (mv.mono hsub) (g.moved fun o e => mv.heap S o hSw e) hc fun j => ?_))
    rw [hm j, List.take_of_length_le (Nat.le_of_eq hn.symm)]
  | succ r ih =>
    intro i u hr hi hst ⟨kt, g, hc, hm⟩ hR
    have hlt : i < n := by omega
    refine codeAny_builtin F.entry_set_update_loop ?_
    rw [Around.under_plainId F.plain_set_update_loop _]
    refine wpAny_bind (m := pyNext (.ref I)) (W.item i u _ _ hlt hst fun v u' hP hst' mv => ?_)
    obtain ⟨k, t, hk, rfl⟩ := hval i v hP
    have g' := g.moved fun o e => mv.heap S o hSw e
    refine wpAny_bind (m := holding [D.val k t] (setAdd S (D.val k t))) (wpAny_holding ?_)
    unfold setAdd
    refine wpAny_holding (wpAny_bind (D.knd.pyHash (k := k) ((D.is_val _ _ _).mpr rfl) ?_))
    refine addG (s := { u' with toks := u'.toks + 1 }) g' (by omega) fun b h2 k2 sb g2 m2 l2 => ?_
    have hm2 : ∀ j, j ∈ k2.map (·.1) ↔ j ∈ ks.take (i + 1) := fun j => by
      rw [m2 j, hm j, List.take_add_one, hk, List.mem_append]
      simp
    refine wpAny_pure ⟨plainId_quiet F.plain_set_update_loop _, ih (i + 1) _ (by omega) hlt (W.frame _ u' _ _ hst' (Nat.le_succ _) fun b hb o e => ?_) ⟨k2, g2, by omega, hm2⟩ fun u'' k3 mv2 g3 c3 m3 => ?_⟩
    · rw [sb.2 b (fun z : b = S => hS (by rw [← z]; exact hb))]; exact e
    · refine hR u'' k3 (Moved.trans W.gtrans ((mv.mono hsub).then_heap (Nat.le_succ _) fun b o hb e => ?_) mv2) g3 c3 m3
      rw [sb.2 b (fun z : b = S => hb (by rw [z]; exact List.mem_cons_self))]; exact e
/-- the empty set, just made -/
theorem freshG {h : Heap} {a : Addr} (ho : h.get? a = some { cls := .type "set", dict := none, data := .set #[] 0 (.fresh 0 0 (!w.params.followText "set-order")) }) : SetG D h a [] :=
  ⟨⟨_, #[], 0, _, ho, ⟨rfl, rfl, rfl⟩, rfl, rfl, (by rfl), List.Pairwise.nil, by
    show _ ∨ (!w.params.followText "set-order") = true
    cases w.params.followText "set-order"
    · exact .inr rfl
    · exact .inl rfl⟩, List.nodup_nil, (by show 0 < scanBound; decide)⟩
end
abbrev newSet (w : World) : Obj := { cls := .type "set", dict := none, data := .set #[] 0 (.fresh 0 0 (!w.params.followText "set-order")) }
section
variable {P : Program} {w : World} {κ : Type} [DecidableEq κ] {D : Kd P w κ} {A : Around} {E : Value → Shared → Prop} {s : Shared}
set_option maxHeartbeats 6400000 in
/-- set(xs), xs a list -/
theorem call_setG {l : Addr} {items : Array Value} (ks : List κ) {Q : Value → Shared → Prop} (hh : A.handled = none) (hl : s.heap.IsList l items) (hsz : items.size = ks.length)
    (hval : ∀ (i : Nat) (v : Value), items[i]? = some v → ∃ k t, ks[i]? = some k ∧ v = D.val k t) (hb : ks.length + 1 < scanBound)
    (h : ∀ (h' : Heap) (tk : Nat) (kt : List (κ × Tok)), SetG D h' s.heap.objs.size kt → kt.length ≤ ks.length → (∀ j, j ∈ kt.map (·.1) ↔ j ∈ ks) → (∀ b o, s.heap.get? b = some o → h'.get? b = some o) → Q (.ref s.heap.objs.size) { s with heap := h', toks := tk }) :
    wpAny (model P w) A (call (.type "set") [.ref l]) Q E s := by
  obtain ⟨c, tl, hmro⟩ := F.called_set.mro
  have k1 := F.called_set.made
  have k2 := F.called_set.sub
  refine wpAny_call (codeAny_of_tree (show wpAny _ _ (callAny (Value.type "set") _) _ _ _ from wpAny_pure ⟨Code.quiet_builtin _ (by decide +kernel), codeAny_builtin F.entry_type_call ?_⟩))
  rw [Around.under_plain (weight_type_call_type "set" [.ref l] []) rfl]
  have k3 := F.called_set.notType
  have k4 := F.called_set.canCreate
  have k5 := F.typeCall_set_1 (.ref l)
  repeat (any_goals (first | assumption | wp_step))
  refine codeAny_mono (code_set_led1 (.ref l) (E := E) (Q₁ := fun ob u => ob = .ref s.heap.objs.size ∧ u = { s with heap := s.heap.push (newSet w) }) ⟨rfl, rfl⟩) fun r u hr => ?_
  cases r with
  | error e => exact hr
  | ok fl =>
    cases fl with
    | ret ob =>
      obtain ⟨rfl, rfl⟩ := hr
      have n1 : (s.heap.push (newSet w)).get? s.heap.objs.size = some (newSet w) := Heap.get?_push_size _ rfl
      have n2 : Shared.TypeIs { s with heap := s.heap.push (newSet w) } (.ref s.heap.objs.size) "set" := ⟨_, n1, rfl⟩
      have n3 := F.called_set.init.lookup
      have n4 := F.called_set.init.bind (.ref s.heap.objs.size)
      repeat (any_goals (first | assumption | wp_step))
      refine codeAny_mono (codeAny_call_builtin (R := wants (fun r v => r = .none ∧ ∃ h' tk kt, v = { s with heap := h', toks := tk } ∧ SetG D h' s.heap.objs.size kt ∧ kt.length ≤ ks.length ∧ (∀ j, j ∈ kt.map (·.1) ↔ j ∈ ks) ∧
          (∀ b o, s.heap.get? b = some o → h'.get? b = some o)) E) F.called_set.init.plain F.entry_set_init (check_set_init_1 n2 ?_)) fun r₂ v hv => ?_
      · obtain ⟨ol, hol, hcl, nl, hdl⟩ := hl
        obtain ⟨oc, od, oda, osl⟩ := ol
        dsimp only at hcl hdl
        subst hcl
        subst hdl
        have hlS : l < s.heap.objs.size := Heap.lt_size hol
        have q1 : (s.heap.push (newSet w)).get? l = some { cls := .type "list", dict := od, data := .seq items nl, slots := osl } := Heap.get?_push_of_some _ hol
        have q2 : (s.heap.push (newSet w)).IsList l items := ⟨_, q1, rfl, nl, rfl⟩
        have q3 := F.sub_list_set
        have q4 := F.sub_list_frozenset
        have q5 : (Value.type "list" == Value.type "dict") = false := by decide
        unfold Builtin.«set.__init__» noKeywords Builtin.Frozenset.updateFrom
        generalize hPI : pyIter = PI
        wp_walk
        subst hPI
        have hz : (s.heap.push (newSet w)).objs.size = s.heap.objs.size + 1 := Heap.size_push ..
        have hne : l ≠ (s.heap.push (newSet w)).objs.size := by rw [hz]; exact Nat.ne_of_lt (Nat.lt_succ_of_lt hlS)
        have hfp : s.heap.objs.size ∉ [(s.heap.push (newSet w)).objs.size, l] := by
          rw [hz]
          intro z
          rcases List.mem_cons.mp z with z | z
          · exact Nat.ne_of_lt (Nat.lt_succ_self _) z
          · exact Nat.ne_of_gt hlS (List.mem_singleton.mp z)
        refine wpAny_pyIter_list q2 (wpAny_bind (wpAny_runValue ?_))
        refine loopG (D := D) ((Walks.list (by simp [hh]) _ l hne items).toS) s.heap.objs.size hfp ks hsz hb hval items.size 0 _ (by omega) (Nat.zero_le _) ⟨⟨_, Heap.get?_push_size _ rfl, rfl, rfl⟩, q2.push _⟩ ⟨[], freshG (Heap.get?_push_of_some _ n1), Nat.zero_le _, fun j => by simp⟩ fun u kt mv g c m => ?_
        obtain ⟨h', g2, d', tk', os'⟩ := u
        have eg : g2 = s.gens := mv.gens
        have ed : d' = s.drawn := mv.drawn
        have eo : os' = s.os := mv.os
        subst eg
        subst ed
        subst eo
        show wpAny _ _ _ _ _ _
        refine wpAny_pure (show wpAny _ _ (ret Value.none) _ _ _ from wpAny_pure ⟨rfl, h', tk', kt, rfl, g, by rw [← hsz]; exact c, m, fun b o e => ?_⟩)
        have hb0 : b < s.heap.objs.size := Heap.lt_size e
        refine mv.heap b o (fun z => ?_) (Heap.get?_push_of_some _ (Heap.get?_push_of_some _ e))
        rcases List.mem_cons.mp z with z | z
        · exact Nat.ne_of_lt hb0 z
        · have z2 := List.mem_singleton.mp z
          rw [hz] at z2
          exact Nat.ne_of_lt (Nat.lt_succ_of_lt hb0) z2
      · cases r₂ with
        | error e => exact hv
        | ok f2 =>
          cases f2 with
          | ret r =>
            obtain ⟨rfl, h', tk, kt, rfl, g, c, m, hk⟩ := hv
            repeat (any_goals (first | assumption | wp_step))
            exact h _ _ _ g c m hk
          | _ => exact hv.elim
    | _ => exact hr.elim
/-- how a new list of members is sorted in its place -/
def SortsBy (D : Kd P w κ) (ord : List κ → Prop) : Prop := ∀ {A : Around} {E : Value → Shared → Prop} {u : Shared} {l : Addr} {vs : List Value} {ks : List κ} {Q : Value → Shared → Prop},
  u.heap.get? l = some (seqObj "list" vs.toArray 0) → Vals (ks.map D.vv) vs → vs.length < 64 →
  (∀ (out : Array Value) (ys : List κ), Vals (ys.map D.vv) out.toList → ys.Perm ks → ord ys → Q .none { u with heap := sortedHeap u.heap l vs out }) →
  wpAny (model P w) A (call (.builtin "list.sort") [.ref l]) Q E u
theorem vals_ents (l : List (κ × Tok)) : Vals ((l.map (·.1)).map D.vv) (l.map fun p => D.val p.1 p.2) := by
  induction l with
  | nil => exact .nil
  | cons p r ih => exact .cons (D.rel _ _) ih
theorem perm_fst {l m : List (κ × Tok)} (p : l.Perm m) : (l.map (·.1)).Perm (m.map (·.1)) := p.map _
/-- sorted(a set) -/
theorem call_sortedG {a : Addr} {kt : List (κ × Tok)} {ord : List κ → Prop} {Q : Value → Shared → Prop} (srt : SortsBy D ord) (g : SetG D s.heap a kt) (hh : A.handled = none) (h64 : kt.length < 64)
    (hQ : ∀ s' p (out : Array Value) (c : Nat) (ys : List κ), (∀ b o, s.heap.get? b = some o → s'.heap.get? b = some o) → s'.gens = s.gens → s'.os = s.os → s.heap.objs.size ≤ p →
      s'.heap.get? p = some (seqObj "list" out c) → Vals (ys.map D.vv) out.toList → ys.Perm (kt.map (·.1)) → ord ys → Q (.ref p) s') :
    wpAny (model P w) A (call (.builtin "sorted") [.ref a]) Q E s := by
  obtain ⟨⟨o, es, ep, t, ho, hex, hd, hes, hf, hr, hl⟩, nd, few⟩ := g
  have hb : es.size < scanBound := by rw [size_of hes]; exact few
  refine Calls.call_function_entry kind_sorted plain_sorted entry_sorted (args_sorted1 _) ?_
  unfold Builtin.«sorted»
  refine wpAny_bind (m := checkCount "sorted" 1 1 _) (wpAny_pure (wpAny_bind (collect_set (A := A.in1) hh ⟨o, ho, hex.1, hd⟩ hf hb hr hl fun s1 vs k1 hz g1 o1 pm => ?_)))
  have pm2 : vs.Perm (kt.map fun p => D.val p.1 p.2) := by
    rw [hes, List.map_map] at pm
    exact pm
  obtain ⟨kv, e1, p1⟩ := perm_of_map _ pm2 kt rfl
  have hvl : vs.length = kt.length := by rw [pm2.length_eq, List.length_map]
  have hv : Vals ((kv.map (·.1)).map D.vv) vs := by rw [e1]; exact vals_ents kv
  refine wpAny_bind (wpAny_newList ?_ (by rw [hvl, sizeLine_eq]; omega))
  have n1 : (s1.heap.push (seqObj "list" vs.toArray 0)).get? s1.heap.objs.size = some (seqObj "list" vs.toArray 0) := Heap.get?_push_size _ rfl
  refine wpAny_bind (wpAny_holding (srt n1 hv (by rw [hvl]; exact h64) fun out ys a1 a2 a3 => ?_))
  obtain ⟨c, hc⟩ := sortedHeap_at (vs := vs) (out := out) n1
  refine wpAny_pure ⟨_, rfl, hQ _ s1.heap.objs.size out c ys (fun b u e => ?_) g1 o1 hz hc a1 (a2.trans (perm_fst p1)) a3⟩
  have q := k1 b u e
  have hlt := Heap.lt_size q
  refine Eq.trans (sortedHeap_old (Nat.ne_of_lt hlt) (by rw [size_push']; exact Nat.lt_succ_of_lt hlt)) (Heap.get?_push_of_some _ q)
theorem sorts_int : SortsBy (kdInt P w) (fun ns => ns.Pairwise (· ≤ ·)) := by
  intro A E u l vs ks Q ho hv h64 h
  have hi : IntsAre vs ks := hv.ints
  exact wpAny_call_entry slot_list_sort ⟨_, ho, rfl⟩ entry_list_sort (list_sort_tree ho hi h64 fun out ns' a1 a2 a3 => ⟨_, rfl, h out ns' (vals_of_ints a1) a2 a3⟩) (args_list_sort _)
theorem sorts_str : SortsBy (kdStr P w) (fun zs => sortedS zs = true) := by
  intro A E u l vs ks Q ho hv h64 h
  have hS : StrsAre vs ks := hv.strs
  refine wpAny_call_entry slot_list_sort ⟨_, ho, rfl⟩ entry_list_sort (list_sort_treeK strKind_oneLt ho hS.keysOf (fun a b r e => keyKind_strs (by rw [← e]; exact hS)) h64 fun st hp hs => ?_) (args_list_sort _)
  obtain ⟨ys, g1, g2, g3⟩ := sorted_out_str hS hp hs
  exact ⟨_, rfl, h _ ys (vals_of_strs g1) g2 g3⟩
end
/-! ### over the layer -/
def SetO2 {P : Program} {w : World} {κ : Type} [DecidableEq κ] (D : Kd P w κ) (a : Addr) (kt : List (κ × Tok)) : HO := .ext fun h => SetG D h a kt
section
variable {X : Cx} {κ : Type} [DecidableEq κ]
def rSetOf (K : PySem.W.Frag) {P : Program} {w : World} (D : Kd P w κ) : List V → Hp → VK → Prop := fun xs H Q => ∃ (l : Addr) (ks : List κ), xs = [.ref l] ∧ SqL K H l (ks.map D.vv) ∧ ks.length ≤ 1000 ∧
  ∀ (p : Addr) (kt : List (κ × Tok)), kt.length ≤ ks.length → (∀ j, j ∈ kt.map (·.1) ↔ j ∈ ks) → (kt.map (·.1)).Nodup → H p = none → Q (.ref p) (upd H p (SetO2 D p kt))
theorem cr_setOf (D : Kd X.prog X.w κ) (hc : X.calm = true) : CallR X (.type "set") (rSetOf X.K D) := by
  intro pins s σ H vs us Q I r h
  obtain ⟨l, ks, rfl, hs, hn, q⟩ := h
  obtain ⟨its, rv, hl, _⟩ := I.list hs
  rw [Vals.ref1 r]
  have hlen := rv.length
  rw [List.length_map] at hlen
  refine call_setG (D := D) ks (I.ok.hd hc) hl.isList (by simpa using hlen.symm) (fun i v hv => ?_) (by unfold scanBound; omega) fun h' tk kt g c m k => ?_
  · have hv2 : its[i]? = some v := by simpa using hv
    have hi : i < ks.length := by
      rw [hlen]
      exact (List.getElem?_eq_some_iff.mp hv2).1
    obtain ⟨u, h1, h2⟩ := rv.get (i := i) (x := D.vv ks[i]) (by rw [List.getElem?_map, List.getElem?_eq_getElem hi]; rfl)
    rw [hv2] at h1
    obtain ⟨t, e⟩ := D.get _ _ h2
    exact ⟨ks[i], t, List.getElem?_eq_getElem hi, by rw [Option.some.inj h1]; exact e⟩
  · obtain ⟨o, es, ep, t, ho, _⟩ := g.ex
    have hnew : H s.heap.objs.size = none := I.hok.fresh (Nat.le_refl _)
    refine ⟨.ref s.heap.objs.size, upd H s.heap.objs.size (SetO2 D s.heap.objs.size kt), I.laid (t' := tk) k (Nat.le_refl _) ⟨g, ⟨o, ho⟩, fun h1 h2 r k2 => r.moved k2⟩, rfl, q _ kt c m g.nd hnew⟩
def rSortedG {P : Program} {w : World} (D : Kd P w κ) (ord : List κ → Prop) : List V → Hp → VK → Prop := fun vs H Q => ∃ (a : Addr) (kt : List (κ × Tok)), vs = [.ref a] ∧ H a = some (SetO2 D a kt) ∧ kt.length < 64 ∧
  ∀ (ys : List κ) (p : Addr), ys.Perm (kt.map (·.1)) → ord ys → H p = none → Q (.ref p) (upd H p (.lst (ys.map D.vv)))
theorem cr_sortedG {D : Kd X.prog X.w κ} {ord : List κ → Prop} (srt : SortsBy D ord) (hc : X.calm = true) : CallR X (.builtin "sorted") (rSortedG D ord) := by
  intro pins s σ H vs us Q I r h
  obtain ⟨a, kt, rfl, ha, h64, q⟩ := h
  have g : SetG D s.heap a kt := (I.hok a _ ha).1
  rw [Vals.ref1 r]
  refine call_sortedG srt g (I.ok.hd hc) h64 fun s' p out c ys k eg eo hp hg hv hpm ho => ?_
  have hlen : (ys.map D.vv).length ≤ sizeLine := by
    rw [List.length_map, hpm.length_eq, List.length_map]
    exact small (by omega)
  have hn : H p = none := I.hok.fresh hp
  have J : Inv X pins σ (upd H p (.lst (ys.map D.vv))) { s with heap := s'.heap, gens := s'.gens, drawn := s'.drawn, toks := s'.toks } :=
    I.call (ch := []) (Un.laid k hp hn) (I.hok.laid k hp ⟨hlen, out.toList, c, hv, hg⟩) (by rw [eg]; exact I.bare) (fun _ z => nomatch z)
  have e : s' = { s with heap := s'.heap, gens := s'.gens, drawn := s'.drawn, toks := s'.toks } := by
    cases s'
    cases s
    cases eo
    rfl
  rw [e]
  exact ⟨.ref p, _, J, rfl, q ys p hpm ho hn⟩
end
end Fh
set_option Elab.async false
set_option linter.all false
set_option maxRecDepth 100000
set_option maxHeartbeats 2000000
namespace Fh
open PySem L2 TL
/-- a comprehension whose element leaves the heap as it was -/
theorem lc_pure {J : It} {n s : Nat} {te : TE} {vs : List Nat} {σ : St} {H1 : Hp} {D : Addr} {Qd : Hp → Prop} (x f : Nat → V)
    (w : Walk J n (fun _ => True) (fun i H v H' => H' = H ∧ v = x i)) (hw : ∀ v, wipe ((wipe σ vs).set s (some v)) vs = wipe σ vs) (hn : n ≤ 10000)
    (he : ∀ i (Q : VK), i < n → Q (f i) (upd H1 D (.lst ((List.range i).map f))) → te ((wipe σ vs).set s (some (x i))) (upd H1 D (.lst ((List.range i).map f))) Q)
    (hd : Qd (upd H1 D (.lst ((List.range n).map f)))) :
    ∃ W : Nat → Nat → Hp → Prop, (∃ m, W 0 m (upd H1 D (.lst []))) ∧ ∀ i m H, W i m H →
      (J.stop i H ∧ Qd H) ∨ (J.go i H ∧ ∃ Nx : Hp → Prop, (∀ H', Nx H' → ∃ m', m' < m ∧ W (i + 1) m' H') ∧ ∀ x H', J.yld i H x H' → gName s x (wipe σ vs) H' fun σ2 H2 => wipe σ2 vs = wipe σ vs ∧ tYes σ2 H2 fun b H3 =>
        if b = true then te σ2 H3 fun y H4 => ∃ acc, H4 D = some (.lst acc) ∧ acc.length < sizeLine ∧ Nx (upd H4 D (.lst (acc ++ [y]))) else Nx H3) := by
  refine lc_it w (fun i H => H = upd H1 D (.lst ((List.range i).map f))) rfl (fun _ _ _ _ => trivial) (fun i v H H' hi p y => ?_) (fun H p => by rw [p]; exact hd)
  obtain ⟨rfl, rfl⟩ := y
  subst p
  refine ⟨hw _, ?_⟩
  simp only [tYes, ↓reduceIte]
  refine he i _ hi ⟨_, upd_same, ?_, ?_⟩
  · rw [List.length_map, List.length_range, sizeLine_eq]
    omega
  · rw [upd_upd, List.range_succ, List.map_append] <;> rfl
/-- the i-th sign of a text -/
def signV (z : Str) (i : Nat) : V := .str ⟨#[z.cps.toList.getD i 0]⟩
theorem walk_text {z : Str} : Walk (Its z) z.length (fun _ => True) (fun i H v H' => H' = H ∧ v = signV z i) :=
  ⟨fun _ _ hi _ => hi, fun _ _ => Nat.le_refl _, fun i H v H' hi _ y => by
    obtain ⟨e, c, h1, h2⟩ := y
    refine ⟨e, ?_⟩
    rw [h2]
    unfold signV
    have h3 : z.cps.toList[i]? = some c := by rw [Array.getElem?_toList]; exact h1
    rw [List.getD_eq_getElem?_getD, h3]
    rfl⟩
theorem map_signs {β : Type} (z : Str) (g : Nat → β) : (List.range z.length).map (fun i => g (z.cps.toList.getD i 0)) = (tl z).map g := by
  apply List.ext_getElem
  · rw [List.length_map, List.length_range, List.length_map, len_tl]
  · intro i h1 h2
    rw [List.getElem_map, List.getElem_map, List.getElem_range]
    rw [List.length_map] at h2
    congr 1
    rw [List.getD_eq_getElem?_getD, List.getElem?_eq_getElem h2]
    rfl
/-! ### is_of_letters -/
abbrev alpha : Str := "abcdefghijklmnopqrstuvwxyz"
theorem tl_alpha : tl alpha = (List.range 26).map (· + 97) := by decide +kernel
abbrev s_is_of_letters : Stmt := top 5
abbrev sc_is_of_lettersN : List Str := ["word", "sign"]
theorem sc_is_of_letters : FnScope sc_is_of_lettersN ["word"] (defScope s_is_of_letters) := ⟨rfl, rfl, rfl, by decide +kernel, rfl, by decide +kernel, by decide +kernel⟩
/-- the constants of parsing -/
structure Consts (K : PySem.W.Frag) (mg : Str → Option Value) : Prop where
  alpha : ∃ t, mg "ALPHABET" = some (.str alpha t)
  mostCells : ∃ t, mg "MOST_CELLS" = some (.int 2 t)
  mostParts : ∃ t, mg "MOST_PARTS" = some (.int 2 t)
  mostStatements : ∃ t, mg "MOST_STATEMENTS" = some (.int 20 t)
  mostBodies : ∃ t, mg "MOST_BODIES" = some (.int 4 t)
  longest : ∃ t, mg "LONGEST_NAME" = some (.int 8 t)
  all : mg "all" = none
  sorted : mg "sorted" = none
  set : mg "set" = none
/-- a def of a text that answers, all else as it was -/
def spText1 (f : Str → Bool) : Sp := fun vs H Q _ => ∃ z : Str, vs = [.str z] ∧ z.length ≤ 1000 ∧ ∀ H', Same H H' → Q (.bl (f z)) H'
def ofLetters (z : Str) : Bool := (tl z).all fun c => decide (c ∈ tl alpha)
section
variable {P : Program} {w : World} {K : PySem.W.Frag} {mg : Str → Option Value} {base : Heap}
theorem ok_is_of_letters {f : Addr} {fd : FuncData} (F : Fun K "is_of_letters" "is_of_letters" s_is_of_letters f fd) (T : Consts K mg) : FnOk P w K mg base CX0 1 f fd ["word"] (spText1 ofLetters) := by
  refine F.ok sc_is_of_letters (fun vs H Q E h => ?_) (fun cdv A outer st H vs Q E hr h => ?_)
  · obtain ⟨z, rfl, _⟩ := h
    rfl
  obtain ⟨z, rfl, hz, q⟩ := h
  obtain ⟨ta, hal⟩ := T.alpha
  refine ⟨_, (pss_one (ps_ret (pe_callB (cr_all rfl) (by rfl) T.all (by decide +kernel) (pa_cons (pe_lc (own := [("sign", 1)]) (g := gName 1) rfl sc_is_of_letters.nd (pi_str (pv 0)) (blkOk_by (N := sc_is_of_lettersN) (sc := defScope s_is_of_letters) (by decide +kernel)) (fun _ _ _ _ _ => pg_name (i := 1) sc_is_of_letters.nd rfl (Or.inl rfl)) (fun _ _ _ _ _ => pts_nil) (fun _ _ _ _ _ => (pe_cmpR op_in_sign (pv 1) (pe_glob (v := .str alpha) rfl hal ⟨_, rfl⟩) (by rfl)))) pa_nil)))), ?_⟩
  refine ⟨_, rfl, z, rfl, fun D hD => lc_pure (signV z) (fun i => V.bl (decide (z.cps.toList.getD i 0 ∈ alpha.cps.toList))) walk_text (fun _ => rfl) (by omega) (fun i Q' hi k => ?_) ?_⟩
  · exact ⟨_, rfl, _, alpha, rfl, rfl, k⟩
  · refine ⟨D, (tl z).map (fun c => decide (c ∈ alpha.cps.toList)), rfl, .inl (.inl ?_), ?_⟩
    · rw [upd_same, List.map_map, ← map_signs]
      rfl
    · have e : ((tl z).map (fun c => decide (c ∈ alpha.cps.toList))).all id = ofLetters z := by
        unfold ofLetters
        rw [List.all_map]
        rfl
      rw [e]
      exact q _ (same_new hD _)
end
end Fh
set_option Elab.async false
set_option linter.all false
set_option maxRecDepth 100000
set_option maxHeartbeats 2000000
namespace Fh
open PySem L2 TL
/-! ### data -/
theorem dp_ints {K : PySem.W.Frag} {H : Hp} : ∀ ns : List Int, DpAll K H (ns.map V.int) (ns.map PyData.int)
  | [] => .nil
  | n :: r => .cons (.int n) (dp_ints r)
theorem dp_strs {K : PySem.W.Frag} {H : Hp} : ∀ zs : List Str, DpAll K H (zs.map V.str) (zs.map PyData.str)
  | [] => .nil
  | n :: r => .cons (.str n) (dp_strs r)
theorem lay_ints : ∀ ns : List Int, PyData.canLayAll0 (ns.map PyData.int) = true ∧ PyData.depthAll (ns.map PyData.int) = 0
  | [] => ⟨rfl, rfl⟩
  | n :: r => by
    obtain ⟨h1, h2⟩ := lay_ints r
    refine ⟨?_, ?_⟩
    · show (true && PyData.canLayAll0 (r.map PyData.int)) = true
      rw [h1]; rfl
    · show max 0 (PyData.depthAll (r.map PyData.int)) = 0
      rw [h2]; rfl
theorem eqv_ints : ∀ a b : List Int, PyData.eqvAll (a.map PyData.int) (b.map PyData.int) = decide (a = b)
  | [], [] => rfl
  | [], _ :: _ => rfl
  | _ :: _, [] => rfl
  | x :: r, y :: s => by
    show ((x == y) && PyData.eqvAll (r.map PyData.int) (s.map PyData.int)) = _
    rw [eqv_ints r s]
    by_cases e : x = y
    · subst e
      simp
    · simp [e]
theorem eqv_strs : ∀ a b : List Str, PyData.eqvAll (a.map PyData.str) (b.map PyData.str) = decide (a = b)
  | [], [] => rfl
  | [], _ :: _ => rfl
  | _ :: _, [] => rfl
  | x :: r, y :: s => by
    show ((x == y) && PyData.eqvAll (r.map PyData.str) (s.map PyData.str)) = _
    rw [eqv_strs r s]
    by_cases e : x = y
    · subst e
      simp
    · simp [e]
/-! ### is_in_order -/
abbrev s_is_in_order : Stmt := top 31
abbrev sc_is_in_orderN : List Str := ["word", "order", "places", "sign"]
theorem sc_is_in_order : FnScope sc_is_in_orderN ["word", "order"] (defScope s_is_in_order) := ⟨rfl, rfl, rfl, by decide +kernel, rfl, by decide +kernel, by decide +kernel⟩
def places (z o : Str) : List Int := (tl z).map fun c => Txt.find o ⟨#[c]⟩
/-- the signs of z are signs of o, in o's order -/
structure InOrder (z o : Str) : Prop where
  up : (places z o).Pairwise (· < ·)
  on : ∀ x ∈ places z o, 0 ≤ x
def spOrder : Sp := fun vs H Q _ => ∃ z o : Str, vs = [.str z, .str o] ∧ z.length < 60 ∧ InOrder z o ∧ ∀ H', Same H H' → Q (.bl true) H'
theorem inV_int (x : Int) (xs : List Int) : inV (.int x) (xs.map V.int) = decide (x ∈ xs) := by
  unfold inV
  rw [List.any_map]
  induction xs with
  | nil => rfl
  | cons y r ih =>
    rw [List.any_cons, ih]
    show ((y == x) || decide (x ∈ r)) = decide (x ∈ y :: r)
    by_cases e : x = y
    · subst e
      simp
    · have e' : (y == x) = false := beq_eq_false_iff_ne.mpr (Ne.symm e)
      rw [e', Bool.false_or]
      simp [e]
theorem flatI (xs : List Int) : (xs.map V.int).all flatV = true := by
  induction xs with
  | nil => rfl
  | cons y r ih => exact ih
theorem up_unique {a b : List Int} (ha : a.Pairwise (· ≤ ·)) (hb : b.Pairwise (· < ·)) (h : ∀ j, j ∈ a ↔ j ∈ b) (hn : a.Nodup) : a = b := by
  have hb1 : b.Pairwise (· ≤ ·) := hb.imp Int.le_of_lt
  have hb2 : b.Nodup := hb.imp Int.ne_of_lt
  have p : a.Perm b := (List.perm_ext_iff_of_nodup hn hb2).mpr h
  exact p.eq_of_pairwise (fun x y _ _ h1 h2 => Int.le_antisymm h1 h2) ha hb1
section
variable {P : Program} {w : World} {K : PySem.W.Frag} {mg : Str → Option Value} {base : Heap}
theorem ok_is_in_order {f : Addr} {fd : FuncData} (F : Fun K "is_in_order" "is_in_order" s_is_in_order f fd) (T : Consts K mg) : FnOk P w K mg base CX0 1 f fd ["word", "order"] spOrder := by
  refine F.ok sc_is_in_order (fun vs H Q E h => ?_) (fun cdv A outer st H vs Q E hr h => ?_)
  · obtain ⟨z, o, rfl, _⟩ := h
    rfl
  obtain ⟨z, o, rfl, hz, hO, q⟩ := h
  refine ⟨_, (pss_cons (ps_setLc (i := 2) (own := [("sign", 3)]) (g := gName 3) rfl sc_is_in_order.nd rfl rfl (sw_true rfl rfl rfl (by decide +kernel)) (pi_str (pv 0)) (blkOk_by (N := sc_is_in_orderN) (sc := defScope s_is_in_order) (by decide +kernel)) (fun _ _ _ _ _ => pg_name (i := 3) sc_is_in_order.nd rfl (Or.inl rfl)) (fun _ _ _ _ _ => pts_nil) (fun _ _ _ _ _ => (pe_m1 PySem.F.slot_str_find PySem.F.type_str_find mt_find (pv 1) (pv 3))))
(pss_one (ps_ret (pe_and (pe_cmpR op_notIn_seq (pe_un un_neg pe_int) (pv 2) (by rfl)) (pe_one (pe_cmpR (op_eqD hr.units) (pe_callB (cr_sortedG sorts_int rfl) (by rfl) T.sorted (by decide +kernel) (pa_cons (pe_callTy (cr_setOf (kdInt _ _) rfl) (by rfl) T.set (by decide +kernel) (pa_cons (pv 2) pa_nil)) pa_nil)) (pv 2) (nomark _))))))), ?_⟩
  refine ⟨_, rfl, z, rfl, fun D hD => lc_pure (signV z) (fun i => V.int (Txt.find o ⟨#[z.cps.toList.getD i 0]⟩)) walk_text (fun _ => rfl) (by omega) (fun i Q' hi k => ?_) ?_⟩
  · exact ⟨_, rfl, ⟨_, rfl⟩, _, rfl, _, _, rfl, rfl, k⟩
  · have eD : (List.range z.length).map (fun i => V.int (Txt.find o ⟨#[z.cps.toList.getD i 0]⟩)) = (places z o).map V.int := by
      unfold places
      rw [List.map_map]
      exact map_signs z fun c => V.int (Txt.find o ⟨#[c]⟩)
    rw [eD]
    have hS : SqL K (upd H D (.lst ((places z o).map V.int))) D ((places z o).map V.int) := .inl (.inl upd_same)
    have ln : (places z o).length = z.length := by unfold places; rw [List.length_map, len_tl]
    refine ⟨1, rfl, _, rfl, D, _, rfl, .inl hS, rfl, flatI _, ?_⟩
    have e1 : inV (.int (-1)) ((places z o).map V.int) = false := by
      rw [inV_int]
      exact decide_eq_false fun m => by
        have := hO.on _ m
        omega
    show ∃ c, V.bl (!inV (.int (-1)) ((places z o).map V.int)) = .bl c ∧ _
    rw [e1]
    refine ⟨true, rfl, iteT ?_⟩
    refine ⟨_, rfl, D, places z o, rfl, hS, by omega, fun p kt h1 h2 h3 hp => ?_⟩
    have npD : D ≠ p := ne_of_none upd_same hp
    refine ⟨p, kt, rfl, upd_same, by omega, fun ys p2 h4 h5 hp2 => ?_⟩
    have e2 : ys = places z o := up_unique h5 hO.up (fun j => by rw [h4.mem_iff, h2]) (h4.nodup_iff.mpr h3)
    have nD2 : D ≠ p2 := ne_of_none (by rw [upd_ne npD]; exact upd_same) hp2
    have hS2 : SqL K (upd (upd (upd H D (.lst ((places z o).map V.int))) p (SetO2 (kdInt P w) p kt)) p2 (.lst (ys.map V.int))) D ((places z o).map V.int) := .inl (.inl (by rw [upd_ne nD2, upd_ne npD]; exact upd_same))
    refine ⟨_, rfl, .list (ys.map .int), .list ((places z o).map .int), .lst (.inl (.inl upd_same)) (dp_ints ys), .lst hS2 (dp_ints _), ?_, ?_, ?_⟩
    · unfold SeqAt.shaped
      rw [Bool.and_eq_true]
      exact ⟨(lay_ints ys).1, decide_eq_true (by show PyData.depthAll (ys.map PyData.int) + 1 ≤ 64; rw [(lay_ints ys).2]; decide)⟩
    · unfold SeqAt.shaped
      rw [Bool.and_eq_true]
      exact ⟨(lay_ints _).1, decide_eq_true (by show PyData.depthAll ((places z o).map PyData.int) + 1 ≤ 64; rw [(lay_ints _).2]; decide)⟩
    · show Q (.bl (PyData.eqvAll (ys.map PyData.int) ((places z o).map PyData.int))) _
      rw [eqv_ints, e2, decide_eq_true rfl]
      refine q _ ?_
      exact ((same_new hD _).trans (same_new hp _)).trans (same_new hp2 _)
end
end Fh
set_option Elab.async false
set_option linter.all false
set_option maxRecDepth 100000
set_option maxHeartbeats 2000000
namespace Fh
open PySem L2 TL
abbrev NV := List (Str × Nat)
def kvS (l : NV) : List (Key × V) := l.map fun x => ((Sum.inr x.1 : Key), V.int (x.2 : Int))
def numS (n : Nat) : Str := Str.ofString (toString (n : Int))
theorem nodup_at {l : NV} (h : (l.map (·.1)).Nodup) {i j : Nat} {x y : Str × Nat} (hi : l[i]? = some x) (hj : l[j]? = some y) (e : x.1 = y.1) : i = j := by
  have h1 : (l.map (·.1))[i]? = some x.1 := by rw [List.getElem?_map, hi]; rfl
  have h2 : (l.map (·.1))[j]? = some x.1 := by rw [List.getElem?_map, hj, e]; rfl
  exact nd_ix h h1 h2
theorem valV_kvS : ∀ {l : NV} {i : Nat} {x : Str × Nat}, (l.map (·.1)).Nodup → l[i]? = some x → valV (kvS l) (Sum.inr x.1) = some (.int (x.2 : Int))
  | [], i, x, _, h => by simp at h
  | y :: r, 0, x, _, h => by
    have e : y = x := Option.some.inj h
    subst e
    unfold valV kvS
    rw [List.map_cons, List.find?_cons_of_pos (by simp)]
    rfl
  | y :: r, i + 1, x, nd, h => by
    have hx : r[i]? = some x := h
    have hne : y.1 ≠ x.1 := fun e => by
      have := nodup_at nd (i := 0) (j := i + 1) rfl h e
      omega
    have ih := valV_kvS (l := r) (List.nodup_cons.mp nd).2 hx
    unfold valV kvS at ih ⊢
    rw [List.map_cons, List.find?_cons_of_neg (by simpa using hne)]
    exact ih
theorem kvS_get {l : NV} {i : Nat} {x : Str × Nat} (h : l[i]? = some x) : ((kvS l).map fun kv => kV kv.1)[i]? = some (.str x.1) := by
  unfold kvS
  rw [List.map_map, List.getElem?_map, h]
  rfl
theorem kvS_flat (l : NV) : ((kvS l).map fun kv => kV kv.1).all flatV = true := by
  unfold kvS
  rw [List.map_map, List.all_map]
  exact List.all_eq_true.mpr fun _ _ => rfl
/-- the parser with its cells and parts -/
structure PIn (C : Addr) (H : Hp) (p l m s t : Addr) (n : Int) (sy : Str) (fi : Int) (ms ss : NV) : Prop where
  ob : PAt C H p l m s t n sy fi
  mo : H m = some (.dK (kvS ms))
  st : H s = some (.dK (kvS ss))
  nm : (ms.map (·.1)).Nodup
  ns : (ss.map (·.1)).Nodup
theorem PIn.same {C : Addr} {H H' : Hp} {p l m s t : Addr} {n : Int} {sy : Str} {fi : Int} {ms ss : NV} (h : PIn C H p l m s t n sy fi ms ss) (e : Same H H') : PIn C H' p l m s t n sy fi ms ss := by
  obtain ⟨⟨dx, h1⟩, h2, h3, h4, h5⟩ := h
  exact ⟨⟨dx, e _ _ h1⟩, e _ _ h2, e _ _ h3, h4, h5⟩
/-- more constants -/
structure Consts2 (K : PySem.W.Frag) (mg : Str → Option Value) : Prop where
  values : ∃ a, mg "VALUES" = some (.ref a) ∧ ∀ H, SqT K H a [.str "0", .str "1", .str "2"]
  bare : ∃ a, mg "BARE_WORDS" = some (.ref a) ∧ ∀ H, SqT K H a [.str "right", .str "left", .str "copy", .str "stop"]
  words : ∃ a, mg "WORDS" = some (.ref a) ∧ ∀ H, SqT K H a (["symbols", "cell", "part", "main", "right", "left", "write", "copy", "set", "add", "if", "else", "while", "do", "stop", "at", "not"].map fun z => V.str (Str.ofString z))
abbrev s_Parser_setting_by : Stmt := inClass (top 32) 11
abbrev sc_Parser_setting_byN : List Str := ["self", "words", "name", "value"]
theorem sc_Parser_setting_by : FnScope sc_Parser_setting_byN ["self", "words"] (defScope s_Parser_setting_by) := ⟨rfl, rfl, rfl, by decide +kernel, rfl, by decide +kernel, by decide +kernel⟩
def spSetting (K : PySem.W.Frag) (C : Addr) : Sp := fun vs H Q _ => ∃ (p l m s t a : Addr) (n : Int) (sy : Str) (fi : Int) (ms ss : NV) (c : Str) (i v most : Nat), vs = [.ref p, .ref a] ∧ PIn C H p l m s t n sy fi ms ss ∧ SqL K H a [.str c, .str (numS v)] ∧
  ms[i]? = some (c, most) ∧ v ≤ most ∧ most ≤ 2 ∧ ∀ (b : Addr) (H' : Hp), Same H H' → H b = none → H' b = some (.tup [.int (i : Int), .int (v : Int)]) → Q (.ref b) H'
theorem num_in {v most : Nat} (h : v ≤ most) (h2 : most ≤ 2) : inV (.str (numS v)) (cutV [.str "0", .str "1", .str "2"] none (some ((most : Int) + 1))) = true := by
  have hc : most = 0 ∨ most = 1 ∨ most = 2 := by omega
  have hd : v = 0 ∨ v = 1 ∨ v = 2 := by omega
  rcases hc with rfl | rfl | rfl <;> rcases hd with rfl | rfl | rfl <;> first | omega | decide +kernel
theorem num_in3 {v : Nat} (h : v ≤ 2) : inV (.str (numS v)) [.str "0", .str "1", .str "2"] = true := by
  have hd : v = 0 ∨ v = 1 ∨ v = 2 := by omega
  rcases hd with rfl | rfl | rfl <;> decide +kernel
theorem num_int {v : Nat} (h : v ≤ 2) : intText? (numS v) = some (v : Int) ∧ (numS v).length ≤ 640 := by
  have hd : v = 0 ∨ v = 1 ∨ v = 2 := by omega
  rcases hd with rfl | rfl | rfl <;> decide +kernel
section
variable {P : Program} {w : World} {K : PySem.W.Frag} {mg : Str → Option Value} {base : Heap}
theorem ok_setting_by {f C : Addr} {fd : FuncData} (F : Fun K "setting_by" "Parser.setting_by" s_Parser_setting_by f fd) (T : Bare mg) (T2 : Consts2 K mg) (TP : PTxt K C) : FnOk P w K mg base CX0 1 f fd ["self", "words"] (spSetting K C) := by
  refine F.ok sc_Parser_setting_by (fun vs H Q E h => ?_) (fun cdv A outer st H vs Q E hr h => ?_)
  · obtain ⟨p, l, m, s, t, a, n, sy, fi, ms, ss, c, i, v, most, rfl, _⟩ := h
    rfl
  obtain ⟨p, l, m, s, t, a, n, sy, fi, ms, ss, c, i, v, most, rfl, I, hS, hm, hv, h2, q⟩ := h
  obtain ⟨⟨dx, hp⟩, mo, hst, nm, ns⟩ := id I
  have hu := hu_of hr
  obtain ⟨aV, gV, sV⟩ := T2.values
  refine ⟨_, (pss_cons (ps_if (PW.pt (pw_or (pt_cmpR op_ne (pe_callB call_len_seq (by rfl) T.len PySem.boot_len (pa_cons (pv 1) pa_nil)) pe_int (nomark _)) (pw_or1 (pt_cmp (pc_dnotin hu (pe_ix ix_list (pv 1) pe_int (fun _ _ => rfl)) (pe_fld (pv 0) rfl))))))
(pss_one (ps_ret pe_non))
pss_nil)
(pss_cons (ps_asg (pv 1) (pg_unl (n := 2) rfl (pgs_cons (pg_name (i := 2) sc_Parser_setting_by.nd rfl (Or.inl rfl)) (pgs_cons (pg_name (i := 3) sc_Parser_setting_by.nd rfl (Or.inl rfl)) pgs_nil))))
(pss_cons (ps_if (pt_cmpR op_notIn_seq (pv 3) (pe_slice sl_tupA (pe_glob (v := .ref aV) rfl gV rfl) po_none (po_some (pe_op op_add (pe_dget hu (pe_fld (pv 0) rfl) (pv 2) (fun _ _ => rfl)) pe_int))) (by rfl))
(pss_one (ps_ret pe_non))
pss_nil)
(pss_one (ps_ret (pe_tup (pa_cons (pe_bm PySem.F.plainAttrs_list PySem.F.slot_list_index PySem.F.type_list_index mt_index (pe_callTy (call_list_dK rfl) (by rfl) T.list (by decide +kernel) (pa_cons (pe_fld (pv 0) rfl) pa_nil)) (pa_cons (pv 2) pa_nil)) (pa_cons (pe_callTy call_int_str (by rfl) T.int (by decide +kernel) (pa_cons (pv 3) pa_nil)) pa_nil)))))))), ?_⟩
  have hval := valV_kvS nm hm
  refine ⟨_, rfl, a, _, rfl, .inl hS, rfl, _, rfl, iteF ?_⟩
  refine ⟨_, rfl, a, _, 0, _, rfl, rfl, hS, rfl, _, rfl, p, C, dx, _, _, rfl, hp, TP.cl, TP.nMosts, pf_mosts, m, _, rfl, DGet.k (k := Sum.inr c) mo, _, rfl, ?_⟩
  rw [hval]
  refine iteF ?_
  refine ⟨_, rfl, a, _, rfl, hS, rfl, _, _, rfl, _, _, rfl, rfl, ?_⟩
  refine ⟨_, rfl, _, rfl, p, C, dx, _, _, rfl, hp, TP.cl, TP.nMosts, pf_mosts, _, rfl, m, .int (most : Int), rfl, ?_, ?_⟩
  · exact .inl ⟨_, Sum.inr c, .inl mo, rfl, hval.symm⟩
  have v2 : v ≤ 2 := Nat.le_trans hv h2
  have hidx : ∀ (j : Nat) (z' : V), j < i → ((kvS ms).map fun kv => kV kv.1)[j]? = some z' → eqV z' (.str c) = false := fun j z' hj hz => by
    have hjl : j < ms.length := by
      have := (List.getElem?_eq_some_iff.mp hz).1
      unfold kvS at this
      rw [List.length_map, List.length_map] at this
      exact this
    have e1 := kvS_get (List.getElem?_eq_getElem hjl)
    rw [hz] at e1
    have e2 := Option.some.inj e1
    subst e2
    show ((ms[j]).1 == c) = false
    refine beq_eq_false_iff_ne.mpr fun e => ?_
    have := nodup_at nm (List.getElem?_eq_getElem hjl) hm e
    omega
  refine ⟨_, _, rfl, rfl, _, rfl, aV, _, rfl, sV _, fun _ => ?_, fun _ b hb => ?_⟩
  · refine ⟨aV, _, rfl, .inr (sV _), rfl, rfl, _, rfl, ?_⟩
    rw [num_in3 v2]
    refine iteF ?_
    refine ⟨_, rfl, p, C, dx, _, _, rfl, hp, TP.cl, TP.nMosts, pf_mosts, m, _, rfl, mo, fun L hL => ?_⟩
    have s1 := same_new hL (.lst ((kvS ms).map fun kv => kV kv.1))
    refine ⟨.inl ⟨rfl, _, .inl (.inl upd_same)⟩, _, rfl, L, _, _, i, _, rfl, rfl, .inl (.inl upd_same), rfl, kvS_flat ms, kvS_get hm, beq_self_eq_true _, hidx, ?_⟩
    refine ⟨_, rfl, _, _, rfl, (num_int v2).1, (num_int v2).2, small (by show 2 ≤ 1000; decide), fun b hb => ?_⟩
    exact q b _ (s1.trans (same_new hb _)) (s1.free hb) upd_same
  · have s0 := same_new hb (.tup (cutV [.str "0", .str "1", .str "2"] none (some ((most : Int) + 1))))
    refine ⟨b, _, rfl, .inr (.inl (.inl upd_same)), rfl, ?_, _, rfl, ?_⟩
    · refine List.all_eq_true.mpr fun x hx => ?_
      have hx2 : x ∈ ([.str "0", .str "1", .str "2"] : List V) := List.mem_of_mem_drop (List.mem_of_mem_take hx)
      rcases List.mem_cons.mp hx2 with rfl | hx2
      · rfl
      rcases List.mem_cons.mp hx2 with rfl | hx2
      · rfl
      rcases List.mem_cons.mp hx2 with rfl | hx2
      · rfl
      · cases hx2
    dsimp only
    rw [num_in hv h2]
    refine iteF ?_
    refine ⟨_, rfl, p, C, dx, _, _, rfl, s0 _ _ hp, TP.cl, TP.nMosts, pf_mosts, m, _, rfl, s0 _ _ mo, fun L hL => ?_⟩
    have s1 := same_new hL (.lst ((kvS ms).map fun kv => kV kv.1))
    refine ⟨.inl ⟨rfl, _, .inl (.inl upd_same)⟩, _, rfl, L, _, _, i, _, rfl, rfl, .inl (.inl upd_same), rfl, kvS_flat ms, kvS_get hm, beq_self_eq_true _, hidx, ?_⟩
    refine ⟨_, rfl, _, _, rfl, (num_int v2).1, (num_int v2).2, small (by show 2 ≤ 1000; decide), fun b2 hb2 => ?_⟩
    exact q b2 _ ((s0.trans s1).trans (same_new hb2 _)) ((s0.trans s1).free hb2) upd_same
end
end Fh
set_option Elab.async false
set_option linter.all false
set_option maxRecDepth 100000
set_option maxHeartbeats 2000000
namespace Fh
open PySem L2 TL
/-! ### sum_by -/
abbrev s_Parser_sum_by : Stmt := inClass (top 32) 12
abbrev sc_Parser_sum_byN : List Str := ["self", "words"]
theorem sc_Parser_sum_by : FnScope sc_Parser_sum_byN ["self", "words"] (defScope s_Parser_sum_by) := ⟨rfl, rfl, rfl, by decide +kernel, rfl, by decide +kernel, by decide +kernel⟩
def spSum (K : PySem.W.Frag) (C : Addr) : Sp := fun vs H Q _ => ∃ (p l m s t a : Addr) (n : Int) (sy : Str) (fi : Int) (ms ss : NV) (c : Str) (i v most : Nat), vs = [.ref p, .ref a] ∧ PIn C H p l m s t n sy fi ms ss ∧ SqL K H a [.str c, .str (numS v)] ∧
  ms[i]? = some (c, most) ∧ 1 ≤ v ∧ v ≤ 2 ∧ ∀ (b : Addr) (H' : Hp), Same H H' → H b = none → H' b = some (.tup [.int (i : Int), .int (v : Int)]) → Q (.ref b) H'
theorem idx_first {ms : NV} {i : Nat} {c : Str} {most : Nat} (nm : (ms.map (·.1)).Nodup) (hm : ms[i]? = some (c, most)) : ∀ (j : Nat) (z' : V), j < i → ((kvS ms).map fun kv => kV kv.1)[j]? = some z' → eqV z' (.str c) = false := fun j z' hj hz => by
  have hjl : j < ms.length := by
    have := (List.getElem?_eq_some_iff.mp hz).1
    unfold kvS at this
    rw [List.length_map, List.length_map] at this
    exact this
  have e1 := kvS_get (List.getElem?_eq_getElem hjl)
  rw [hz] at e1
  have e2 := Option.some.inj e1
  subst e2
  show ((ms[j]).1 == c) = false
  refine beq_eq_false_iff_ne.mpr fun e => ?_
  have := nodup_at nm (List.getElem?_eq_getElem hjl) hm e
  omega
section
variable {P : Program} {w : World} {K : PySem.W.Frag} {mg : Str → Option Value} {base : Heap}
theorem ok_sum_by {f C : Addr} {fd : FuncData} (F : Fun K "sum_by" "Parser.sum_by" s_Parser_sum_by f fd) (T : Bare mg) (TP : PTxt K C) : FnOk P w K mg base CX0 1 f fd ["self", "words"] (spSum K C) := by
  refine F.ok sc_Parser_sum_by (fun vs H Q E h => ?_) (fun cdv A outer st H vs Q E hr h => ?_)
  · obtain ⟨p, l, m, s, t, a, n, sy, fi, ms, ss, c, i, v, most, rfl, _⟩ := h
    rfl
  obtain ⟨p, l, m, s, t, a, n, sy, fi, ms, ss, c, i, v, most, rfl, I, hS, hm, hv, h2, q⟩ := h
  obtain ⟨⟨dx, hp⟩, mo, hst, nm, ns⟩ := id I
  have hu := hu_of hr
  refine ⟨_, (pss_cons (ps_if (PW.pt (pw_or (pt_cmpR op_ne (pe_callB call_len_seq (by rfl) T.len PySem.boot_len (pa_cons (pv 1) pa_nil)) pe_int (nomark _)) (pw_or (pt_cmp (pc_dnotin hu (pe_ix ix_list (pv 1) pe_int (fun _ _ => rfl)) (pe_fld (pv 0) rfl))) (pw_or1 (pt_cmpR op_notIn_seq (pe_ix ix_list (pv 1) pe_int (fun _ _ => rfl)) (pe_tup (pa_cons pe_str (pa_cons pe_str pa_nil))) (by rfl))))))
(pss_one (ps_ret pe_non))
pss_nil)
(pss_one (ps_ret (pe_tup (pa_cons (pe_bm PySem.F.plainAttrs_list PySem.F.slot_list_index PySem.F.type_list_index mt_index (pe_callTy (call_list_dK rfl) (by rfl) T.list (by decide +kernel) (pa_cons (pe_fld (pv 0) rfl) pa_nil)) (pa_cons (pe_ix ix_list (pv 1) pe_int (fun _ _ => rfl)) pa_nil)) (pa_cons (pe_callTy call_int_str (by rfl) T.int (by decide +kernel) (pa_cons (pe_ix ix_list (pv 1) pe_int (fun _ _ => rfl)) pa_nil)) pa_nil)))))), ?_⟩
  have hval := valV_kvS nm hm
  refine ⟨_, rfl, a, _, rfl, .inl hS, rfl, _, rfl, iteF ?_⟩
  refine ⟨_, rfl, a, _, 0, _, rfl, rfl, hS, rfl, _, rfl, p, C, dx, _, _, rfl, hp, TP.cl, TP.nMosts, pf_mosts, m, _, rfl, DGet.k (k := Sum.inr c) mo, _, rfl, ?_⟩
  rw [hval]
  refine iteF ?_
  refine ⟨_, rfl, a, _, 1, _, rfl, rfl, hS, rfl, small (by show 2 ≤ 1000; decide), fun T1 hT1 => ?_⟩
  have s0 := same_new hT1 (.tup [.str "1", .str "2"])
  have hin : inV (.str (numS v)) [.str "1", .str "2"] = true := by
    have hd : v = 1 ∨ v = 2 := by omega
    rcases hd with rfl | rfl <;> decide +kernel
  refine ⟨T1, _, rfl, .inr (.inl (.inl upd_same)), rfl, rfl, _, rfl, ?_⟩
  dsimp only
  rw [hin]
  refine iteF ?_
  refine ⟨_, rfl, p, C, dx, _, _, rfl, s0 _ _ hp, TP.cl, TP.nMosts, pf_mosts, m, _, rfl, s0 _ _ mo, fun L hL => ?_⟩
  have s1 := same_new hL (.lst ((kvS ms).map fun kv => kV kv.1))
  have hS1 := (s0.trans s1).seq hS
  refine ⟨.inl ⟨rfl, _, .inl (.inl upd_same)⟩, _, rfl, a, _, 0, _, rfl, rfl, hS1, rfl, L, _, _, i, _, rfl, rfl, .inl (.inl upd_same), rfl, kvS_flat ms, kvS_get hm, beq_self_eq_true _, idx_first nm hm, ?_⟩
  refine ⟨_, rfl, a, _, 1, _, rfl, rfl, hS1, rfl, _, _, rfl, (num_int h2).1, (num_int h2).2, small (by show 2 ≤ 1000; decide), fun b hb => ?_⟩
  exact q b _ ((s0.trans s1).trans (same_new hb _)) ((s0.trans s1).free hb) upd_same
end
/-! ### condition_by -/
def ordOf (sy : Str) : Str := ((Str.empty ++ ("<" : Str)) ++ sy) ++ (">" : Str)
theorem len_app (x y : Str) : (x ++ y).length = x.length + y.length := by
  rw [len_tl, tl_append, List.length_append, ← len_tl, ← len_tl]
inductive Core (sy : Str) (ms : NV) : List Str → Prop where
  | at_ (x : Str) : x.length < 60 → InOrder x (ordOf sy) → Core sy ms ["at", x]
  | eq (c : Str) (i v most : Nat) : ms[i]? = some (c, most) → v ≤ most → most ≤ 2 → c ≠ "not" → PyData.strOk c = true → Core sy ms [c, "=", numS v]
def CondOk (sy : Str) (ms : NV) (ws : List Str) : Prop := Core sy ms ws ∨ ∃ r, ws = ("not" : Str) :: r ∧ Core sy ms r
abbrev s_Parser_condition_by : Stmt := inClass (top 32) 13
abbrev sc_Parser_condition_byN : List Str := ["self", "words", "wanted", "setting"]
theorem sc_Parser_condition_by : FnScope sc_Parser_condition_byN ["self", "words"] (defScope s_Parser_condition_by) := ⟨rfl, rfl, rfl, by decide +kernel, rfl, by decide +kernel, by decide +kernel⟩
def spCond (K : PySem.W.Frag) (C : Addr) : Sp := fun vs H Q _ => ∃ (p l m s t a : Addr) (n : Int) (sy : Str) (fi : Int) (ms ss : NV) (ws : List Str), vs = [.ref p, .ref a] ∧ PIn C H p l m s t n sy fi ms ss ∧ SqL K H a (ws.map V.str) ∧
  CondOk sy ms ws ∧ sy.length ≤ 10 ∧ ∀ (b : Addr) (H' : Hp), Same H H' → Q (.ref b) H'
theorem lay_strs : ∀ zs : List Str, (∀ z ∈ zs, PyData.strOk z = true) → PyData.canLayAll0 (zs.map PyData.str) = true
  | [], _ => rfl
  | z :: r, h => by
    show (PyData.strOk z && PyData.canLayAll0 (r.map PyData.str)) = true
    rw [h z List.mem_cons_self, lay_strs r fun y hy => h y (List.mem_cons_of_mem _ hy)]
    rfl
theorem dep_strs : ∀ zs : List Str, PyData.depthAll (zs.map PyData.str) = 0
  | [] => rfl
  | n :: r => by
    show max 0 (PyData.depthAll (r.map PyData.str)) = 0
    rw [dep_strs r]; rfl
theorem shaped_strs {zs : List Str} (h : ∀ z ∈ zs, PyData.strOk z = true) : SeqAt.shaped (.list (zs.map PyData.str)) = true := by
  unfold SeqAt.shaped
  rw [Bool.and_eq_true]
  exact ⟨lay_strs zs h, decide_eq_true (by show PyData.depthAll (zs.map PyData.str) + 1 ≤ 64; rw [dep_strs]; decide)⟩
theorem core_head {sy : Str} {ms : NV} {ws : List Str} (h : Core sy ms ws) : ∃ x r, ws = x :: r ∧ x ≠ ("not" : Str) ∧ PyData.strOk x = true := by
  cases h with
  | at_ x _ _ => exact ⟨_, _, rfl, by decide +kernel, by decide +kernel⟩
  | eq c i v most _ _ _ h1 h2 => exact ⟨_, _, rfl, h1, h2⟩
theorem take1 (x : Str) (r : List Str) : cutV ((x :: r).map V.str) none (some 1) = ([x] : List Str).map V.str := by
  unfold cutV
  rw [HT.sIx_none, show HT.sIx ((x :: r).map V.str).length ((x :: r).map V.str).length (some 1) = min 1 ((x :: r).map V.str).length from HT.sIx_nat _ _ 1]
  rw [List.length_map, List.length_cons, Nat.min_eq_left (by omega)]
  rfl
theorem drop1 (x : Str) (r : List Str) : cutV ((x :: r).map V.str) (some 1) none = r.map V.str := by
  unfold cutV
  rw [HT.sIx_none, show HT.sIx ((x :: r).map V.str).length 0 (some 1) = min 1 ((x :: r).map V.str).length from HT.sIx_nat _ _ 1]
  rw [List.length_map, List.length_cons, Nat.min_eq_left (by omega), List.map_cons, List.drop_succ_cons, List.drop_zero]
  exact List.take_of_length_le (by rw [List.length_map]; omega)
section
variable {P : Program} {w : World} {K : PySem.W.Frag} {mg : Str → Option Value} {base : Heap}
theorem ok_condition_by {f C : Addr} {fd : FuncData} (F : Fun K "condition_by" "Parser.condition_by" s_Parser_condition_by f fd) (T : Bare mg) (TP : PTxt K C) (CO : Callee P w K mg base 1 "is_in_order" ["word", "order"] spOrder)
    (MS : Meter P w K mg base C 1 "setting_by" ["self", "words"] (spSetting K C)) : FnOk P w K mg base CX0 2 f fd ["self", "words"] (spCond K C) := by
  refine F.ok sc_Parser_condition_by (fun vs H Q E h => ?_) (fun cdv A outer st H vs Q E hr h => ?_)
  · obtain ⟨p, l, m, s, t, a, n, sy, fi, ms, ss, ws, rfl, _⟩ := h
    rfl
  obtain ⟨p, l, m, s, t, a, n, sy, fi, ms, ss, ws, rfl, I, hS, hc, hsy, q⟩ := h
  -- behind the first two rows
  have rest : ∃ tt, PSs (cxOf CX0 P w K mg base sc_Parser_condition_byN "Parser.condition_by" (defScope s_Parser_condition_by) f cdv A outer st H E).nox ((defBody s_Parser_condition_by).drop 2) tt ∧
      ∀ (H2 : Hp) (a2 : Addr) (b : Bool) (cr : List Str), Same H H2 → SqL K H2 a2 (cr.map V.str) → Core sy ms cr → tt { nx := fun _ H' => Q .non H', rt := Q } [some (.ref p), some (.ref a2), some (.bl b), none] H2 := by
    refine ⟨_, (pss_cons (ps_if (PW.pt (pw_and (pt_cmpR op_eq (pe_callB call_len_seq (by rfl) T.len PySem.boot_len (pa_cons (pv 1) pa_nil)) pe_int (nomark _)) (pw_and (pt_cmpR op_eq (pe_ix ix_list (pv 1) pe_int (fun _ _ => rfl)) pe_str (nomark _)) (pw_and1 (pt_val (pe_call CO.ok (hr.mono (by decide)) rfl CO.mg CO.kp CO.b .nil pass0 (pa_cons (pe_ix ix_list (pv 1) pe_int (fun _ _ => rfl)) (pa_cons (pe_joined (.cons pe_str (.cons (pe_fmt (pe_fld (pv 0) rfl)) (.cons pe_str .nil)))) pa_nil))))))))
(pss_one (ps_ret (pe_tup (pa_cons (pv 2) (pa_cons (pe_ix ix_list (pv 1) pe_int (fun _ _ => rfl)) (pa_cons (pe_tup (pa_cons pe_int (pa_cons pe_int pa_nil))) pa_nil))))))
pss_nil)
(pss_cons (ps_if (PW.pt (pw_or (pt_cmpR op_ne (pe_callB call_len_seq (by rfl) T.len PySem.boot_len (pa_cons (pv 1) pa_nil)) pe_int (nomark _)) (pw_or1 (pt_cmpR op_ne (pe_ix ix_list (pv 1) pe_int (fun _ _ => rfl)) pe_str (nomark _)))))
(pss_one (ps_ret pe_non))
pss_nil)
(pss_cons (ps_set (i := 3) sc_Parser_condition_by.nd rfl (Or.inl rfl) (pe_meth (pv 0) TP.cl MS.m MS.ok (hr.mono (by decide)) MS.b .nil pass0 (pa_cons (pe_lst (pa_cons (pe_ix ix_list (pv 1) pe_int (fun _ _ => rfl)) (pa_cons (pe_ix ix_list (pv 1) pe_int (fun _ _ => rfl)) pa_nil))) pa_nil)))
(pss_one (ps_ret (pe_ifExp (pt_cmpR op_isN (pv 3) pe_non (nomark _)) pe_non (pe_tup (pa_cons (pv 2) (pa_cons pe_str (pa_cons (pv 3) pa_nil)))))))))), ?_⟩
    intro H2 a2 b cr s2 hS2 hcore
    have I2 := I.same s2
    obtain ⟨⟨dx, hp⟩, mo, hst, nm, ns⟩ := id I2
    cases hcore with
    | at_ x hx hO =>
      refine ⟨_, rfl, a2, _, rfl, .inl hS2, rfl, _, rfl, iteT ?_⟩
      refine ⟨_, rfl, a2, _, 0, _, rfl, rfl, hS2, rfl, rfl, _, rfl, iteT ?_⟩
      have l0 : (Str.empty ++ ("<" : Str)).length = 1 := by decide +kernel
      have l1 : ((Str.empty ++ ("<" : Str)) ++ sy).length ≤ 11 := by rw [len_app, l0]; omega
      have l2 : (((Str.empty ++ ("<" : Str)) ++ sy) ++ (">" : Str)).length ≤ 12 := by
        have e : (">" : Str).length = 1 := by decide +kernel
        rw [len_app, e]; omega
      refine ⟨_, rfl, a2, _, 1, _, rfl, rfl, hS2, rfl, _, rfl, small (by rw [l0]; decide), _, rfl, p, C, dx, _, _, rfl, hp, TP.cl, TP.nSymbols, pf_symbols, .inl ⟨sy, rfl, small (by omega), sy, rfl, small (by omega), _, rfl, small (by omega), ?_⟩⟩
      refine ⟨x, _, rfl, hx, hO, fun H3 s3 => ⟨true, rfl, iteT ?_⟩⟩
      refine ⟨_, rfl, _, rfl, a2, _, 1, _, rfl, rfl, s3.seq hS2, rfl, small (by show 2 ≤ 1000; decide), fun T0 h0 => ⟨small (by show 3 ≤ 1000; decide), fun B hB => ?_⟩⟩
      exact q B _ (((s2.trans s3).trans (same_new h0 _)).trans (same_new hB _))
    | eq c i v most hm hv h2 hn hok =>
      refine ⟨_, rfl, a2, _, rfl, .inl hS2, rfl, _, rfl, iteF ?_⟩
      refine ⟨_, rfl, a2, _, rfl, .inl hS2, rfl, _, rfl, iteF ?_⟩
      refine ⟨_, rfl, a2, _, 1, _, rfl, rfl, hS2, rfl, rfl, _, rfl, iteF ?_⟩
      refine ⟨_, rfl, p, dx, _, rfl, hp, (by kernel_rfl), _, rfl, a2, _, 0, _, rfl, rfl, hS2, rfl, _, rfl, a2, _, 2, _, rfl, rfl, hS2, rfl, small (by show 2 ≤ 1000; decide), fun L hL => ?_⟩
      have s3 := same_new hL (.lst [.str c, .str (numS v)])
      refine ⟨p, l, m, s, t, L, n, sy, fi, ms, ss, c, i, v, most, rfl, I2.same s3, .inl (.inl upd_same), hm, hv, h2, fun B H4 s4 hB hT => ?_⟩
      refine ⟨_, rfl, rfl, _, rfl, iteF ?_⟩
      refine ⟨_, rfl, _, rfl, small (by show 3 ≤ 1000; decide), fun B2 hB2 => ?_⟩
      exact q B2 _ (((s2.trans s3).trans s4).trans (same_new hB2 _))
  obtain ⟨tt, ht, hrest⟩ := rest
  refine ⟨_, (pss_cons (ps_set (i := 2) sc_Parser_condition_by.nd rfl (Or.inl rfl) (pe_cmpR (op_neD hr.units) (pe_slice sl_list (pv 1) po_none (po_some pe_int)) (pe_lst (pa_cons pe_str pa_nil)) (nomark _)))
(pss_cons (ps_set (i := 1) sc_Parser_condition_by.nd rfl (Or.inl rfl) (pe_ifExp (pt_val (pv 2)) (pv 1) (pe_slice sl_list (pv 1) (po_some pe_int) po_none))) ht)), ?_⟩
  have okN : PyData.strOk ("not" : Str) = true := by decide +kernel
  have hd : ∃ x r, ws = x :: r ∧ PyData.strOk x = true := by
    rcases hc with h | ⟨r, rfl, h⟩
    · obtain ⟨x, r, e, _, o⟩ := core_head h
      exact ⟨x, r, e, o⟩
    · exact ⟨_, r, rfl, okN⟩
  obtain ⟨x, r, rfl, ox⟩ := hd
  refine ⟨_, rfl, 1, rfl, a, _, rfl, hS, fun A1 hA1 => ?_⟩
  rw [take1]
  have s1 := same_new hA1 (.lst (([x] : List Str).map V.str))
  refine ⟨small (by show 1 ≤ 1000; decide), fun A2 hA2 => ?_⟩
  have s2 := same_new hA2 (.lst [.str "not"])
  refine ⟨.list (([x] : List Str).map .str), .list (([("not" : Str)] : List Str).map .str), .lst (.inl (.inl (s2 _ _ upd_same))) (dp_strs _), .lst (.inl (.inl upd_same)) (dp_strs [("not" : Str)]), shaped_strs (by simpa using ox), shaped_strs (by simpa using okN), ?_⟩
  have ev : PyData.eqv (.list (([x] : List Str).map .str)) (.list (([("not" : Str)] : List Str).map .str)) = decide (([x] : List Str) = [("not" : Str)]) := eqv_strs _ _
  rw [ev]
  have s12 := s1.trans s2
  rcases hc with h | ⟨r', e, h⟩
  · obtain ⟨x', r', e, hne, _⟩ := core_head h
    have e1 : x = x' := (List.cons.inj e).1
    have hf : decide (([x] : List Str) = [("not" : Str)]) = false := decide_eq_false fun z => hne (by rw [← e1]; exact (List.cons.inj z).1)
    rw [hf]
    refine ⟨_, rfl, _, rfl, iteT ?_⟩
    exact ⟨_, rfl, hrest _ a _ _ s12 (s12.seq hS) h⟩
  · have e1 : x = "not" := (List.cons.inj e).1
    have e2 : r = r' := (List.cons.inj e).2
    subst e1
    subst e2
    rw [decide_eq_true rfl]
    refine ⟨_, rfl, _, rfl, iteF ?_⟩
    refine ⟨_, rfl, 1, rfl, a, _, rfl, s12.seq hS, fun A3 hA3 => ?_⟩
    rw [drop1]
    exact hrest _ A3 _ _ (s12.trans (same_new hA3 _)) (.inl (.inl upd_same)) h
end
end Fh
set_option Elab.async false
set_option linter.all false
set_option maxRecDepth 100000
set_option maxHeartbeats 2000000
namespace Fh
open PySem PySem.Spec PyProof.Rows L2 TL
theorem pt_weak {X : Cx} {e : Expr} {t t' : TT} (h : PT X e t) (i : ∀ σ H Q, t' σ H Q → t σ H Q) : PT X e t' := ⟨fun pins s σ H Q I q => h.run pins s σ H Q I (i _ _ _ q)⟩
/-- x in a tuple of data -/
def rInDT (K : PySem.W.Frag) : R2 := fun x y H Q => ∃ d ds, Dp K H x d ∧ Dp K H y (.tuple ds) ∧ SeqAt.shaped d = true ∧ SeqAt.shaped (.tuple ds) = true ∧ Q (.bl (ds.any fun z => PyData.eqv z d)) H
theorem op_inDT {X : Cx} (hu : X.A.units + 65 < cLine) : OpR X (compareOp .In) (rInDT X.K) := by
  intro pins s σ H x y v u Q I rx ry h
  obtain ⟨d, ds, h1, h2, h3, h4, q⟩ := h
  obtain ⟨as, r1⟩ := Dp.reads I d x v h1 rx
  obtain ⟨bs, r2⟩ := Dp.reads I (.tuple ds) y u h2 ry
  have z := SeqAt.depth_of_shaped h3
  exact SeqAt.in_tuple_reads r2 r1 (SeqAt.canLay_of_shaped h4) (SeqAt.canLay_of_shaped h3) (Nat.lt_of_le_of_lt (by omega) hu) ⟨.bl _, H, I, rfl, q⟩
section
variable {X : Cx} {i : Nat} {e : Expr} {lit lit2 : Str} {k : Nat} {p1 p2 p3 p4 p5 p6 p7 : Pos} {o1 o2 o3 : Nat}
/-- name == ["lit"], the name a list of one text -/
def tWord (K : PySem.W.Frag) (i : Nat) (lit : Str) : TT := fun σ H Q => ∃ (a : Addr) (x : Str), σ[i]? = some (some (.ref a)) ∧ SqL K H a [.str x] ∧ PyData.strOk x = true ∧ PyData.strOk lit = true ∧ ∀ H', Same H H' → Q (decide (x = lit)) H'
theorem one_str {x y : Str} : decide (([x] : List Str) = [y]) = decide (x = y) := by
  by_cases e : x = y
  · subst e; simp
  · rw [decide_eq_false e, decide_eq_false fun z => e (List.cons.inj z).1]
theorem pt_word (hu : X.A.units + 64 < cLine) (hn : PE X e (tVar i)) : PT X (.Compare e [.Eq] [.List [.Constant (.str lit) o1 p2] p3] p4) (tWord X.K i lit) := by
  refine pt_weak (pt_cmpR (op_eqD hu) hn (pe_lst (pa_cons pe_str pa_nil)) (nomark _)) fun σ H Q h => ?_
  obtain ⟨a, x, h1, h2, h3, h4, q⟩ := h
  refine ⟨_, h1, small (by show 1 ≤ 1000; decide), fun A hA => ?_⟩
  have s1 := same_new hA (.lst [.str lit])
  refine ⟨.list (([x] : List Str).map .str), .list (([lit] : List Str).map .str), .lst (s1.seq h2) (dp_strs [x]), .lst (.inl (.inl upd_same)) (dp_strs [lit]), shaped_strs (by simpa using h3), shaped_strs (by simpa using h4), ?_⟩
  refine ⟨_, (congrArg V.bl (Eq.trans (eqv_strs [x] [lit]) one_str)), ?_⟩
  exact q _ s1
def tWord2 (K : PySem.W.Frag) (i : Nat) (l1 l2 : Str) : TT := fun σ H Q => ∃ (a : Addr) (x : Str), σ[i]? = some (some (.ref a)) ∧ SqL K H a [.str x] ∧ PyData.strOk x = true ∧ PyData.strOk l1 = true ∧ PyData.strOk l2 = true ∧ ∀ H', Same H H' → Q (decide (x = l1) || decide (x = l2)) H'
theorem two_any (x l1 l2 : Str) : ([PyData.list ([l1].map .str), .list ([l2].map .str)]).any (fun z => PyData.eqv z (.list ([x].map .str))) = (decide (x = l1) || decide (x = l2)) := by
  have h : ∀ l : Str, PyData.eqv (.list ([l].map .str)) (.list ([x].map .str)) = decide (x = l) := fun l => by
    refine Eq.trans (eqv_strs [l] [x]) (Eq.trans one_str ?_)
    by_cases e : x = l
    · subst e; rfl
    · rw [decide_eq_false e, decide_eq_false fun z => e z.symm]
  rw [List.any_cons, List.any_cons, List.any_nil, Bool.or_false, h, h]
theorem pt_word2 (hu : X.A.units + 65 < cLine) (hn : PE X e (tVar i)) : PT X (.Compare e [.In] [.Tuple [.List [.Constant (.str lit) o1 p1] p2, .List [.Constant (.str lit2) o2 p3] p4] k p5] p6) (tWord2 X.K i lit lit2) := by
  refine pt_weak (pt_cmpR (op_inDT hu) hn (pe_tup (pa_cons (pe_lst (pa_cons pe_str pa_nil)) (pa_cons (pe_lst (pa_cons pe_str pa_nil)) pa_nil))) (by rfl)) fun σ H Q h => ?_
  obtain ⟨a, x, h1, h2, h3, h4, h5, q⟩ := h
  refine ⟨_, h1, small (by show 1 ≤ 1000; decide), fun A hA => ⟨small (by show 1 ≤ 1000; decide), fun B hB => ⟨small (by show 2 ≤ 1000; decide), fun C hC => ?_⟩⟩⟩
  have s1 := same_new hA (.lst [.str lit])
  have s2 := same_new hB (.lst [.str lit2])
  have s3 := same_new hC (.tup [.ref A, .ref B])
  refine ⟨.list (([x] : List Str).map .str), [.list (([lit] : List Str).map .str), .list (([lit2] : List Str).map .str)], .lst (((s1.trans s2).trans s3).seq h2) (dp_strs [x]),
    .tup (.inl (.inl upd_same)) (.cons (.lst (.inl (.inl ((s2.trans s3) _ _ upd_same))) (dp_strs [lit])) (.cons (.lst (.inl (.inl (s3 _ _ upd_same))) (dp_strs [lit2])) .nil)), shaped_strs (by simpa using h3), ?_, ?_⟩
  · unfold SeqAt.shaped
    rw [Bool.and_eq_true]
    refine ⟨?_, decide_eq_true (by show max (PyData.depthAll ([lit].map PyData.str) + 1) (max (PyData.depthAll ([lit2].map PyData.str) + 1) 0) + 1 ≤ 64; rw [dep_strs, dep_strs]; decide)⟩
    show (PyData.canLayAll0 ([lit].map PyData.str) && (PyData.canLayAll0 ([lit2].map PyData.str) && true)) = true
    rw [lay_strs [lit] (by simpa using h4), lay_strs [lit2] (by simpa using h5)]
    rfl
  · exact ⟨_, congrArg V.bl (two_any x lit lit2), q _ ((s1.trans s2).trans s3)⟩
end
/-! ### given_by -/
inductive Giv (sy : Str) (ms ss : NV) : List Str → Prop where
  | set (c : Str) (i v most : Nat) : ms[i]? = some (c, most) → v ≤ most → most ≤ 2 → Giv sy ms ss ["set", c, numS v]
  | add (c : Str) (i v most : Nat) : ms[i]? = some (c, most) → 1 ≤ v → v ≤ 2 → Giv sy ms ss ["add", c, numS v]
  | if_ (r : List Str) : CondOk sy ms r → Giv sy ms ss ("if" :: r)
  | while_ (r : List Str) : CondOk sy ms r → Giv sy ms ss ("while" :: r)
  | write (z : Str) : z.length = 1 → ofLetters z = true → Giv sy ms ss ["write", z]
  | do_ (x : Str) (i n : Nat) : ss[i]? = some (x, n) → Giv sy ms ss ["do", x]
  | right : Giv sy ms ss ["right"]
  | left : Giv sy ms ss ["left"]
  | copy : Giv sy ms ss ["copy"]
  | stop : Giv sy ms ss ["stop"]
def GvOk (x : Str) (g : V) : Prop := g ≠ .non ∧ (x = "write" → ∃ z : Str, g = .str z)
abbrev s_Parser_given_by : Stmt := inClass (top 32) 10
abbrev sc_Parser_given_byN : List Str := ["self", "words", "word", "rest"]
theorem sc_Parser_given_by : FnScope sc_Parser_given_byN ["self", "words"] (defScope s_Parser_given_by) := ⟨rfl, rfl, rfl, by decide +kernel, rfl, by decide +kernel, by decide +kernel⟩
def spGiven (K : PySem.W.Frag) (C : Addr) : Sp := fun vs H Q _ => ∃ (p l m s t a : Addr) (n : Int) (sy : Str) (fi : Int) (ms ss : NV) (x : Str) (r : List Str), vs = [.ref p, .ref a] ∧ PIn C H p l m s t n sy fi ms ss ∧ SqL K H a ((x :: r).map V.str) ∧
  Giv sy ms ss (x :: r) ∧ sy.length ≤ 10 ∧ ∀ (g : V) (H' : Hp), Same H H' → GvOk x g → Q g H'
theorem giv_ok {sy : Str} {ms ss : NV} {x : Str} {r : List Str} (h : Giv sy ms ss (x :: r)) : PyData.strOk x = true := by
  cases h <;> decide +kernel
section
variable {P : Program} {w : World} {K : PySem.W.Frag} {mg : Str → Option Value} {base : Heap}
theorem ok_given_by {f C : Addr} {fd : FuncData} (F : Fun K "given_by" "Parser.given_by" s_Parser_given_by f fd) (T : Bare mg) (T2 : Consts2 K mg) (TP : PTxt K C) (CL : Callee P w K mg base 1 "is_of_letters" ["word"] (spText1 ofLetters))
    (MS : Meter P w K mg base C 1 "setting_by" ["self", "words"] (spSetting K C)) (MA : Meter P w K mg base C 1 "sum_by" ["self", "words"] (spSum K C)) (MC : Meter P w K mg base C 2 "condition_by" ["self", "words"] (spCond K C)) : FnOk P w K mg base CX0 3 f fd ["self", "words"] (spGiven K C) := by
  refine F.ok sc_Parser_given_by (fun vs H Q E h => ?_) (fun cdv A outer st H vs Q E hr h => ?_)
  · obtain ⟨p, l, m, s, t, a, n, sy, fi, ms, ss, x, r, rfl, _⟩ := h
    rfl
  obtain ⟨p, l, m, s, t, a, n, sy, fi, ms, ss, x, r, rfl, I, hS, hg, hsy, q⟩ := h
  have hu := hu_of hr
  have hu65 : A.units + 3 + 65 < cLine := by
    have := hr.un
    have e : (A.deeper (envOfC "Parser.given_by" (defScope s_Parser_given_by) st.heap.objs.size f cdv)).units = A.units + 3 := rfl
    rw [e] at this
    omega
  obtain ⟨aB, gB, sB⟩ := T2.bare
  have ox := giv_ok hg
  refine ⟨_, (pss_cons (ps_par (i := 2) (j := 3) (by rfl) sc_Parser_given_by.nd rfl rfl (by decide) rfl rfl (pa_cons (pe_slice sl_list (pv 1) po_none (po_some pe_int)) (pa_cons (pe_slice sl_list (pv 1) (po_some pe_int) po_none) pa_nil)) (by rfl))
(pss_cons (ps_if (pt_word hr.units (pv 2))
(pss_one (ps_ret (pe_meth (pv 0) TP.cl MS.m MS.ok (hr.mono (by decide)) MS.b .nil pass0 (pa_cons (pv 3) pa_nil))))
pss_nil)
(pss_cons (ps_if (pt_word hr.units (pv 2))
(pss_one (ps_ret (pe_meth (pv 0) TP.cl MA.m MA.ok (hr.mono (by decide)) MA.b .nil pass0 (pa_cons (pv 3) pa_nil))))
pss_nil)
(pss_cons (ps_if (pt_word2 hu65 (pv 2))
(pss_one (ps_ret (pe_meth (pv 0) TP.cl MC.m MC.ok (hr.mono (by decide)) MC.b .nil pass0 (pa_cons (pv 3) pa_nil))))
pss_nil)
(pss_cons (ps_if (PW.pt (pw_and (pt_word hr.units (pv 2)) (pw_and1 (pt_cmpR op_eq (pe_callB call_len_seq (by rfl) T.len PySem.boot_len (pa_cons (pv 3) pa_nil)) pe_int (nomark _)))))
(pss_one (ps_ret (pe_ifExp (PW.pt (pw_and (pt_cmpR op_eq (pe_callB call_len_str (by rfl) T.len PySem.boot_len (pa_cons (pe_ix ix_list (pv 3) pe_int (fun _ _ => rfl)) pa_nil)) pe_int (nomark _)) (pw_and1 (pt_val (pe_call CL.ok (hr.mono (by decide)) rfl CL.mg CL.kp CL.b .nil pass0 (pa_cons (pe_ix ix_list (pv 3) pe_int (fun _ _ => rfl)) pa_nil)))))) (pe_ix ix_list (pv 3) pe_int (fun _ _ => rfl)) pe_non)))
pss_nil)
(pss_cons (ps_if (PW.pt (pw_and (pt_word hr.units (pv 2)) (pw_and1 (pt_cmpR op_eq (pe_callB call_len_seq (by rfl) T.len PySem.boot_len (pa_cons (pv 3) pa_nil)) pe_int (nomark _)))))
(pss_one (ps_ret (pe_dget1 hu (pe_fld (pv 0) rfl) (pe_ix ix_list (pv 3) pe_int (fun _ _ => rfl)) ⟨rfl, rfl, rfl, rfl⟩)))
pss_nil)
(pss_one (ps_ret (pe_ifExp (PW.pt (pw_and (pt_cmpR op_eq (pe_callB call_len_seq (by rfl) T.len PySem.boot_len (pa_cons (pv 1) pa_nil)) pe_int (nomark _)) (pw_and1 (pt_cmpR op_in_seq (pe_ix ix_list (pv 1) pe_int (fun _ _ => rfl)) (pe_glob (v := .ref aB) rfl gB rfl) (by rfl))))) pe_str pe_non))))))))), ?_⟩
  refine ⟨_, rfl, 1, rfl, a, _, rfl, hS, fun A1 hA1 => ?_⟩
  rw [take1]
  have s1 := same_new hA1 (.lst (([x] : List Str).map V.str))
  refine ⟨_, rfl, 1, rfl, a, _, rfl, s1.seq hS, fun A2 hA2 => ?_⟩
  rw [drop1]
  have s2 := same_new hA2 (.lst (r.map V.str))
  have s12 := s1.trans s2
  refine ⟨_, _, rfl, ?_⟩
  have hW : SqL K (upd (upd H A1 (.lst (([x] : List Str).map V.str))) A2 (.lst (r.map V.str))) A1 [.str x] := .inl (.inl (s2 _ _ upd_same))
  have hR : SqL K (upd (upd H A1 (.lst (([x] : List Str).map V.str))) A2 (.lst (r.map V.str))) A2 (r.map V.str) := .inl (.inl upd_same)
  generalize upd (upd H A1 (.lst (([x] : List Str).map V.str))) A2 (.lst (r.map V.str)) = H0 at s12 hW hR ⊢
  -- set?
  have ne : ∀ {u v : Str}, (decide (u = v)) = false → u ≠ v := fun h z => by rw [decide_eq_true z] at h; cases h
  refine ⟨A1, x, rfl, hW, ox, by decide +kernel, fun H1 t1 => ?_⟩
  cases hg with
  | set c i v most h1 h2 h3 =>
    refine iteT ?_
    have I1 := I.same (s12.trans t1)
    obtain ⟨⟨dx, hp⟩, _⟩ := id I1
    refine ⟨_, rfl, p, dx, _, rfl, hp, (by kernel_rfl), _, rfl, p, l, m, s, t, A2, n, sy, fi, ms, ss, c, i, v, most, rfl, I1, t1.seq hR, h1, h2, h3, fun B H4 s4 hB hT => ?_⟩
    exact q _ _ ((s12.trans t1).trans s4) ⟨(by intro z; cases z), fun z => absurd z (by decide +kernel)⟩
  | add c i v most h1 h2 h3 =>
    refine iteF ?_
    refine ⟨A1, _, rfl, t1.seq hW, by decide +kernel, by decide +kernel, fun H2 t2 => iteT ?_⟩
    have T2' := t1.trans t2
    have I1 := I.same (s12.trans T2')
    obtain ⟨⟨dx, hp⟩, _⟩ := id I1
    refine ⟨_, rfl, p, dx, _, rfl, hp, (by kernel_rfl), _, rfl, p, l, m, s, t, A2, n, sy, fi, ms, ss, c, i, v, most, rfl, I1, T2'.seq hR, h1, h2, h3, fun B H4 s4 hB hT => ?_⟩
    exact q _ _ ((s12.trans T2').trans s4) ⟨(by intro z; cases z), fun z => absurd z (by decide +kernel)⟩
  | if_ r hc =>
    refine iteF ?_
    refine ⟨A1, _, rfl, t1.seq hW, by decide +kernel, by decide +kernel, fun H2 t2 => iteF ?_⟩
    refine ⟨A1, _, rfl, (t1.trans t2).seq hW, by decide +kernel, by decide +kernel, by decide +kernel, fun H3 t3 => iteT ?_⟩
    have T2' := (t1.trans t2).trans t3
    have I1 := I.same (s12.trans T2')
    obtain ⟨⟨dx, hp⟩, _⟩ := id I1
    refine ⟨_, rfl, p, dx, _, rfl, hp, (by kernel_rfl), _, rfl, p, l, m, s, t, A2, n, sy, fi, ms, ss, r, rfl, I1, T2'.seq hR, hc, hsy, fun B H4 s4 => ?_⟩
    exact q _ _ ((s12.trans T2').trans s4) ⟨(by intro z; cases z), fun z => absurd z (by decide +kernel)⟩
  | while_ r hc =>
    refine iteF ?_
    refine ⟨A1, _, rfl, t1.seq hW, by decide +kernel, by decide +kernel, fun H2 t2 => iteF ?_⟩
    refine ⟨A1, _, rfl, (t1.trans t2).seq hW, by decide +kernel, by decide +kernel, by decide +kernel, fun H3 t3 => iteT ?_⟩
    have T2' := (t1.trans t2).trans t3
    have I1 := I.same (s12.trans T2')
    obtain ⟨⟨dx, hp⟩, _⟩ := id I1
    refine ⟨_, rfl, p, dx, _, rfl, hp, (by kernel_rfl), _, rfl, p, l, m, s, t, A2, n, sy, fi, ms, ss, r, rfl, I1, T2'.seq hR, hc, hsy, fun B H4 s4 => ?_⟩
    exact q _ _ ((s12.trans T2').trans s4) ⟨(by intro z; cases z), fun z => absurd z (by decide +kernel)⟩
  | write z hz hl =>
    refine iteF ?_
    refine ⟨A1, _, rfl, t1.seq hW, by decide +kernel, by decide +kernel, fun H2 t2 => iteF ?_⟩
    refine ⟨A1, _, rfl, (t1.trans t2).seq hW, by decide +kernel, by decide +kernel, by decide +kernel, fun H3 t3 => iteF ?_⟩
    have T3 := (t1.trans t2).trans t3
    refine ⟨A1, _, rfl, T3.seq hW, by decide +kernel, by decide +kernel, fun H4 t4 => iteT ?_⟩
    have T4 := T3.trans t4
    refine ⟨_, rfl, A2, _, rfl, .inl (T4.seq hR), rfl, _, rfl, iteT ?_⟩
    refine ⟨_, rfl, A2, _, 0, _, rfl, rfl, T4.seq hR, rfl, _, rfl, small (by omega), rfl, _, rfl, ?_⟩
    have e1 : decide (V.int ((z.length : Nat) : Int) = V.int 1) = true := decide_eq_true (by rw [hz]; rfl)
    rw [e1]
    refine iteT ?_
    refine ⟨_, rfl, A2, _, 0, _, rfl, rfl, T4.seq hR, rfl, z, rfl, by omega, fun H5 t5 => ?_⟩
    rw [hl]
    refine ⟨true, rfl, iteT ?_⟩
    refine ⟨_, rfl, A2, _, 0, _, rfl, rfl, (T4.trans t5).seq hR, rfl, ?_⟩
    exact q _ _ ((s12.trans T4).trans t5) ⟨(by intro z; cases z), fun _ => ⟨z, rfl⟩⟩
  | do_ y i ln hy =>
    refine iteF ?_
    refine ⟨A1, _, rfl, t1.seq hW, by decide +kernel, by decide +kernel, fun H2 t2 => iteF ?_⟩
    refine ⟨A1, _, rfl, (t1.trans t2).seq hW, by decide +kernel, by decide +kernel, by decide +kernel, fun H3 t3 => iteF ?_⟩
    have T3 := (t1.trans t2).trans t3
    refine ⟨A1, _, rfl, T3.seq hW, by decide +kernel, by decide +kernel, fun H4 t4 => iteF (iteF ?_)⟩
    have T4 := T3.trans t4
    refine ⟨A1, _, rfl, T4.seq hW, by decide +kernel, by decide +kernel, fun H5 t5 => iteT ?_⟩
    have T5 := T4.trans t5
    refine ⟨_, rfl, A2, _, rfl, .inl (T5.seq hR), rfl, _, rfl, iteT ?_⟩
    obtain ⟨⟨dx, hp⟩, mo, hst, nm, ns⟩ := I.same (s12.trans T5)
    refine ⟨_, rfl, p, C, dx, _, _, rfl, hp, TP.cl, TP.nStarts, pf_starts, s, rfl, ?_, _, rfl, A2, _, 0, _, rfl, rfl, T5.seq hR, rfl, some (.int (ln : Int)), .inl ⟨_, Sum.inr y, .inl hst, rfl, (valV_kvS ns hy).symm⟩, ?_⟩
    · exact .inl ⟨_, .inl hst⟩
    · exact q _ _ (s12.trans T5) ⟨(by intro z; cases z), fun z => absurd z (by decide +kernel)⟩
  | right =>
    refine iteF ?_
    refine ⟨A1, _, rfl, t1.seq hW, by decide +kernel, by decide +kernel, fun H2 t2 => iteF ?_⟩
    refine ⟨A1, _, rfl, (t1.trans t2).seq hW, by decide +kernel, by decide +kernel, by decide +kernel, fun H3 t3 => iteF ?_⟩
    have T3 := (t1.trans t2).trans t3
    refine ⟨A1, _, rfl, T3.seq hW, by decide +kernel, by decide +kernel, fun H4 t4 => iteF (iteF ?_)⟩
    have T4 := T3.trans t4
    refine ⟨A1, _, rfl, T4.seq hW, by decide +kernel, by decide +kernel, fun H5 t5 => iteF (iteF ?_)⟩
    have T5 := s12.trans (T4.trans t5)
    refine ⟨_, rfl, a, _, rfl, .inl (T5.seq hS), rfl, _, rfl, iteT ?_⟩
    refine ⟨_, rfl, a, _, 0, _, rfl, rfl, T5.seq hS, rfl, aB, _, rfl, .inr (sB _), rfl, rfl, _, rfl, ?_⟩
    refine iteT ?_
    exact q _ _ T5 ⟨(by intro z; cases z), fun z => absurd z (by decide +kernel)⟩
  | left =>
    refine iteF ?_
    refine ⟨A1, _, rfl, t1.seq hW, by decide +kernel, by decide +kernel, fun H2 t2 => iteF ?_⟩
    refine ⟨A1, _, rfl, (t1.trans t2).seq hW, by decide +kernel, by decide +kernel, by decide +kernel, fun H3 t3 => iteF ?_⟩
    have T3 := (t1.trans t2).trans t3
    refine ⟨A1, _, rfl, T3.seq hW, by decide +kernel, by decide +kernel, fun H4 t4 => iteF (iteF ?_)⟩
    have T4 := T3.trans t4
    refine ⟨A1, _, rfl, T4.seq hW, by decide +kernel, by decide +kernel, fun H5 t5 => iteF (iteF ?_)⟩
    have T5 := s12.trans (T4.trans t5)
    refine ⟨_, rfl, a, _, rfl, .inl (T5.seq hS), rfl, _, rfl, iteT ?_⟩
    refine ⟨_, rfl, a, _, 0, _, rfl, rfl, T5.seq hS, rfl, aB, _, rfl, .inr (sB _), rfl, rfl, _, rfl, ?_⟩
    refine iteT ?_
    exact q _ _ T5 ⟨(by intro z; cases z), fun z => absurd z (by decide +kernel)⟩
  | copy =>
    refine iteF ?_
    refine ⟨A1, _, rfl, t1.seq hW, by decide +kernel, by decide +kernel, fun H2 t2 => iteF ?_⟩
    refine ⟨A1, _, rfl, (t1.trans t2).seq hW, by decide +kernel, by decide +kernel, by decide +kernel, fun H3 t3 => iteF ?_⟩
    have T3 := (t1.trans t2).trans t3
    refine ⟨A1, _, rfl, T3.seq hW, by decide +kernel, by decide +kernel, fun H4 t4 => iteF (iteF ?_)⟩
    have T4 := T3.trans t4
    refine ⟨A1, _, rfl, T4.seq hW, by decide +kernel, by decide +kernel, fun H5 t5 => iteF (iteF ?_)⟩
    have T5 := s12.trans (T4.trans t5)
    refine ⟨_, rfl, a, _, rfl, .inl (T5.seq hS), rfl, _, rfl, iteT ?_⟩
    refine ⟨_, rfl, a, _, 0, _, rfl, rfl, T5.seq hS, rfl, aB, _, rfl, .inr (sB _), rfl, rfl, _, rfl, ?_⟩
    refine iteT ?_
    exact q _ _ T5 ⟨(by intro z; cases z), fun z => absurd z (by decide +kernel)⟩
  | stop =>
    refine iteF ?_
    refine ⟨A1, _, rfl, t1.seq hW, by decide +kernel, by decide +kernel, fun H2 t2 => iteF ?_⟩
    refine ⟨A1, _, rfl, (t1.trans t2).seq hW, by decide +kernel, by decide +kernel, by decide +kernel, fun H3 t3 => iteF ?_⟩
    have T3 := (t1.trans t2).trans t3
    refine ⟨A1, _, rfl, T3.seq hW, by decide +kernel, by decide +kernel, fun H4 t4 => iteF (iteF ?_)⟩
    have T4 := T3.trans t4
    refine ⟨A1, _, rfl, T4.seq hW, by decide +kernel, by decide +kernel, fun H5 t5 => iteF (iteF ?_)⟩
    have T5 := s12.trans (T4.trans t5)
    refine ⟨_, rfl, a, _, rfl, .inl (T5.seq hS), rfl, _, rfl, iteT ?_⟩
    refine ⟨_, rfl, a, _, 0, _, rfl, rfl, T5.seq hS, rfl, aB, _, rfl, .inr (sB _), rfl, rfl, _, rfl, ?_⟩
    refine iteT ?_
    exact q _ _ T5 ⟨(by intro z; cases z), fun z => absurd z (by decide +kernel)⟩
end
end Fh
set_option Elab.async false
set_option linter.all false
set_option maxRecDepth 100000
set_option maxHeartbeats 2000000
namespace Fh
open PySem L2 TL
/-! ### statements as objects -/
def sf (ln : Int) (wd : Str) (g : V) (li lo : Addr) (fo : Int) : List (Str × V) :=
  [("line", .int ln), ("word", .str wd), ("given", g), ("inside", .ref li), ("otherwise", .ref lo), ("follow", .int fo)]
section
variable {ln fo : Int} {wd : Str} {g : V} {li lo : Addr}
theorem sf_line : (sf ln wd g li lo fo).lookup ("line" : Str) = some (V.int ln) := by kernel_rfl
theorem sf_word : (sf ln wd g li lo fo).lookup ("word" : Str) = some (V.str wd) := by kernel_rfl
theorem sf_given : (sf ln wd g li lo fo).lookup ("given" : Str) = some g := by kernel_rfl
theorem sf_inside : (sf ln wd g li lo fo).lookup ("inside" : Str) = some (V.ref li) := by kernel_rfl
theorem sf_otherwise : (sf ln wd g li lo fo).lookup ("otherwise" : Str) = some (V.ref lo) := by kernel_rfl
theorem sf_follow : (sf ln wd g li lo fo).lookup ("follow" : Str) = some (V.int fo) := by kernel_rfl
theorem put_inside {z : Addr} : putF "inside" (.ref z) (sf ln wd g li lo fo) = sf ln wd g z lo fo := by kernel_rfl
theorem put_otherwise {z : Addr} : putF "otherwise" (.ref z) (sf ln wd g li lo fo) = sf ln wd g li z fo := by kernel_rfl
theorem put_follow {k : Int} : putF "follow" (.int k) (sf ln wd g li lo fo) = sf ln wd g li lo k := by kernel_rfl
end
structure STxt (K : PySem.W.Frag) (C : Addr) : Prop where
  cl : Cls K C
  nLine : NoAttr K C "line"
  nWord : NoAttr K C "word"
  nGiven : NoAttr K C "given"
  nInside : NoAttr K C "inside"
  nOtherwise : NoAttr K C "otherwise"
  nFollow : NoAttr K C "follow"
abbrev s_Statement___init__ : Stmt := inClass (top 19) 0
abbrev sc_Statement___init__N : List Str := ["self", "line", "word", "given"]
theorem sc_Statement___init__ : FnScope sc_Statement___init__N ["self", "line", "word", "given"] (defScope s_Statement___init__) := ⟨rfl, rfl, rfl, by decide +kernel, rfl, by decide +kernel, by decide +kernel⟩
def spStInit (CS : Addr) : Sp := fun vs H Q _ => ∃ (a dx : Addr) (ln : Int) (wd : Str) (g : V), vs = [.ref a, .int ln, .str wd, g] ∧ H a = some (.ins CS dx []) ∧
  ∀ (li lo : Addr) (H' : Hp), H li = none → H lo = none → li ≠ lo → H' a = some (.ins CS dx (sf ln wd g li lo 0)) → H' li = some (.lst []) → H' lo = some (.lst []) → (∀ b o, H b = some o → b ≠ a → H' b = some o) → Q .non H'
section
variable {P : Program} {w : World} {K : PySem.W.Frag} {mg : Str → Option Value} {base : Heap}
theorem ok_st_init {f C : Addr} {fd : FuncData} (F : Fun K "__init__" "Statement.__init__" s_Statement___init__ f fd) (T : STxt K C) : FnOk P w K mg base CX0 1 f fd ["self", "line", "word", "given"] (spStInit C) := by
  refine F.ok sc_Statement___init__ (fun vs H Q E h => ?_) (fun cdv A outer st H vs Q E hr h => ?_)
  · obtain ⟨a, dx, ln, wd, g, rfl, _⟩ := h
    rfl
  obtain ⟨a, dx, ln, wd, g, rfl, ha, q⟩ := h
  refine ⟨_, (pss_cons (ps_fld (pv 0) (pv 1) rfl)
(pss_cons (ps_fld (pv 0) (pv 2) rfl)
(pss_cons (ps_fld (pv 0) (pv 3) rfl)
(pss_cons (ps_fld (pv 0) (pe_lst pa_nil) rfl)
(pss_cons (ps_fld (pv 0) (pe_lst pa_nil) rfl)
(pss_one (ps_fld (pv 0) pe_int rfl))))))), ?_⟩
  refine ⟨_, rfl, _, rfl, a, C, dx, _, rfl, ha, T.cl, T.nLine, (by show 0 < 1000; decide), ?_⟩
  refine ⟨_, rfl, _, rfl, a, C, dx, _, rfl, upd_same, T.cl, T.nWord, (by show 1 < 1000; decide), ?_⟩
  refine ⟨_, rfl, _, rfl, a, C, dx, _, rfl, upd_same, T.cl, T.nGiven, (by show 2 < 1000; decide), ?_⟩
  refine ⟨small (by show 0 ≤ 1000; decide), fun li hli => ?_⟩
  have n1 : a ≠ li := ne_of_none upd_same hli
  refine ⟨_, rfl, a, C, dx, _, rfl, (by rw [upd_ne n1]; exact upd_same), T.cl, T.nInside, (by show 3 < 1000; decide), ?_⟩
  refine ⟨small (by show 0 ≤ 1000; decide), fun lo hlo => ?_⟩
  have n2 : a ≠ lo := ne_of_none upd_same hlo
  refine ⟨_, rfl, a, C, dx, _, rfl, (by rw [upd_ne n2]; exact upd_same), T.cl, T.nOtherwise, (by show 4 < 1000; decide), ?_⟩
  refine ⟨_, rfl, a, C, dx, _, rfl, upd_same, T.cl, T.nFollow, (by show 5 < 1000; decide), ?_⟩
  have n3 : li ≠ lo := ne_of_none (by rw [upd_ne n1.symm]; exact upd_same) hlo
  refine q li lo _ ?_ ?_ n3 ?_ ?_ ?_ ?_
  · rw [upd_ne n1.symm, upd_ne n1.symm, upd_ne n1.symm] at hli
    exact hli
  · rw [upd_ne n2.symm, upd_ne n3.symm, upd_ne n2.symm, upd_ne n2.symm, upd_ne n2.symm] at hlo
    exact hlo
  · exact Eq.trans upd_same (congrArg (fun l => some (HO.ins C dx l)) (by kernel_rfl))
  · rw [upd_ne n1.symm, upd_ne n1.symm, upd_ne n3, upd_ne n1.symm]; exact upd_same
  · rw [upd_ne n2.symm, upd_ne n2.symm]; exact upd_same
  · intro b o hb nb
    rw [upd_ne nb, upd_ne nb]
    have hb1 : upd (upd (upd (upd (upd H a (.ins C dx (putF "line" (.int ln) []))) a (.ins C dx (putF "word" (.str wd) (putF "line" (.int ln) [])))) a (.ins C dx (putF "given" g (putF "word" (.str wd) (putF "line" (.int ln) []))))) li (.lst [])) a (.ins C dx (putF "inside" (.ref li) (putF "given" g (putF "word" (.str wd) (putF "line" (.int ln) []))))) b = some o := by
      rw [upd_ne nb]
      have hbl : (upd (upd (upd H a (.ins C dx (putF "line" (.int ln) []))) a (.ins C dx (putF "word" (.str wd) (putF "line" (.int ln) [])))) a (.ins C dx (putF "given" g (putF "word" (.str wd) (putF "line" (.int ln) []))))) b = some o := by
        rw [upd_ne nb, upd_ne nb, upd_ne nb]; exact hb
      rw [upd_ne (ne_of_none hbl hli)]
      exact hbl
    rw [upd_ne (ne_of_none hb1 hlo)]
    exact hb1
end
end Fh
set_option Elab.async false
set_option linter.all false
set_option maxRecDepth 100000
set_option maxHeartbeats 2000000
namespace Fh
open PySem L2 TL
/-- a tree of statements of at most this height; all of it new since G -/
def TOk (CS : Addr) (G : Addr → Prop) (H : Hp) : Nat → Addr → Prop
  | 0, _ => False
  | k + 1, a => G a ∧ ∃ (dx : Addr) (ln : Int) (wd : Str) (g : V) (li lo : Addr) (fo : Int) (xs ys : List Addr), H a = some (.ins CS dx (sf ln wd g li lo fo)) ∧ H li = some (.lst (xs.map V.ref)) ∧ H lo = some (.lst (ys.map V.ref)) ∧
      (xs.length ≤ 20 ∧ G li ∧ G lo) ∧ (ys.length ≤ 20 ∧ 0 ≤ ln) ∧ (∀ x ∈ xs, TOk CS G H k x) ∧ ∀ y ∈ ys, TOk CS G H k y
/-- nothing but what follows a statement is other -/
def Fol (CS : Addr) (H H' : Hp) : Prop := ∀ b o, H b = some o → H' b = some o ∨
  ∃ (dx : Addr) (ln : Int) (wd : Str) (g : V) (li lo : Addr) (fo fo' : Int), o = .ins CS dx (sf ln wd g li lo fo) ∧ H' b = some (.ins CS dx (sf ln wd g li lo fo'))
theorem Fol.of_same {CS : Addr} {H H' : Hp} (s : Same H H') : Fol CS H H' := fun b o h => .inl (s b o h)
theorem Fol.trans {CS : Addr} {H H1 H2 : Hp} (a : Fol CS H H1) (b : Fol CS H1 H2) : Fol CS H H2 := fun c o h => by
  rcases a c o h with h1 | ⟨dx, ln, wd, g, li, lo, fo, fo', e, h1⟩
  · exact b c o h1
  · rcases b c _ h1 with h2 | ⟨dx2, ln2, wd2, g2, li2, lo2, fo2, fo3, e2, h2⟩
    · exact .inr ⟨dx, ln, wd, g, li, lo, fo, fo', e, h2⟩
    · refine .inr ⟨dx, ln, wd, g, li, lo, fo, fo3, e, ?_⟩
      rw [h2]
      have z : sf ln wd g li lo fo' = sf ln2 wd2 g2 li2 lo2 fo2 ∧ dx = dx2 := by
        injection e2 with _ q1 q2
        exact ⟨q2, q1⟩
      obtain ⟨z1, z2⟩ := z
      unfold sf at z1
      simp only [List.cons.injEq, Prod.mk.injEq, V.int.injEq, V.str.injEq, V.ref.injEq, true_and, and_true] at z1
      obtain ⟨r1, r2, r3, r4, r5, r6⟩ := z1
      subst r1 r2 r3 r4 r5 z2
      rfl
theorem Fol.lst {CS : Addr} {H H' : Hp} (f : Fol CS H H') {b : Addr} {xs : List V} (h : H b = some (.lst xs)) : H' b = some (.lst xs) := by
  rcases f b _ h with h1 | ⟨_, _, _, _, _, _, _, _, e, _⟩
  · exact h1
  · cases e
theorem Fol.st {CS : Addr} {H H' : Hp} (f : Fol CS H H') {b dx : Addr} {ln : Int} {wd : Str} {g : V} {li lo : Addr} {fo : Int} (h : H b = some (.ins CS dx (sf ln wd g li lo fo))) : ∃ fo', H' b = some (.ins CS dx (sf ln wd g li lo fo')) := by
  rcases f b _ h with h1 | ⟨dx2, ln2, wd2, g2, li2, lo2, fo2, fo3, e2, h2⟩
  · exact ⟨fo, h1⟩
  · have z : sf ln wd g li lo fo = sf ln2 wd2 g2 li2 lo2 fo2 ∧ dx = dx2 := by
      injection e2 with _ q1 q2
      exact ⟨q2, q1⟩
    obtain ⟨z1, z2⟩ := z
    unfold sf at z1
    simp only [List.cons.injEq, Prod.mk.injEq, V.int.injEq, V.str.injEq, V.ref.injEq, true_and, and_true] at z1
    obtain ⟨r1, r2, r3, r4, r5, r6⟩ := z1
    subst r1 r2 r3 r4 r5 z2
    exact ⟨fo3, h2⟩
theorem TOk.fol {CS : Addr} {G : Addr → Prop} {H H' : Hp} (f : Fol CS H H') : ∀ (k : Nat) (a : Addr), TOk CS G H k a → TOk CS G H' k a
  | 0, _, h => h
  | k + 1, a, ⟨h0, dx, ln, wd, g, li, lo, fo, xs, ys, h1, h2, h3, h4, h5, h6, h7⟩ => by
    obtain ⟨fo', h1'⟩ := f.st h1
    exact ⟨h0, dx, ln, wd, g, li, lo, fo', xs, ys, h1', f.lst h2, f.lst h3, h4, h5, fun x hx => TOk.fol f k x (h6 x hx), fun y hy => TOk.fol f k y (h7 y hy)⟩
theorem Fol.at_ {CS : Addr} {H : Hp} {b dx : Addr} {ln : Int} {wd : Str} {g : V} {li lo : Addr} {fo fo' : Int} (h : H b = some (.ins CS dx (sf ln wd g li lo fo))) : Fol CS H (upd H b (.ins CS dx (sf ln wd g li lo fo'))) := fun c o hc => by
  by_cases e : c = b
  · subst e
    rw [h] at hc
    exact .inr ⟨dx, ln, wd, g, li, lo, fo, fo', (Option.some.inj hc).symm, upd_same⟩
  · exact .inl (by rw [upd_ne e]; exact hc)
abbrev s_link : Stmt := top 20
abbrev sc_linkN : List Str := ["body", "end", "follows", "statement", "follow", "back"]
theorem sc_link : FnScope sc_linkN ["body", "end"] (defScope s_link) := ⟨rfl, rfl, rfl, by decide +kernel, rfl, by decide +kernel, by decide +kernel⟩
/-- link: n calls, one in another, are allowed -/
def spLink (CS : Addr) : Nat → Sp
  | 0 => fun _ _ _ _ => False
  | n + 1 => fun vs H Q _ => ∃ (lb : Addr) (e : Int) (xs : List Addr) (G : Addr → Prop), vs = [.ref lb, .int e] ∧ H lb = some (.lst (xs.map V.ref)) ∧ xs.length ≤ 20 ∧ (∀ x ∈ xs, TOk CS G H n x) ∧ ∀ H', Fol CS H H' → Q .non H'
section
variable {P : Program} {w : World} {K : PySem.W.Frag} {mg : Str → Option Value} {base : Heap}
theorem ok_link_step {f CS : Addr} {fd : FuncData} {n : Nat} (F : Fun K "link" "link" s_link f fd) (TS : STxt K CS) (mz : mg "zip" = none) (C : Callee P w K mg base n "link" ["body", "end"] (spLink CS n)) : FnOk P w K mg base CX0 (n + 1) f fd ["body", "end"] (spLink CS (n + 1)) := by
  refine F.ok sc_link (fun vs H Q E h => ?_) (fun cdv A outer st H vs Q E hr h => ?_)
  · obtain ⟨lb, e, xs, G, rfl, _⟩ := h
    rfl
  obtain ⟨lb, e, xs, G, rfl, hb, hl, hT, q⟩ := h
  refine ⟨_, (pss_cons (ps_set (i := 2) sc_link.nd rfl (Or.inl rfl) (pe_op op_cat (pe_lc (own := [("statement", 3)]) (g := gName 3) rfl sc_link.nd (pi_list (pe_slice sl_list (pv 0) (po_some pe_int) po_none)) (blkOk_by (N := sc_linkN) (sc := defScope s_link) (by decide +kernel)) (fun _ _ _ _ _ => pg_name (i := 3) sc_link.nd rfl (Or.inl rfl)) (fun _ _ _ _ _ => pts_nil) (fun _ _ _ _ _ => (show PE _ _ (tFld K (tVar 3) "line") from pe_fld (pv 3) rfl))) (pe_lst (pa_cons (pv 1) pa_nil))))
(pss_one (ps_for PassesOwn.never rfl (pi_zip (by rfl) mz (pa_cons (pv 0) (pa_cons (pv 2) pa_nil))) (pg_tup (by rfl) (pgs_cons (pg_name (i := 3) sc_link.nd rfl (Or.inl rfl)) (pgs_cons (pg_name (i := 4) sc_link.nd rfl (Or.inl rfl)) pgs_nil)))
(pss_cons (ps_fld (pv 3) (pv 4) rfl)
(pss_cons (ps_set (i := 5) sc_link.nd rfl (Or.inl rfl) (pe_ifExp (pt_cmpR op_eq (pe_fld (pv 3) rfl) pe_str (nomark _)) (pe_fld (pv 3) rfl) (pv 4)))
(pss_cons (ps_expr (pe_call C.ok hr rfl C.mg C.kp C.b .nil pass0 (pa_cons (pe_fld (pv 3) rfl) (pa_cons (pv 5) pa_nil))))
(pss_one (ps_expr (pe_call C.ok hr rfl C.mg C.kp C.b .nil pass0 (pa_cons (pe_fld (pv 3) rfl) (pa_cons (pv 5) pa_nil))))))))))), ?_⟩
  refine ⟨_, rfl, 1, rfl, lb, _, rfl, .inl (.inl hb), fun S hS => ?_⟩
  have s1 := same_new hS (.lst (cutV (xs.map V.ref) (some 1) none))
  have cut : cutV (xs.map V.ref) (some 1) none = (xs.drop 1).map V.ref := by
    unfold cutV
    rw [HT.sIx_none, show HT.sIx (xs.map V.ref).length 0 (some 1) = min 1 (xs.map V.ref).length from HT.sIx_nat _ _ 1, List.length_map]
    cases xs with
    | nil => rfl
    | cons x r =>
      rw [List.length_cons, Nat.min_eq_left (by omega), List.map_cons, List.drop_succ_cons, List.drop_zero, List.drop_succ_cons, List.drop_zero]
      exact List.take_of_length_le (by rw [List.length_map]; omega)
  rw [cut] at s1 ⊢
  refine ⟨S, rfl, ⟨_, .inl (.inl upd_same)⟩, fun D hD => ?_⟩
  have nSD : S ≠ D := ne_of_none upd_same hD
  refine lc_list (K := K) (a := S) (xs := (xs.drop 1).map V.ref) (fun i H1 => ∃ acc : List Int, acc.length = i ∧ H1 = upd (upd H S (.lst ((xs.drop 1).map V.ref))) D (.lst (acc.map V.int))) ⟨[], rfl, rfl⟩ (fun i H1 _ ⟨acc, _, e1⟩ => .inl (.inl (by rw [e1, upd_ne nSD]; exact upd_same))) ?_ ?_
  · rintro i x H1 hx ⟨acc, ea, rfl⟩
    refine ⟨rfl, ?_⟩
    simp only [tYes, ↓reduceIte]
    rw [List.getElem?_map] at hx
    obtain ⟨y, hy, rfl⟩ := Option.map_eq_some_iff.mp hx
    have hyx : y ∈ xs := List.mem_of_mem_drop (List.mem_of_getElem? hy)
    have ht := hT y hyx
    have hil : i < xs.length := by
      have := (List.getElem?_eq_some_iff.mp hy).1
      rw [List.length_drop] at this
      omega
    cases n with
    | zero => exact ht.elim
    | succ n =>
      obtain ⟨_, dx, ln, wd, g, li, lo, fo, us, vs, h1, _⟩ := ht
      have h1' := (s1.trans (same_new hD (.lst (acc.map V.int)))) _ _ h1
      refine ⟨_, rfl, y, CS, dx, _, _, rfl, h1', TS.cl, TS.nLine, sf_line, _, upd_same, ?_, acc ++ [ln], by rw [List.length_append, ea]; rfl, ?_⟩
      · rw [List.length_map, ea]
        exact small1000 (by omega)
      · rw [upd_upd, List.map_append]
        rfl
  · rintro H1 ⟨acc, ea, rfl⟩
    rw [List.length_map, List.length_drop] at ea
    have sD := same_new hD (.lst (acc.map V.int))
    refine ⟨_, rfl, small (by show 1 ≤ 1000; decide), fun L hL => ?_⟩
    have sL := same_new hL (.lst [.int e])
    refine ⟨D, L, _, _, rfl, rfl, sL _ _ upd_same, upd_same, ?_, fun Fl hFl => ?_⟩
    · rw [List.length_map, ea]
      exact small (by show _ + 1 ≤ 1000; omega)
    have sF := same_new hFl (.lst (acc.map V.int ++ [.int e]))
    have sAll : Same H _ := ((s1.trans sD).trans sL).trans sF
    have eF : acc.map V.int ++ [V.int e] = (acc ++ [e]).map V.int := by rw [List.map_append]; rfl
    rw [eF] at sAll sF ⊢
    refine ⟨_, rfl, _, rfl, lb, Fl, xs.map V.ref, (acc ++ [e]).map V.int, rfl, .inl (.inl (sAll _ _ hb)), .inl (.inl upd_same), ?_⟩
    refine for_it (walk_zip rfl) (fun i σ H2 => ∃ y3 y4 y5, σ = [some (.ref lb), some (.int e), some (.ref Fl), y3, y4, y5] ∧ Fol CS H H2 ∧ H2 lb = some (.lst (xs.map V.ref)) ∧ H2 Fl = some (.lst ((acc ++ [e]).map V.int)))
      ⟨none, none, none, rfl, Fol.of_same sAll, sAll _ _ hb, upd_same⟩ (fun i σ H2 _ ⟨_, _, _, _, _, e1, e2⟩ => ⟨.inl (.inl e1), .inl (.inl e2)⟩) ?_ (fun σ H2 ⟨_, _, _, _, fo, _, _⟩ => q H2 fo)
    rintro i v σ H2 H2' hi ⟨y3, y4, y5, rfl, fo, e1, e2⟩ ⟨T, x, y, rfl, hT0, rfl, hx, hy⟩
    obtain ⟨a, ha, rfl⟩ : ∃ a, xs[i]? = some a ∧ x = V.ref a := by
      dsimp only at hx
      rw [List.getElem?_map] at hx
      obtain ⟨a, h1, h2⟩ := Option.map_eq_some_iff.mp hx
      exact ⟨a, h1, h2.symm⟩
    obtain ⟨z, rfl⟩ : ∃ z, y = V.int z := by
      dsimp only at hy
      rw [List.getElem?_map] at hy
      obtain ⟨z, h1, h2⟩ := Option.map_eq_some_iff.mp hy
      exact ⟨z, h2.symm⟩
    have hta := (hT a (List.mem_of_getElem? ha)).fol fo
    cases n with
    | zero => exact hta.elim
    | succ m =>
      obtain ⟨ga, dx, ln, wd, g, li, lo, f0, us, vs, h1, h2, h3, h4, h5, h6, h7⟩ := hta
      have sT := same_new hT0 (.tup [.ref a, .int z])
      refine ⟨T, _, rfl, .inl (.inl upd_same), rfl, _, _, rfl, _, _, rfl, rfl, ?_⟩
      refine ⟨_, rfl, _, rfl, a, CS, dx, _, rfl, sT _ _ h1, TS.cl, TS.nFollow, (by show 6 < 1000; decide), ?_⟩
      rw [put_follow]
      have f2 : Fol CS H2 (upd (upd H2 T (.tup [.ref a, .int z])) a (.ins CS dx (sf ln wd g li lo z))) := (Fol.of_same sT).trans (Fol.at_ (sT _ _ h1))
      have ea : (upd (upd H2 T (.tup [.ref a, .int z])) a (.ins CS dx (sf ln wd g li lo z))) a = some (.ins CS dx (sf ln wd g li lo z)) := upd_same
      generalize upd (upd H2 T (.tup [.ref a, .int z])) a (.ins CS dx (sf ln wd g li lo z)) = H3 at f2 ea ⊢
      have k1 : H3 li = some (.lst (us.map V.ref)) := f2.lst h2
      have k2 : ∀ u ∈ us, TOk CS G H3 m u := fun u hu => (h6 u hu).fol f2
      have fin : ∀ (y5 : Option V) (H5 : Hp), Fol CS H3 H5 → ∃ y3 y4 y5', [some (.ref lb), some (.int e), some (.ref Fl), some (.ref a), some (.int z), y5] = [some (.ref lb), some (.int e), some (.ref Fl), y3, y4, y5'] ∧ Fol CS H H5 ∧ H5 lb = some (.lst (xs.map V.ref)) ∧ H5 Fl = some (.lst ((acc ++ [e]).map V.int)) :=
        fun y5 H5 f5 => ⟨_, _, _, rfl, (fo.trans f2).trans f5, f5.lst (f2.lst e1), f5.lst (f2.lst e2)⟩
      refine ⟨_, rfl, a, CS, dx, _, _, rfl, ea, TS.cl, TS.nWord, sf_word, rfl, _, rfl, ?_⟩
      refine ite2 (fun _ => ?_) (fun _ => ?_)
      · refine ⟨_, rfl, a, CS, dx, _, _, rfl, ea, TS.cl, TS.nLine, sf_line, ?_⟩
        refine ⟨_, rfl, a, CS, dx, _, _, rfl, ea, TS.cl, TS.nInside, sf_inside, _, rfl, li, ln, us, G, rfl, k1, h4.1, k2, fun H4 f4 => ?_⟩
        obtain ⟨fo4, ea4⟩ := f4.st ea
        refine ⟨_, rfl, a, CS, dx, _, _, rfl, ea4, TS.cl, TS.nOtherwise, sf_otherwise, _, rfl, lo, ln, vs, G, rfl, f4.lst (f2.lst h3), h5.1, fun u hu => ((h7 u hu).fol f2).fol f4, fun H5 f5 => ?_⟩
        exact fin _ H5 (f4.trans f5)
      · refine ⟨_, rfl, ?_⟩
        refine ⟨_, rfl, a, CS, dx, _, _, rfl, ea, TS.cl, TS.nInside, sf_inside, _, rfl, li, z, us, G, rfl, k1, h4.1, k2, fun H4 f4 => ?_⟩
        obtain ⟨fo4, ea4⟩ := f4.st ea
        refine ⟨_, rfl, a, CS, dx, _, _, rfl, ea4, TS.cl, TS.nOtherwise, sf_otherwise, _, rfl, lo, z, vs, G, rfl, f4.lst (f2.lst h3), h5.1, fun u hu => ((h7 u hu).fol f2).fol f4, fun H5 f5 => ?_⟩
        exact fin _ H5 (f4.trans f5)
theorem ok_link0 {f CS : Addr} {fd : FuncData} : FnOk P w K mg base CX0 0 f fd ["body", "end"] (spLink CS 0) :=
  ⟨fun _ _ _ _ h => h.elim, fun _ _ _ _ _ _ _ _ _ _ _ _ _ h => h.elim⟩
/-- link, so many calls deep -/
theorem ok_link {f CS : Addr} {fd : FuncData} (F : Fun K "link" "link" s_link f fd) (TS : STxt K CS) (mz : mg "zip" = none) (ml : mg "link" = some (.ref f)) (b : Binds K fd ["body", "end"] []) : ∀ n, FnOk P w K mg base CX0 n f fd ["body", "end"] (spLink CS n)
  | 0 => ok_link0
  | n + 1 => ok_link_step F TS mz ⟨f, fd, ok_link F TS mz ml b n, ml, F.kp, b⟩
end
end Fh
set_option Elab.async false
set_option linter.all false
set_option maxRecDepth 100000
set_option maxHeartbeats 2000000
namespace Fh
open PySem L2 TL
/-! ### what rows are statements, bodies -/
mutual
inductive Stm (sy : Str) (ms ss : NV) : Nat → List Row → Nat → Prop where
  | plain (d : Nat) (x : Str) (r : List Str) : Giv sy ms ss (x :: r) → x ≠ "if" → x ≠ "while" → d ≤ 4 → Stm sy ms ss d [(d, x :: r)] 1
  | loop (d : Nat) (r : List Str) (b : List Row) (n : Nat) : Giv sy ms ss ("while" :: r) → d ≤ 4 → Bod sy ms ss (d + 1) b n → Stm sy ms ss d ((d, "while" :: r) :: b) (n + 1)
  | cond (d : Nat) (r : List Str) (b : List Row) (n : Nat) : Giv sy ms ss ("if" :: r) → d ≤ 4 → Bod sy ms ss (d + 1) b n → Stm sy ms ss d ((d, "if" :: r) :: b) (n + 1)
  | both (d : Nat) (r : List Str) (b c : List Row) (n m : Nat) : Giv sy ms ss ("if" :: r) → d ≤ 4 → Bod sy ms ss (d + 1) b n → Bod sy ms ss (d + 1) c m → Stm sy ms ss d ((d, "if" :: r) :: (b ++ (d, [("else" : Str)]) :: c)) (n + 1 + m)
inductive Bod (sy : Str) (ms ss : NV) : Nat → List Row → Nat → Prop where
  | one (d : Nat) (s : List Row) (n : Nat) : Stm sy ms ss d s n → Bod sy ms ss d s n
  | more (d : Nat) (s t : List Row) (n m : Nat) : Stm sy ms ss d s n → Bod sy ms ss d t m → Bod sy ms ss d (s ++ t) (n + m)
end
theorem giv_else {sy : Str} {ms ss : NV} (h : Giv sy ms ss [("else" : Str)]) : False := by
  generalize e : ([("else" : Str)] : List Str) = ws at h
  have ne : ∀ {y : Str}, y = ("else" : Str) → y ≠ "set" ∧ y ≠ "add" ∧ y ≠ "if" ∧ y ≠ "while" ∧ y ≠ "write" ∧ y ≠ "do" ∧ y ≠ "right" ∧ y ≠ "left" ∧ y ≠ "copy" ∧ y ≠ "stop" := by
    rintro y rfl
    decide +kernel
  obtain ⟨h1, h2, h3, h4, h5, h6, h7, h8, h9, h10⟩ := ne (y := "else") rfl
  cases h <;> first
    | exact h1 (List.cons.inj e).1 | exact h2 (List.cons.inj e).1 | exact h3 (List.cons.inj e).1 | exact h4 (List.cons.inj e).1 | exact h5 (List.cons.inj e).1
    | exact h6 (List.cons.inj e).1 | exact h7 (List.cons.inj e).1 | exact h8 (List.cons.inj e).1 | exact h9 (List.cons.inj e).1 | exact h10 (List.cons.inj e).1
theorem Stm.first {sy : Str} {ms ss : NV} {d : Nat} {seg : List Row} {n : Nat} (h : Stm sy ms ss d seg n) : ∃ (x : Str) (r : List Str) (rest : List Row), seg = (d, x :: r) :: rest ∧ Giv sy ms ss (x :: r) ∧ d ≤ 4 ∧ 1 ≤ n := by
  cases h with
  | plain _ x r h1 h2 h3 h4 => exact ⟨_, _, _, rfl, h1, h4, Nat.le_refl _⟩
  | loop _ r b n h1 h2 h3 => exact ⟨_, _, _, rfl, h1, h2, by omega⟩
  | cond _ r b n h1 h2 h3 => exact ⟨_, _, _, rfl, h1, h2, by omega⟩
  | both _ r b c n m h1 h2 h3 h4 => exact ⟨_, _, _, rfl, h1, h2, by omega⟩
theorem Bod.first {sy : Str} {ms ss : NV} {d : Nat} {seg : List Row} {n : Nat} (h : Bod sy ms ss d seg n) : ∃ (x : Str) (r : List Str) (rest : List Row), seg = (d, x :: r) :: rest ∧ Giv sy ms ss (x :: r) ∧ d ≤ 4 ∧ 1 ≤ n := by
  cases h with
  | one _ s n h => exact h.first
  | more _ s t n m h1 h2 =>
    obtain ⟨x, r, rest, rfl, h3, h4, h5⟩ := h1.first
    exact ⟨x, r, rest ++ t, rfl, h3, h4, by omega⟩
/-- what may stand behind a statement, behind a body -/
def AfterStm (d : Nat) (post : List Row) : Prop := ∀ r, post.head? = some r → r.1 ≤ d ∧ (r.1 = d → r.2 ≠ [("else" : Str)])
def AfterBod (d : Nat) (post : List Row) : Prop := ∀ r, post.head? = some r → r.1 < d
theorem AfterStm.bod {sy : Str} {ms ss : NV} {d : Nat} {t post : List Row} {m : Nat} (h : Bod sy ms ss d t m) : AfterStm d (t ++ post) := by
  obtain ⟨x, r, rest, rfl, hg, _, _⟩ := h.first
  intro y hy
  have e : (d, x :: r) = y := Option.some.inj hy
  subst e
  exact ⟨Nat.le_refl _, fun _ z => giv_else (by rw [← z]; exact hg)⟩
theorem AfterStm.of_bod {d : Nat} {post : List Row} (h : AfterBod d post) : AfterStm d post := fun r hr => ⟨Nat.le_of_lt (h r hr), fun e => absurd (h r hr) (by omega)⟩
theorem AfterStm.deeper {d : Nat} {post : List Row} (h : AfterStm d post) : AfterBod (d + 1) post := fun r hr => Nat.lt_succ_of_le (h r hr).1
abbrev Good (rows : List Row) : Prop := ∀ r ∈ rows, GoodWs r.2
theorem wordsAt_rows {rows : List Row} (g : Good rows) (k d : Nat) : wordsAt (rows.map lineOf) k d = match rows[k]? with | none => [] | some r => if r.1 = d then r.2 else [] := by
  unfold wordsAt
  rw [List.getElem?_map]
  cases e : rows[k]? with
  | none => rfl
  | some r =>
    obtain ⟨e1, ws⟩ := r
    have gw : GoodWs ws := g _ (List.mem_of_getElem? e)
    show wordsOf (lineOf (e1, ws)) d = if e1 = d then ws else []
    by_cases h : e1 = d
    · subst h
      rw [if_pos rfl]
      exact words_here gw
    · rw [if_neg h]
      rcases Nat.lt_or_gt_of_ne h with h | h
      · exact words_deeper gw h
      · exact words_outer gw h
theorem at_pre {α : Type} {pre seg post : List α} {x : α} {r : List α} (e : seg = x :: r) : (pre ++ seg ++ post)[pre.length]? = some x := by
  subst e
  rw [List.append_assoc, List.getElem?_append_right (Nat.le_refl _), Nat.sub_self]
  rfl
theorem at_post {α : Type} {pre seg post : List α} : (pre ++ seg ++ post)[pre.length + seg.length]? = post.head? := by
  rw [List.getElem?_append_right (by rw [List.length_append]; omega), List.length_append, Nat.sub_self]
  cases post <;> rfl
/-! ### the state -/
def WOk (CS : Addr) (H : Hp) (a : Addr) : Prop := ∃ (dx : Addr) (ln : Int) (wd : Str) (g : V) (li lo : Addr) (fo : Int), H a = some (.ins CS dx (sf ln wd g li lo fo)) ∧ (wd = "write" → ∃ z : Str, g = .str z)
def Keep (p t : Addr) (H H' : Hp) : Prop := ∀ b o, H b = some o → b ≠ p → b ≠ t → H' b = some o
theorem Keep.of_same {p t : Addr} {H H' : Hp} (s : Same H H') : Keep p t H H' := fun b o h _ _ => s b o h
theorem Keep.trans {p t : Addr} {H H1 H2 : Hp} (a : Keep p t H H1) (b : Keep p t H1 H2) : Keep p t H H2 := fun c o h n1 n2 => b c o (a c o h n1 n2) n1 n2
structure SAt (C CS : Addr) (H : Hp) (p l m s t : Addr) (k : Nat) (sy : Str) (fi : Int) (ms ss : NV) (rows : List Row) (kvs : List (Key × V)) (cnt : Nat) : Prop where
  pin : PIn C H p l m s t ((k : Int) + 1) sy fi ms ss
  ln : Lines H l (rows.map lineOf)
  dt : H t = some (.dK kvs)
  few : kvs.length = cnt
  keys : ∀ kv ∈ kvs, ∃ n : Nat, kv.1 = Sum.inl (n : Int) ∧ n ≤ k
  ok : ∀ kv ∈ kvs, ∃ a, kv.2 = V.ref a ∧ WOk CS H a
  nm : m ≠ t
  ns : s ≠ t
  cc : C ≠ CS
variable {C CS : Addr} {H H' : Hp} {p l m s t : Addr} {k : Nat} {sy : Str} {fi : Int} {ms ss : NV} {rows : List Row} {kvs : List (Key × V)} {cnt : Nat}
theorem WOk.keep (S : SAt C CS H p l m s t k sy fi ms ss rows kvs cnt) (e : Keep p t H H') {a : Addr} (h : WOk CS H a) : WOk CS H' a := by
  obtain ⟨dx, ln, wd, g, li, lo, fo, h1, h2⟩ := h
  obtain ⟨⟨dp, hp⟩, _⟩ := S.pin
  refine ⟨dx, ln, wd, g, li, lo, fo, e _ _ h1 (fun z => ?_) (ne_of h1 S.dt (by intro z; cases z)), h2⟩
  rw [z, hp] at h1
  injection Option.some.inj h1 with q
  exact S.cc q
theorem SAt.same (S : SAt C CS H p l m s t k sy fi ms ss rows kvs cnt) (e : Same H H') : SAt C CS H' p l m s t k sy fi ms ss rows kvs cnt :=
  ⟨S.pin.same e, ⟨e _ _ S.ln.at_, S.ln.few, S.ln.short⟩, e _ _ S.dt, S.few, S.keys, fun kv h => by
    obtain ⟨a, h1, h2⟩ := S.ok kv h
    exact ⟨a, h1, h2.keep S (Keep.of_same e)⟩, S.nm, S.ns, S.cc⟩
theorem TOk.keep {G : Addr → Prop} (hp : ∃ dx fs, H p = some (.ins C dx fs)) (ht : ∃ kv, H t = some (.dK kv)) (cc : C ≠ CS) (e : Keep p t H H') : ∀ (n : Nat) (a : Addr), TOk CS G H n a → TOk CS G H' n a
  | 0, _, h => h
  | n + 1, a, ⟨h0, dx, ln, wd, g, li, lo, fo, xs, ys, h1, h2, h3, h4, h5, h6, h7⟩ => by
    obtain ⟨dp, fs, hp'⟩ := hp
    obtain ⟨kv, ht'⟩ := ht
    have np : a ≠ p := fun z => by
      rw [z, hp'] at h1
      injection Option.some.inj h1 with q
      exact cc q
    have nt : a ≠ t := ne_of h1 ht' (by intro z; cases z)
    have l1 : ∀ {b : Addr} {us : List V}, H b = some (.lst us) → H' b = some (.lst us) := fun h => e _ _ h (ne_of h hp' (by intro z; cases z)) (ne_of h ht' (by intro z; cases z))
    exact ⟨h0, dx, ln, wd, g, li, lo, fo, xs, ys, e _ _ h1 np nt, l1 h2, l1 h3, h4, h5, fun x hx => TOk.keep ⟨dp, fs, hp'⟩ ⟨kv, ht'⟩ cc e n x (h6 x hx), fun y hy => TOk.keep ⟨dp, fs, hp'⟩ ⟨kv, ht'⟩ cc e n y (h7 y hy)⟩
theorem TOk.base {G G' : Addr → Prop} (h : ∀ b, G' b → G b) : ∀ (n : Nat) (a : Addr), TOk CS G' H n a → TOk CS G H n a
  | 0, _, z => z
  | n + 1, a, ⟨h0, dx, ln, wd, g, li, lo, fo, xs, ys, h1, h2, h3, h4, h5, h6, h7⟩ => ⟨h _ h0, dx, ln, wd, g, li, lo, fo, xs, ys, h1, h2, h3, ⟨h4.1, h _ h4.2.1, h _ h4.2.2⟩, h5, fun x hx => TOk.base h n x (h6 x hx), fun y hy => TOk.base h n y (h7 y hy)⟩
/-- an object that was there before is none of the tree -/
theorem TOk.upd {G : Addr → Prop} {b dx0 : Addr} {fs fs' : List (Str × V)} (hb : ¬ G b) (hb1 : H b = some (.ins CS dx0 fs)) : ∀ (n : Nat) (a : Addr), TOk CS G H n a → TOk CS G (L2.upd H b (.ins CS dx0 fs')) n a
  | 0, _, z => z
  | n + 1, a, ⟨h0, dx, ln, wd, g, li, lo, fo, xs, ys, h1, h2, h3, h4, h5, h6, h7⟩ => by
    have na : a ≠ b := fun z => hb (by rw [← z]; exact h0)
    have l1 : ∀ {c : Addr} {us : List V}, H c = some (.lst us) → L2.upd H b (.ins CS dx0 fs') c = some (.lst us) := fun h => by rw [upd_ne (ne_of h hb1 (by intro z; cases z))]; exact h
    exact ⟨h0, dx, ln, wd, g, li, lo, fo, xs, ys, by rw [upd_ne na]; exact h1, l1 h2, l1 h3, h4, h5, fun x hx => TOk.upd hb hb1 n x (h6 x hx), fun y hy => TOk.upd hb hb1 n y (h7 y hy)⟩
theorem TOk.updL {G : Addr → Prop} {b : Addr} {us : List V} (hb : ¬ G b) : ∀ (n : Nat) (a : Addr), TOk CS G H n a → TOk CS G (L2.upd H b (.lst us)) n a
  | 0, _, z => z
  | n + 1, a, ⟨h0, dx, ln, wd, g, li, lo, fo, xs, ys, h1, h2, h3, h4, h5, h6, h7⟩ => by
    have ne : ∀ {c : Addr}, G c → c ≠ b := fun h z => hb (by rw [← z]; exact h)
    exact ⟨h0, dx, ln, wd, g, li, lo, fo, xs, ys, by rw [upd_ne (ne h0)]; exact h1, by rw [upd_ne (ne h4.2.1)]; exact h2, by rw [upd_ne (ne h4.2.2)]; exact h3, h4, h5, fun x hx => TOk.updL hb n x (h6 x hx), fun y hy => TOk.updL hb n y (h7 y hy)⟩
/-- what is not there is none of the tree -/
theorem TOk.avoid {G : Addr → Prop} {b : Addr} (hb : H b = none) : ∀ (n : Nat) (a : Addr), TOk CS G H n a → TOk CS (fun c => G c ∧ c ≠ b) H n a
  | 0, _, z => z
  | n + 1, a, ⟨h0, dx, ln, wd, g, li, lo, fo, xs, ys, h1, h2, h3, h4, h5, h6, h7⟩ =>
    ⟨⟨h0, ne_of_none h1 hb⟩, dx, ln, wd, g, li, lo, fo, xs, ys, h1, h2, h3, ⟨h4.1, ⟨h4.2.1, ne_of_none h2 hb⟩, ⟨h4.2.2, ne_of_none h3 hb⟩⟩, h5, fun x hx => TOk.avoid hb n x (h6 x hx), fun y hy => TOk.avoid hb n y (h7 y hy)⟩
abbrev New (H : Hp) : Addr → Prop := fun b => H b = none
/-- a statement of the dict gets another field -/
theorem SAt.setSt (S : SAt C CS H p l m s t k sy fi ms ss rows kvs cnt) {a dx : Addr} {ln fo fo' : Int} {wd : Str} {g : V} {li lo li' lo' : Addr} (ha : H a = some (.ins CS dx (sf ln wd g li lo fo))) :
    SAt C CS (L2.upd H a (.ins CS dx (sf ln wd g li' lo' fo'))) p l m s t k sy fi ms ss rows kvs cnt := by
  obtain ⟨⟨dp, hp⟩, mo, st, nm, ns⟩ := S.pin
  have np : p ≠ a := fun z => by
    rw [z, ha] at hp
    injection Option.some.inj hp with q
    exact S.cc q.symm
  have nl : l ≠ a := ne_of S.ln.at_ ha (by intro z; cases z)
  have nmm : m ≠ a := ne_of mo ha (by intro z; cases z)
  have nss : s ≠ a := ne_of st ha (by intro z; cases z)
  have nt : t ≠ a := ne_of S.dt ha (by intro z; cases z)
  refine ⟨⟨⟨dp, by rw [upd_ne np]; exact hp⟩, by rw [upd_ne nmm]; exact mo, by rw [upd_ne nss]; exact st, nm, ns⟩, ⟨by rw [upd_ne nl]; exact S.ln.at_, S.ln.few, S.ln.short⟩, by rw [upd_ne nt]; exact S.dt, S.few, S.keys, fun kv h => ?_, S.nm, S.ns, S.cc⟩
  obtain ⟨b, h1, dx2, ln2, wd2, g2, li2, lo2, fo2, h2, h3⟩ := S.ok kv h
  refine ⟨b, h1, ?_⟩
  by_cases e : b = a
  · subst e
    rw [ha] at h2
    have z := Option.some.inj h2
    injection z with _ z1 z2
    unfold sf at z2
    simp only [List.cons.injEq, Prod.mk.injEq, V.int.injEq, V.str.injEq, V.ref.injEq, true_and, and_true] at z2
    obtain ⟨r1, r2, r3, r4, r5, r6⟩ := z2
    subst r2 r3
    exact ⟨dx, ln, wd, g, li', lo', fo', upd_same, h3⟩
  · exact ⟨dx2, ln2, wd2, g2, li2, lo2, fo2, by rw [upd_ne e]; exact h2, h3⟩
end Fh
set_option Elab.async false
set_option linter.all false
set_option maxRecDepth 100000
set_option maxHeartbeats 4000000
namespace Fh
open PySem L2 TL
abbrev s_Parser_read_statement : Stmt := inClass (top 32) 9
abbrev sc_Parser_read_statementN : List Str := ["self", "depth", "words", "given", "statement"]
theorem sc_Parser_read_statement : FnScope sc_Parser_read_statementN ["self", "depth"] (defScope s_Parser_read_statement) := ⟨rfl, rfl, rfl, by decide +kernel, rfl, by decide +kernel, by decide +kernel⟩
def spStm (C CS : Addr) (d : Nat) : Sp := fun vs H Q _ => ∃ (p l m s t : Addr) (k : Nat) (sy : Str) (fi : Int) (ms ss : NV) (rows pre seg post : List Row) (kvs : List (Key × V)) (cnt n : Nat), vs = [.ref p, .int (d : Int)] ∧
  SAt C CS H p l m s t k sy fi ms ss rows kvs cnt ∧ rows = pre ++ seg ++ post ∧ pre.length = k ∧ Good rows ∧ Stm sy ms ss d seg n ∧ cnt + n ≤ 20 ∧ AfterStm d post ∧ sy.length ≤ 10 ∧
  ∀ (a : Addr) (H' : Hp) (kvs' : List (Key × V)), Keep p t H H' → SAt C CS H' p l m s t (k + seg.length) sy fi ms ss rows kvs' (cnt + n) → TOk CS (New H) H' (5 - d) a → Q (.ref a) H'
def spBod (C CS : Addr) (d : Nat) : Sp := fun vs H Q _ => ∃ (p l m s t : Addr) (k : Nat) (sy : Str) (fi : Int) (ms ss : NV) (rows pre seg post : List Row) (kvs : List (Key × V)) (cnt n : Nat), vs = [.ref p, .int (d : Int)] ∧
  SAt C CS H p l m s t k sy fi ms ss rows kvs cnt ∧ rows = pre ++ seg ++ post ∧ pre.length = k ∧ Good rows ∧ Bod sy ms ss d seg n ∧ cnt + n ≤ 20 ∧ AfterBod d post ∧ sy.length ≤ 10 ∧
  ∀ (lb : Addr) (H' : Hp) (kvs' : List (Key × V)) (xs : List Addr), Keep p t H H' → SAt C CS H' p l m s t (k + seg.length) sy fi ms ss rows kvs' (cnt + n) → H lb = none → H' lb = some (.lst (xs.map V.ref)) → xs ≠ [] → xs.length ≤ n → (∀ x ∈ xs, TOk CS (New H) H' (5 - d) x) → Q (.ref lb) H'
/-- a class of one's own that stands ready to be made -/
structure Maker (P : Program) (w : World) (K : PySem.W.Frag) (mg : Str → Option Value) (base : Heap) (C : Addr) (k : Nat) (x : Str) (ps : List Str) (sp : Sp) where
  f : Addr
  fd : FuncData
  ok : FnOk P w K mg base CX0 k f fd ps sp
  mkr : Mk K C f
  mg : mg x = some (.ref C)
  b : Binds K fd ps []
theorem SAt.grown {C CS : Addr} {H H' : Hp} {p l m s t : Addr} {k : Nat} {sy : Str} {fi : Int} {ms ss : NV} {rows : List Row} {kvs : List (Key × V)} {cnt : Nat} (S : SAt C CS H' p l m s t k sy fi ms ss rows kvs cnt) (e : Keep p t H H') : ∀ b, H' b = none → H b = none := fun b h => by
  cases q : H b with
  | none => rfl
  | some o =>
    by_cases h1 : b = p
    · subst h1
      obtain ⟨⟨dx, hp⟩, _⟩ := S.pin
      rw [hp] at h; cases h
    · by_cases h2 : b = t
      · subst h2
        rw [S.dt] at h; cases h
      · rw [e _ _ q h1 h2] at h; cases h
theorem put_next {l : Addr} {k : Nat} {sy : Str} {m s t : Addr} {fi : Int} : putF "number" (.int (((k : Int) + 1) + 1)) (pf l ((k : Int) + 1) sy m s t fi) = pf l (((k + 1 : Nat) : Int) + 1) sy m s t fi := by
  rw [put_number]
  congr 1
theorem SAt.bump {C CS : Addr} {H : Hp} {p l m s t dp : Addr} {k : Nat} {sy : Str} {fi : Int} {ms ss : NV} {rows : List Row} {kvs : List (Key × V)} {cnt : Nat} (S : SAt C CS H p l m s t k sy fi ms ss rows kvs cnt) (hp : H p = some (.ins C dp (pf l ((k : Int) + 1) sy m s t fi))) :
    SAt C CS (upd H p (.ins C dp (pf l (((k + 1 : Nat) : Int) + 1) sy m s t fi))) p l m s t (k + 1) sy fi ms ss rows kvs cnt ∧ Keep p t H (upd H p (.ins C dp (pf l (((k + 1 : Nat) : Int) + 1) sy m s t fi))) := by
  have e : Keep p t H (upd H p (.ins C dp (pf l (((k + 1 : Nat) : Int) + 1) sy m s t fi))) := fun b o h n _ => by rw [upd_ne n]; exact h
  obtain ⟨_, mo, st, nm, ns⟩ := S.pin
  have n1 : l ≠ p := ne_of S.ln.at_ hp (by intro z; cases z)
  have n2 : m ≠ p := ne_of mo hp (by intro z; cases z)
  have n3 : s ≠ p := ne_of st hp (by intro z; cases z)
  have n4 : t ≠ p := ne_of S.dt hp (by intro z; cases z)
  refine ⟨⟨⟨⟨dp, upd_same⟩, by rw [upd_ne n2]; exact mo, by rw [upd_ne n3]; exact st, nm, ns⟩, ⟨by rw [upd_ne n1]; exact S.ln.at_, S.ln.few, S.ln.short⟩, by rw [upd_ne n4]; exact S.dt, S.few, fun kv h => ?_, fun kv h => ?_, S.nm, S.ns, S.cc⟩, e⟩
  · obtain ⟨i, h1, h2⟩ := S.keys kv h
    exact ⟨i, h1, by omega⟩
  · obtain ⟨a, h1, h2⟩ := S.ok kv h
    exact ⟨a, h1, h2.keep S e⟩
section
variable {P : Program} {w : World} {K : PySem.W.Frag} {mg : Str → Option Value} {base : Heap}
theorem ok_read_statement {f C CS : Addr} {fd : FuncData} {d L : Nat} (F : Fun K "read_statement" "Parser.read_statement" s_Parser_read_statement f fd) (T : Bare mg) (T1 : Consts K mg) (TP : PTxt K C) (TS : STxt K CS) (hd : d ≤ 4) (hL : 3 ≤ L)
    (MW : Meter P w K mg base C 1 "words_at" ["self", "depth"] (spWords C)) (MG : Meter P w K mg base C 3 "given_by" ["self", "words"] (spGiven K C)) (MI : Maker P w K mg base CS 1 "Statement" ["self", "line", "word", "given"] (spStInit CS))
    (MB : Meter P w K mg base C L "read_body" ["self", "depth"] (spBod C CS (d + 1))) : FnOk P w K mg base CX0 (L + 1) f fd ["self", "depth"] (spStm C CS d) := by
  refine F.ok sc_Parser_read_statement (fun vs H Q E h => ?_) (fun cdv A outer st H vs Q E hr h => ?_)
  · obtain ⟨p, l, m, s, t, k, sy, fi, ms, ss, rows, pre, seg, post, kvs, cnt, n, rfl, _⟩ := h
    rfl
  obtain ⟨p, l, m, s, t, k, sy, fi, ms, ss, rows, pre, seg, post, kvs, cnt, n, rfl, S, hrows, hk, hG, hS, hcnt, haft, hsy, q⟩ := h
  have hu := hu_of hr
  obtain ⟨t20, g20⟩ := T1.mostStatements
  obtain ⟨x, r, rest, eseg, hgiv, _, hn1⟩ := hS.first
  have hat : rows[k]? = some (d, x :: r) := by rw [hrows, ← hk]; exact at_pre eseg
  have gw : GoodWs (x :: r) := hG _ (List.mem_of_getElem? hat)
  have rest : ∃ tt, PSs (cxOf CX0 P w K mg base sc_Parser_read_statementN "Parser.read_statement" (defScope s_Parser_read_statement) f cdv A outer st H E).nox ((defBody s_Parser_read_statement).drop 6) tt ∧
      ∀ (H6 : Hp) (A1 a dx li lo : Addr) (g : V) (kvs6 : List (Key × V)), Keep p t H H6 → SAt C CS H6 p l m s t (k + 1) sy fi ms ss rows kvs6 (cnt + 1) → H a = none → H6 a = some (.ins CS dx (sf ((k : Int) + 1) x g li lo 0)) → H6 li = some (.lst []) → H6 lo = some (.lst []) → li ≠ lo → H li = none → H lo = none →
        tt { nx := fun _ H' => Q .non H', rt := Q } [some (.ref p), some (.int (d : Int)), some (.ref A1), some g, some (.ref a)] H6 := by
    refine ⟨_, (pss_cons (ps_if (pt_cmpR op_in_seq (pe_fld (pv 4) rfl) (pe_tup (pa_cons pe_str (pa_cons pe_str pa_nil))) (by rfl))
(pss_one (ps_fld (pv 4) (pe_meth (pv 0) TP.cl MB.m MB.ok hr MB.b .nil pass0 (pa_cons (pe_op op_add (pv 1) pe_int) pa_nil)) rfl))
pss_nil)
(pss_cons (ps_if (PW.pt (pw_and (pt_cmpR op_eq (pe_fld (pv 4) rfl) pe_str (nomark _)) (pw_and1 (pt_cmpR (op_eqD hr.units) (pe_meth (pv 0) TP.cl MW.m MW.ok (hr.mono (by omega)) MW.b .nil pass0 (pa_cons (pv 1) pa_nil)) (pe_lst (pa_cons pe_str pa_nil)) (nomark _)))))
(pss_cons (ps_fldaug (pv 0) pe_int in_add)
(pss_one (ps_fld (pv 4) (pe_meth (pv 0) TP.cl MB.m MB.ok hr MB.b .nil pass0 (pa_cons (pe_op op_add (pv 1) pe_int) pa_nil)) rfl)))
pss_nil)
(pss_one (ps_ret (pv 4))))), ?_⟩
    intro H6 A1 a dx li lo g kvs6 kp S6 haH h6 hl1 hl2 nll hliH hloH
    obtain ⟨⟨dp, hp⟩, _⟩ := id S6.pin
    have npa : a ≠ p := fun z => by
      rw [z, hp] at h6
      injection Option.some.inj h6 with q1
      exact S6.cc q1
    have nta : a ≠ t := ne_of h6 S6.dt (by intro z; cases z)
    have e5 : 5 - d = (4 - d) + 1 := by omega
    refine ⟨_, rfl, a, CS, dx, _, _, rfl, h6, TS.cl, TS.nWord, sf_word, small (by show 2 ≤ 1000; decide), fun T0 hT0 => ?_⟩
    have s7 := same_new hT0 (.tup [.str "if", .str "while"])
    have S7 := S6.same s7
    have kp7 := kp.trans (Keep.of_same s7)
    have h7 := s7 _ _ h6
    have l71 := s7 _ _ hl1
    have l72 := s7 _ _ hl2
    have hp7 := s7 _ _ hp
    refine ⟨T0, _, rfl, .inr (.inl (.inl upd_same)), rfl, rfl, _, rfl, ?_⟩
    generalize upd H6 T0 (.tup [.str "if", .str "while"]) = H7 at s7 S7 kp7 h7 l71 l72 hp7 ⊢
    have ein : (if false = true then !inV (.str x) [.str "if", .str "while"] else inV (.str x) [.str "if", .str "while"]) = decide (x ∈ ([("if" : Str), "while"] : List Str)) := inV_str x [("if" : Str), "while"]
    rw [ein]
    -- the body of an if or while
    have body : ∀ (b post' : List Row) (nb : Nat) (R : VK), rows = (pre ++ [(d, x :: r)]) ++ b ++ post' → Bod sy ms ss (d + 1) b nb → cnt + 1 + nb ≤ 20 → AfterBod (d + 1) post' →
        (∀ (lb : Addr) (H' : Hp) (kvs' : List (Key × V)) (xs : List Addr), Keep p t H7 H' → SAt C CS H' p l m s t (k + 1 + b.length) sy fi ms ss rows kvs' (cnt + 1 + nb) → H7 lb = none → H' lb = some (.lst (xs.map V.ref)) → xs ≠ [] → xs.length ≤ nb → (∀ y ∈ xs, TOk CS (New H7) H' (4 - d) y) → R (.ref lb) H') →
        spBod C CS (d + 1) [.ref p, .int ((d : Int) + 1)] H7 R E0 := fun b post' nb R h1 h2 h3 h4 h5 =>
      ⟨p, l, m, s, t, k + 1, sy, fi, ms, ss, rows, pre ++ [(d, x :: r)], b, post', kvs6, cnt + 1, nb, (by rw [Int.natCast_add]; rfl), S7, h1, by rw [List.length_append, hk]; rfl, hG, h2, h3, h4, hsy, by
        have e : 5 - (d + 1) = 4 - d := by omega
        rw [e]
        exact h5⟩
    cases hS with
    | plain _ x' r' g1 n1 n2 _ =>
      obtain ⟨e1, e2⟩ : x' = x ∧ r' = r := by
        have z := (Prod.mk.inj (List.cons.inj eseg).1).2
        exact ⟨(List.cons.inj z).1, (List.cons.inj z).2⟩
      subst e1 e2
      rw [decide_eq_false (by
        intro z
        rcases List.mem_cons.mp z with z | z
        · exact n1 z
        · exact n2 (List.mem_singleton.mp z))]
      refine iteF ?_
      refine ⟨_, rfl, a, CS, dx, _, _, rfl, h7, TS.cl, TS.nWord, sf_word, rfl, _, rfl, ?_⟩
      rw [decide_eq_false (fun z => n1 (V.str.inj z))]
      refine iteF (iteF ?_)
      refine ⟨_, rfl, q a H7 kvs6 kp7 S7 ?_⟩
      rw [e5]
      exact ⟨haH, dx, _, _, g, li, lo, 0, [], [], h7, l71, l72, ⟨by decide, hliH, hloH⟩, ⟨by decide, by omega⟩, fun y hy => (by cases hy), fun y hy => (by cases hy)⟩
    | loop _ r' b nb g1 _ hB =>
      obtain ⟨e1, e2⟩ : ("while" : Str) = x ∧ r' = r := by
        have z := (Prod.mk.inj (List.cons.inj eseg).1).2
        exact ⟨(List.cons.inj z).1, (List.cons.inj z).2⟩
      subst e1 e2
      refine iteT ?_
      refine ⟨_, rfl, p, dp, _, rfl, hp7, (by kernel_rfl), _, rfl, _, _, rfl, rfl, ?_⟩
      dsimp only [tNil]
      refine body b post nb _ (by rw [hrows, List.append_assoc pre, List.append_assoc pre, List.append_assoc pre]; rfl) hB (by omega) haft.deeper fun lb H8 kvs8 xs kp8 S8 hlb hlb1 hne hlen hT8 => ?_
      have h8 := kp8 _ _ h7 npa nta
      have k8 : Keep p t H (upd H8 a (.ins CS dx (sf ((k : Int) + 1) "while" g lb lo 0))) := fun c o hc n1 n2 => by
        rw [upd_ne (ne_of_none hc haH)]
        exact kp8 _ _ (kp7 _ _ hc n1 n2) n1 n2
      refine ⟨_, rfl, a, CS, dx, _, rfl, h8, TS.cl, TS.nInside, (by show 6 < 1000; decide), ?_⟩
      rw [put_inside]
      have S9 := S8.setSt (li' := lb) (lo' := lo) (fo' := 0) h8
      have h9 : (upd H8 a (.ins CS dx (sf ((k : Int) + 1) "while" g lb lo 0))) a = some (.ins CS dx (sf ((k : Int) + 1) "while" g lb lo 0)) := upd_same
      refine ⟨_, rfl, a, CS, dx, _, _, rfl, h9, TS.cl, TS.nWord, sf_word, rfl, _, rfl, iteF (iteF ?_)⟩
      refine ⟨_, rfl, q a _ kvs8 k8 (by
        have e : k + ((d, ("while" : Str) :: r') :: b).length = k + 1 + b.length := by rw [List.length_cons]; omega
        have e' : cnt + (nb + 1) = cnt + 1 + nb := by omega
        rw [e, e']
        exact S9) ?_⟩
      rw [e5]
      have nlb : lb ≠ a := ne_of hlb1 h8 (by intro z; cases z)
      have l8 : H8 lo = some (.lst []) := kp8 _ _ l72 (ne_of l72 hp7 (by intro z; cases z)) (ne_of l72 S7.dt (by intro z; cases z))
      have nlo : lo ≠ a := ne_of l8 h8 (by intro z; cases z)
      exact ⟨haH, dx, _, _, g, lb, lo, 0, xs, [], h9, by rw [upd_ne nlb]; exact hlb1, by rw [upd_ne nlo]; exact l8, ⟨by omega, S7.grown kp7 _ hlb, hloH⟩, ⟨by decide, by omega⟩, fun y hy => TOk.base (fun c hc => S7.grown kp7 c hc) _ _ (TOk.upd (fun z => by have z2 : H7 a = none := z; rw [h7] at z2; cases z2) h8 _ _ (hT8 y hy)), fun y hy => by cases hy⟩
    | cond _ r' b nb g1 _ hB =>
      obtain ⟨e1, e2⟩ : ("if" : Str) = x ∧ r' = r := by
        have z := (Prod.mk.inj (List.cons.inj eseg).1).2
        exact ⟨(List.cons.inj z).1, (List.cons.inj z).2⟩
      subst e1 e2
      refine iteT ?_
      refine ⟨_, rfl, p, dp, _, rfl, hp7, (by kernel_rfl), _, rfl, _, _, rfl, rfl, ?_⟩
      dsimp only [tNil]
      refine body b post nb _ (by rw [hrows, List.append_assoc pre, List.append_assoc pre, List.append_assoc pre]; rfl) hB (by omega) haft.deeper fun lb H8 kvs8 xs kp8 S8 hlb hlb1 hne hlen hT8 => ?_
      have h8 := kp8 _ _ h7 npa nta
      have k8 : Keep p t H (upd H8 a (.ins CS dx (sf ((k : Int) + 1) "if" g lb lo 0))) := fun c o hc n1 n2 => by
        rw [upd_ne (ne_of_none hc haH)]
        exact kp8 _ _ (kp7 _ _ hc n1 n2) n1 n2
      refine ⟨_, rfl, a, CS, dx, _, rfl, h8, TS.cl, TS.nInside, (by show 6 < 1000; decide), ?_⟩
      rw [put_inside]
      have S9 := S8.setSt (li' := lb) (lo' := lo) (fo' := 0) h8
      have h9 : (upd H8 a (.ins CS dx (sf ((k : Int) + 1) "if" g lb lo 0))) a = some (.ins CS dx (sf ((k : Int) + 1) "if" g lb lo 0)) := upd_same
      have nlb : lb ≠ a := ne_of hlb1 h8 (by intro z; cases z)
      have l8 : H8 lo = some (.lst []) := kp8 _ _ l72 (ne_of l72 hp7 (by intro z; cases z)) (ne_of l72 S7.dt (by intro z; cases z))
      have nlo : lo ≠ a := ne_of l8 h8 (by intro z; cases z)
      have tok : TOk CS (New H) (upd H8 a (.ins CS dx (sf ((k : Int) + 1) "if" g lb lo 0))) (5 - d) a := by
        rw [e5]
        exact ⟨haH, dx, _, _, g, lb, lo, 0, xs, [], h9, by rw [upd_ne nlb]; exact hlb1, by rw [upd_ne nlo]; exact l8, ⟨by omega, S7.grown kp7 _ hlb, hloH⟩, ⟨by decide, by omega⟩, fun y hy => TOk.base (fun c hc => S7.grown kp7 c hc) _ _ (TOk.upd (fun z => by have z2 : H7 a = none := z; rw [h7] at z2; cases z2) h8 _ _ (hT8 y hy)), fun y hy => by cases hy⟩
      generalize upd H8 a (.ins CS dx (sf ((k : Int) + 1) "if" g lb lo 0)) = H9 at k8 S9 h9 tok ⊢
      refine ⟨_, rfl, a, CS, dx, _, _, rfl, h9, TS.cl, TS.nWord, sf_word, rfl, _, rfl, iteT ?_⟩
      obtain ⟨⟨dp9, hp9⟩, _⟩ := id S9.pin
      refine ⟨_, rfl, p, dp9, _, rfl, hp9, (by kernel_rfl), _, rfl, p, l, m, s, t, k + 1 + b.length, d, sy, fi, rows.map lineOf, rfl, S9.pin.ob, S9.ln, by omega, fun A2 H10 s10 hA2 hA21 => ⟨small (by show 1 ≤ 1000; decide), fun A3 hA3 => ?_⟩⟩
      have s11 := same_new hA3 (.lst [.str "else"])
      have hw : ∃ W : List Str, wordsAt (rows.map lineOf) (k + 1 + b.length) d = W ∧ (∀ z ∈ W, PyData.strOk z = true) ∧ W ≠ [("else" : Str)] := by
        refine ⟨_, rfl, ?_, ?_⟩
        · intro z hz
          rw [wordsAt_rows hG] at hz
          cases e : rows[k + 1 + b.length]? with
          | none => rw [e] at hz; cases hz
          | some y =>
            rw [e] at hz
            dsimp only at hz
            split at hz
            · exact (hG y (List.mem_of_getElem? e)).ok z hz
            · cases hz
        · rw [wordsAt_rows hG]
          have e : rows[k + 1 + b.length]? = post.head? := by
            have z := at_post (pre := pre) (seg := (d, ("if" : Str) :: r') :: b) (post := post)
            rw [List.length_cons] at z
            rw [hrows, ← hk, ← z]
            congr 1
            omega
          rw [e]
          cases e2 : post.head? with
          | none => intro z; cases z
          | some y =>
            dsimp only
            split
            · rename_i he
              exact (haft y e2).2 he
            · intro z; cases z
      obtain ⟨W, eW, okW, neW⟩ := hw
      rw [eW] at hA21
      refine ⟨.list (W.map .str), .list (([("else" : Str)]).map .str), .lst (.inl (.inl (s11 _ _ hA21))) (dp_strs W), .lst (.inl (.inl upd_same)) (dp_strs [("else" : Str)]), shaped_strs okW, shaped_strs (by simp; decide +kernel), ?_⟩
      have ev : PyData.eqv (.list (W.map .str)) (.list (([("else" : Str)]).map .str)) = decide (W = [("else" : Str)]) := eqv_strs _ _
      rw [ev, decide_eq_false neW]
      refine ⟨_, rfl, iteF ?_⟩
      have s12 := s10.trans s11
      refine ⟨_, rfl, q a _ kvs8 (k8.trans (Keep.of_same s12)) (by
        have e : k + ((d, ("if" : Str) :: r') :: b).length = k + 1 + b.length := by rw [List.length_cons]; omega
        have e' : cnt + (nb + 1) = cnt + 1 + nb := by omega
        rw [e, e']
        exact S9.same s12) (tok.fol (Fol.of_same s12))⟩
    | both _ r' b c nb mc g1 _ hB hC =>
      obtain ⟨e1, e2⟩ : ("if" : Str) = x ∧ r' = r := by
        have z := (Prod.mk.inj (List.cons.inj eseg).1).2
        exact ⟨(List.cons.inj z).1, (List.cons.inj z).2⟩
      subst e1 e2
      refine iteT ?_
      refine ⟨_, rfl, p, dp, _, rfl, hp7, (by kernel_rfl), _, rfl, _, _, rfl, rfl, ?_⟩
      dsimp only [tNil]
      have hrows1 : rows = (pre ++ [(d, ("if" : Str) :: r')]) ++ b ++ ((d, [("else" : Str)]) :: (c ++ post)) := by
        rw [hrows]
        simp only [List.append_assoc, List.cons_append, List.nil_append]
      have hrows2 : rows = (pre ++ [(d, ("if" : Str) :: r')] ++ b ++ [(d, [("else" : Str)])]) ++ c ++ post := by
        rw [hrows]
        simp only [List.append_assoc, List.cons_append, List.nil_append]
      refine body b ((d, [("else" : Str)]) :: (c ++ post)) nb _ hrows1 hB (by omega) (fun y hy => by
        have e := Option.some.inj hy
        rw [← e]
        exact Nat.lt_succ_self d) fun lb H8 kvs8 xs kp8 S8 hlb hlb1 hne hlen hT8 => ?_
      have h8 := kp8 _ _ h7 npa nta
      have k8 : Keep p t H (upd H8 a (.ins CS dx (sf ((k : Int) + 1) "if" g lb lo 0))) := fun c o hc n1 n2 => by
        rw [upd_ne (ne_of_none hc haH)]
        exact kp8 _ _ (kp7 _ _ hc n1 n2) n1 n2
      refine ⟨_, rfl, a, CS, dx, _, rfl, h8, TS.cl, TS.nInside, (by show 6 < 1000; decide), ?_⟩
      rw [put_inside]
      have S9 := S8.setSt (li' := lb) (lo' := lo) (fo' := 0) h8
      have h9 : (upd H8 a (.ins CS dx (sf ((k : Int) + 1) "if" g lb lo 0))) a = some (.ins CS dx (sf ((k : Int) + 1) "if" g lb lo 0)) := upd_same
      have nlb : lb ≠ a := ne_of hlb1 h8 (by intro z; cases z)
      have l9 : (upd H8 a (.ins CS dx (sf ((k : Int) + 1) "if" g lb lo 0))) lb = some (.lst (xs.map V.ref)) := by rw [upd_ne nlb]; exact hlb1
      have c9 : ∀ y ∈ xs, TOk CS (New H7) (upd H8 a (.ins CS dx (sf ((k : Int) + 1) "if" g lb lo 0))) (4 - d) y := fun y hy => TOk.upd (fun z => by have z2 : H7 a = none := z; rw [h7] at z2; cases z2) h8 _ _ (hT8 y hy)
      generalize upd H8 a (.ins CS dx (sf ((k : Int) + 1) "if" g lb lo 0)) = H9 at k8 S9 h9 l9 c9 ⊢
      refine ⟨_, rfl, a, CS, dx, _, _, rfl, h9, TS.cl, TS.nWord, sf_word, rfl, _, rfl, iteT ?_⟩
      obtain ⟨⟨dp9, hp9⟩, _⟩ := id S9.pin
      refine ⟨_, rfl, p, dp9, _, rfl, hp9, (by kernel_rfl), _, rfl, p, l, m, s, t, k + 1 + b.length, d, sy, fi, rows.map lineOf, rfl, S9.pin.ob, S9.ln, by omega, fun A2 H10 s10 hA2 hA21 => ⟨small (by show 1 ≤ 1000; decide), fun A3 hA3 => ?_⟩⟩
      have s11 := same_new hA3 (.lst [.str "else"])
      have eW : wordsAt (rows.map lineOf) (k + 1 + b.length) d = [("else" : Str)] := by
        rw [wordsAt_rows hG]
        have e : rows[k + 1 + b.length]? = some (d, [("else" : Str)]) := by
          have z := at_post (pre := pre ++ [(d, ("if" : Str) :: r')]) (seg := b) (post := (d, [("else" : Str)]) :: (c ++ post))
          rw [← hrows1, List.length_append, hk] at z
          exact z
        rw [e]
        dsimp only
        rw [if_pos rfl]
      rw [eW] at hA21
      have okE : ∀ z ∈ ([("else" : Str)] : List Str), PyData.strOk z = true := by simp; decide +kernel
      refine ⟨.list (([("else" : Str)]).map .str), .list (([("else" : Str)]).map .str), .lst (.inl (.inl (s11 _ _ hA21))) (dp_strs [("else" : Str)]), .lst (.inl (.inl upd_same)) (dp_strs [("else" : Str)]), shaped_strs okE, shaped_strs okE, ?_⟩
      have ev : PyData.eqv (.list (([("else" : Str)]).map .str)) (.list (([("else" : Str)]).map .str)) = decide (([("else" : Str)]) = [("else" : Str)]) := eqv_strs _ _
      rw [ev, decide_eq_true rfl]
      refine ⟨_, rfl, iteT ?_⟩
      have s12 := s10.trans s11
      have S11 := S9.same s12
      have hp11 := s12 _ _ hp9
      have h11 := s12 _ _ h9
      have l11 := s12 _ _ l9
      have c11 : ∀ y ∈ xs, TOk CS (New H7) (upd H10 A3 (.lst [.str "else"])) (4 - d) y := fun y hy => (c9 y hy).fol (Fol.of_same s12)
      have k11 := k8.trans (Keep.of_same (t := t) (p := p) s12)
      generalize upd H10 A3 (.lst [.str "else"]) = H11 at S11 hp11 h11 l11 c11 k11 ⊢
      obtain ⟨S12, kb⟩ := S11.bump hp11
      refine ⟨_, rfl, p, C, dp9, _, _, rfl, hp11, TP.cl, TP.nNumber, pf_number, _, _, rfl, rfl, dp9, _, hp11, (by show 7 < 1000; decide), ?_⟩
      rw [put_next]
      have h12 := kb _ _ h11 npa nta
      have hp12 : (upd H11 p (.ins C dp9 (pf l (((k + 1 + b.length + 1 : Nat) : Int) + 1) sy m s t fi))) p = some (.ins C dp9 (pf l (((k + 1 + b.length + 1 : Nat) : Int) + 1) sy m s t fi)) := upd_same
      have k12 := k11.trans kb
      have c12 : ∀ y ∈ xs, TOk CS (New H7) (upd H11 p (.ins C dp9 (pf l (((k + 1 + b.length + 1 : Nat) : Int) + 1) sy m s t fi))) (4 - d) y := fun y hy => TOk.keep ⟨dp9, _, hp11⟩ ⟨_, S11.dt⟩ S11.cc kb _ _ (c11 y hy)
      have l12 := kb _ _ l11 (ne_of l11 hp11 (by intro z; cases z)) (ne_of l11 S11.dt (by intro z; cases z))
      generalize upd H11 p (.ins C dp9 (pf l (((k + 1 + b.length + 1 : Nat) : Int) + 1) sy m s t fi)) = H12 at S12 kb h12 hp12 k12 c12 l12 ⊢
      refine ⟨_, rfl, p, dp9, _, rfl, hp12, (by kernel_rfl), _, rfl, _, _, rfl, rfl, ?_⟩
      dsimp only [tNil]
      refine ⟨p, l, m, s, t, k + 1 + b.length + 1, sy, fi, ms, ss, rows, pre ++ [(d, ("if" : Str) :: r')] ++ b ++ [(d, [("else" : Str)])], c, post, kvs8, cnt + 1 + nb, mc, (by rw [Int.natCast_add]; rfl), S12, hrows2, by simp only [List.length_append, hk]; rfl, hG, hC, by omega, haft.deeper, hsy, fun lc H13 kvs13 ys kp13 S13 hlc hlc1 hne2 hlen2 hT13 => ?_⟩
      have e4 : 5 - (d + 1) = 4 - d := by omega
      rw [e4] at hT13
      have h13 := kp13 _ _ h12 npa nta
      have l13 := kp13 _ _ l12 (ne_of l12 hp12 (by intro z; cases z)) (ne_of l12 S12.dt (by intro z; cases z))
      have c13 : ∀ y ∈ xs, TOk CS (New H7) H13 (4 - d) y := fun y hy => TOk.keep ⟨dp9, _, hp12⟩ ⟨_, S12.dt⟩ S12.cc kp13 _ _ (c12 y hy)
      refine ⟨_, rfl, a, CS, dx, _, rfl, h13, TS.cl, TS.nOtherwise, (by show 6 < 1000; decide), ?_⟩
      rw [put_otherwise]
      have nlb3 : lb ≠ a := ne_of l13 h13 (by intro z; cases z)
      have nlc3 : lc ≠ a := ne_of hlc1 h13 (by intro z; cases z)
      refine ⟨_, rfl, q a _ kvs13 (fun c o hc n1 n2 => ?_) ?_ ?_⟩
      · rw [upd_ne (ne_of_none hc haH)]
        exact kp13 _ _ (k12 _ _ hc n1 n2) n1 n2
      · have e : k + ((d, ("if" : Str) :: r') :: (b ++ (d, [("else" : Str)]) :: c)).length = k + 1 + b.length + 1 + c.length := by
          rw [List.length_cons, List.length_append, List.length_cons]; omega
        have e' : cnt + (nb + 1 + mc) = cnt + 1 + nb + mc := by omega
        rw [e, e']
        exact S13.setSt h13
      · rw [e5]
        exact ⟨haH, dx, _, _, g, lb, lc, 0, xs, ys, upd_same, by rw [upd_ne nlb3]; exact l13, by rw [upd_ne nlc3]; exact hlc1, ⟨by omega, S7.grown kp7 _ hlb, S12.grown k12 _ hlc⟩, ⟨by omega, by omega⟩,
          fun y hy => TOk.base (fun c hc => S7.grown kp7 c hc) _ _ (TOk.upd (fun z => by have z2 : H7 a = none := z; rw [h7] at z2; cases z2) h13 _ _ (c13 y hy)),
          fun y hy => TOk.base (fun c hc => S12.grown k12 c hc) _ _ (TOk.upd (fun z => by have z2 : H12 a = none := z; rw [h12] at z2; cases z2) h13 _ _ (hT13 y hy))⟩
  obtain ⟨tt, ht, hrest⟩ := rest
  refine ⟨_, (pss_cons (ps_set (i := 2) sc_Parser_read_statement.nd rfl (Or.inl rfl) (pe_meth (pv 0) TP.cl MW.m MW.ok (hr.mono (by omega)) MW.b .nil pass0 (pa_cons (pv 1) pa_nil)))
(pss_cons (ps_set (i := 3) sc_Parser_read_statement.nd rfl (Or.inl rfl) (pe_meth (pv 0) TP.cl MG.m MG.ok (hr.mono hL) MG.b .nil pass0 (pa_cons (pv 2) pa_nil)))
(pss_cons (ps_if (PW.pt (pw_or (pt_cmpR op_isN (pv 3) pe_non (nomark _)) (pw_or1 (pt_cmpR op_eq (pe_callB call_lenD (by rfl) T.len PySem.boot_len (pa_cons (pe_fld (pv 0) rfl) pa_nil)) (pe_glob (v := .int 20) rfl g20 ⟨_, rfl⟩) (nomark _)))))
(pss_one ps_never)
pss_nil)
(pss_cons (ps_set (i := 4) sc_Parser_read_statement.nd rfl (Or.inl rfl) (pe_make MI.mkr MI.ok (hr.mono (by omega)) rfl MI.mg MI.b .nil pass0 (pa_cons (pe_fld (pv 0) rfl) (pa_cons (pe_ix ix_list (pv 2) pe_int (fun _ _ => rfl)) (pa_cons (pv 3) pa_nil)))))
(pss_cons (ps_dput hu (pe_fld (pv 0) rfl) (pe_fld (pv 0) rfl) (pv 4) rfl)
(pss_cons (ps_fldaug (pv 0) pe_int in_add) ht)))))), ?_⟩
  obtain ⟨⟨dp, hp⟩, mo, hst, nm, ns⟩ := S.pin
  -- words, given
  refine ⟨_, rfl, p, dp, _, rfl, hp, (by kernel_rfl), _, rfl, p, l, m, s, t, k, d, sy, fi, rows.map lineOf, rfl, S.pin.ob, S.ln, by omega, fun A1 H1 s1 hA hA1 => ?_⟩
  rw [wordsAt_rows hG, hat] at hA1
  have hA1' : H1 A1 = some (.lst ((x :: r).map V.str)) := by
    rw [hA1]
    dsimp only
    rw [if_pos rfl]
  have S1 := S.same s1
  refine ⟨_, rfl, p, dp, _, rfl, s1 _ _ hp, (by kernel_rfl), _, rfl, p, l, m, s, t, A1, _, sy, fi, ms, ss, x, r, rfl, S1.pin, .inl (.inl hA1'), hgiv, hsy, fun g H2 s2 hg => ?_⟩
  have s12 := s1.trans s2
  have S2 := S.same s12
  refine ⟨_, rfl, rfl, _, rfl, ?_⟩
  rw [decide_eq_false hg.1]
  refine iteF ?_
  refine ⟨_, rfl, p, C, dp, _, _, rfl, s12 _ _ hp, TP.cl, TP.nStatements, pf_statements, t, kvs, rfl, S2.dt, rfl, _, rfl, ?_⟩
  have hlt : decide (V.int ((kvs.length : Nat) : Int) = V.int 20) = false := decide_eq_false fun z => by
    have := V.int.inj z
    rw [S.few] at this
    omega
  rw [hlt]
  refine iteF ?_
  -- the statement
  refine ⟨_, rfl, p, C, dp, _, _, rfl, s12 _ _ hp, TP.cl, TP.nNumber, pf_number, _, rfl, A1, _, 0, .str x, rfl, rfl, .inl (.inl (s2 _ _ hA1')), at_of (j := 0) rfl rfl, _, rfl, fun a dx ha hdx ne => ?_⟩
  refine ⟨a, dx, _, x, g, rfl, upd_same, fun li lo H3 hli hlo nll h3 hl1 hl2 k3 => ⟨rfl, ?_⟩⟩
  have sn : Same H2 (upd (upd H2 dx (.own a)) a (.ins CS dx [])) := fun b o e => by
    rw [upd_ne (ne_of_none e ha), upd_ne (ne_of_none e hdx)]
    exact e
  have s3 : Same H2 H3 := fun b o e => k3 b o (sn b o e) (ne_of_none e ha)
  have s123 := s12.trans s3
  have S3 := S.same s123
  -- self.statements[self.number] = statement
  have hnone : valV kvs (Sum.inl ((k : Int) + 1) : Key) = none := by
    cases e : valV kvs (Sum.inl ((k : Int) + 1) : Key) with
    | none => rfl
    | some v =>
      obtain ⟨kv, hkv, e2⟩ := List.mem_map.mp (valV_in e)
      obtain ⟨i, h1, h2⟩ := S.keys kv hkv
      rw [h1] at e2
      have := Sum.inl.inj e2
      omega
  refine ⟨_, rfl, _, rfl, p, C, dp, _, _, rfl, s123 _ _ hp, TP.cl, TP.nStatements, pf_statements, _, rfl, p, C, dp, _, _, rfl, s123 _ _ hp, TP.cl, TP.nNumber, pf_number, t, _, rfl, DPut.k (k := Sum.inl ((k : Int) + 1)) S3.dt (small1000 (by rw [S.few]; omega)), ?_⟩
  rw [putK_new _ hnone]
  have npt : p ≠ t := ne_of (s123 _ _ hp) S3.dt (by intro z; cases z)
  -- self.number += 1
  have hp4 : (upd H3 t (.dK (kvs ++ [((Sum.inl ((k : Int) + 1) : Key), V.ref a)]))) p = some (.ins C dp (pf l ((k : Int) + 1) sy m s t fi)) := by rw [upd_ne npt]; exact s123 _ _ hp
  refine ⟨_, rfl, p, C, dp, _, _, rfl, hp4, TP.cl, TP.nNumber, pf_number, _, _, rfl, rfl, dp, _, hp4, (by show 7 < 1000; decide), ?_⟩
  rw [put_next]
  have haH : H a = none := s12.free ha
  have npa : a ≠ p := (ne_of_none (s12 _ _ hp) ha).symm
  have nta : a ≠ t := (ne_of_none S2.dt ha).symm
  have nlt : ∀ {b : Addr} {us : List V}, H3 b = some (.lst us) → b ≠ p ∧ b ≠ t := fun h => ⟨ne_of h (s123 _ _ hp) (by intro z; cases z), ne_of h S3.dt (by intro z; cases z)⟩
  have kp : Keep p t H (upd (upd H3 t (.dK (kvs ++ [((Sum.inl ((k : Int) + 1) : Key), V.ref a)]))) p (.ins C dp (pf l (((k + 1 : Nat) : Int) + 1) sy m s t fi))) := fun b o hb n1 n2 => by
    rw [upd_ne n1, upd_ne n2]
    exact s123 _ _ hb
  refine hrest _ A1 a dx li lo g (kvs ++ [((Sum.inl ((k : Int) + 1) : Key), V.ref a)]) kp ?_ haH ?_ ?_ ?_ nll (s12.free (sn.free hli)) (s12.free (sn.free hlo))
  · have nmp : m ≠ p := ne_of mo hp (by intro z; cases z)
    have nsp : s ≠ p := ne_of hst hp (by intro z; cases z)
    obtain ⟨nlp, nl2⟩ := nlt S3.ln.at_
    refine ⟨⟨⟨dp, upd_same⟩, by rw [upd_ne nmp, upd_ne S.nm]; exact s123 _ _ mo, by rw [upd_ne nsp, upd_ne S.ns]; exact s123 _ _ hst, nm, ns⟩, ⟨by rw [upd_ne nlp, upd_ne nl2]; exact S3.ln.at_, S.ln.few, S.ln.short⟩, by rw [upd_ne npt.symm]; exact upd_same, ?_, ?_, ?_, S.nm, S.ns, S.cc⟩
    · rw [List.length_append, S.few]; rfl
    · intro kv hkv
      rcases List.mem_append.mp hkv with h | h
      · obtain ⟨i, h1, h2⟩ := S.keys kv h
        exact ⟨i, h1, by omega⟩
      · rw [List.mem_singleton.mp h]
        exact ⟨k + 1, by show Sum.inl _ = Sum.inl _; congr 1, Nat.le_refl _⟩
    · intro kv hkv
      rcases List.mem_append.mp hkv with h | h
      · obtain ⟨b, h1, h2⟩ := S.ok kv h
        exact ⟨b, h1, h2.keep S kp⟩
      · rw [List.mem_singleton.mp h]
        refine ⟨a, rfl, dx, _, x, g, li, lo, 0, by rw [upd_ne npa, upd_ne nta]; exact h3, hg.2⟩
  · rw [upd_ne npa, upd_ne nta]; exact h3
  · obtain ⟨e1, e2⟩ := nlt hl1
    rw [upd_ne e1, upd_ne e2]; exact hl1
  · obtain ⟨e1, e2⟩ := nlt hl2
    rw [upd_ne e1, upd_ne e2]; exact hl2
end
end Fh
set_option Elab.async false
set_option linter.all false
set_option maxRecDepth 100000
set_option maxHeartbeats 4000000
namespace Fh
open PySem L2 TL
abbrev s_Parser_read_body : Stmt := inClass (top 32) 8
abbrev sc_Parser_read_bodyN : List Str := ["self", "depth", "body"]
theorem sc_Parser_read_body : FnScope sc_Parser_read_bodyN ["self", "depth"] (defScope s_Parser_read_body) := ⟨rfl, rfl, rfl, by decide +kernel, rfl, by decide +kernel, by decide +kernel⟩
/-- one statement, and what may be left -/
theorem Bod.split {sy : Str} {ms ss : NV} {d : Nat} {seg : List Row} {n : Nat} (h : Bod sy ms ss d seg n) : ∃ (s t : List Row) (i j : Nat), seg = s ++ t ∧ n = i + j ∧ Stm sy ms ss d s i ∧ (t = [] ∧ j = 0 ∨ Bod sy ms ss d t j) := by
  cases h with
  | one _ s n h => exact ⟨_, [], _, 0, (List.append_nil _).symm, rfl, h, .inl ⟨rfl, rfl⟩⟩
  | more _ s t n m h1 h2 => exact ⟨s, t, n, m, rfl, rfl, h1, .inr h2⟩
theorem aft_split {sy : Str} {ms ss : NV} {d : Nat} {t post : List Row} {j : Nat} (h : t = [] ∧ j = 0 ∨ Bod sy ms ss d t j) (ha : AfterBod d post) : AfterStm d (t ++ post) := by
  rcases h with ⟨rfl, _⟩ | h
  · exact AfterStm.of_bod ha
  · exact AfterStm.bod h
section
variable {P : Program} {w : World} {K : PySem.W.Frag} {mg : Str → Option Value} {base : Heap}
theorem ok_read_body {f C CS : Addr} {fd : FuncData} {d L : Nat} (F : Fun K "read_body" "Parser.read_body" s_Parser_read_body f fd) (T1 : Consts K mg) (TP : PTxt K C) (hd : d ≤ 4) (hL : 1 ≤ L)
    (MW : Meter P w K mg base C 1 "words_at" ["self", "depth"] (spWords C)) (MS : Meter P w K mg base C L "read_statement" ["self", "depth"] (spStm C CS d)) : FnOk P w K mg base CX0 (L + 1) f fd ["self", "depth"] (spBod C CS d) := by
  refine F.ok sc_Parser_read_body (fun vs H Q E h => ?_) (fun cdv A outer st H vs Q E hr h => ?_)
  · obtain ⟨p, l, m, s, t, k, sy, fi, ms, ss, rows, pre, seg, post, kvs, cnt, n, rfl, _⟩ := h
    rfl
  obtain ⟨p, l, m, s, t, k, sy, fi, ms, ss, rows, pre, seg, post, kvs, cnt, n, rfl, S, hrows, hk, hG, hB, hcnt, haft, hsy, q⟩ := h
  obtain ⟨t4, g4⟩ := T1.mostBodies
  refine ⟨_, (pss_cons (ps_if (pt_cmpR op_gt (pv 1) (pe_glob (v := .int 4) rfl g4 ⟨_, rfl⟩) (nomark _))
(pss_one ps_never)
pss_nil)
(pss_cons (ps_set (i := 2) sc_Parser_read_body.nd rfl (Or.inl rfl) (pe_lst (pa_cons (pe_meth (pv 0) TP.cl MS.m MS.ok hr MS.b .nil pass0 (pa_cons (pv 1) pa_nil)) pa_nil)))
(pss_cons (ps_while PassesOwn.never (pt_truth (pe_meth (pv 0) TP.cl MW.m MW.ok (hr.mono hL) MW.b .nil pass0 (pa_cons (pv 1) pa_nil)) (by intro _; rfl))
(pss_one (ps_expr (pe_bm PySem.F.plainAttrs_list PySem.F.slot_list_append PySem.F.type_list_append mt_append (pv 2) (pa_cons (pe_meth (pv 0) TP.cl MS.m MS.ok hr MS.b .nil pass0 (pa_cons (pv 1) pa_nil)) pa_nil)))))
(pss_one (ps_ret (pv 2)))))), ?_⟩
  obtain ⟨⟨dp, hp⟩, _⟩ := id S.pin
  refine ⟨_, rfl, _, _, rfl, rfl, _, rfl, ?_⟩
  have e0 : decide ((4 : Int) < (d : Int)) = false := decide_eq_false (by omega)
  rw [e0]
  refine iteF ?_
  obtain ⟨s0, t0, i0, j0, rfl, rfl, hS0, hT0⟩ := hB.split
  have hrows0 : rows = pre ++ s0 ++ (t0 ++ post) := by rw [hrows]; simp only [List.append_assoc]
  have hi0 : 1 ≤ i0 := by
    obtain ⟨_, _, _, _, _, _, z⟩ := hS0.first
    exact z
  refine ⟨_, rfl, p, dp, _, rfl, hp, (by kernel_rfl), _, rfl, ?_⟩
  dsimp only [tNil]
  refine ⟨p, l, m, s, t, k, sy, fi, ms, ss, rows, pre, s0, t0 ++ post, kvs, cnt, i0, rfl, S, hrows0, hk, hG, hS0, by omega, aft_split hT0 haft, hsy, fun a H1 kvs1 k1 S1 hta => ?_⟩
  refine ⟨small (by show 1 ≤ 1000; decide), fun lb hlb => ?_⟩
  have sL := same_new hlb (.lst [.ref a])
  have hlbH : H lb = none := S1.grown k1 _ hlb
  refine ⟨fun mm σ H2 => ∃ (pre2 t2 : List Row) (j2 cnt2 : Nat) (kvs2 : List (Key × V)) (xs : List Addr), σ = [some (.ref p), some (.int (d : Int)), some (.ref lb)] ∧ mm = t2.length ∧ rows = pre2 ++ t2 ++ post ∧ (t2 = [] ∧ j2 = 0 ∨ Bod sy ms ss d t2 j2) ∧
      SAt C CS H2 p l m s t pre2.length sy fi ms ss rows kvs2 cnt2 ∧ cnt2 + j2 = cnt + (i0 + j0) ∧ pre2.length + t2.length = k + (s0 ++ t0).length ∧ Keep p t H H2 ∧ H2 lb = some (.lst (xs.map V.ref)) ∧ xs ≠ [] ∧ xs.length + j2 ≤ i0 + j0 ∧ ∀ x ∈ xs, TOk CS (fun c => New H c ∧ c ≠ lb) H2 (5 - d) x, ?_, ?_⟩
  · refine ⟨t0.length, pre ++ s0, t0, j0, cnt + i0, kvs1, [a], rfl, rfl, by rw [hrows]; simp only [List.append_assoc], hT0, ?_, by omega, by simp only [List.length_append, hk]; omega, k1.trans (Keep.of_same sL), upd_same, by simp, by simp; omega, ?_⟩
    · rw [List.length_append, hk]
      exact S1.same sL
    · intro x hx
      rw [List.mem_singleton.mp hx]
      exact (TOk.avoid hlb _ _ hta).fol (Fol.of_same sL)
  · rintro mm σ H2 ⟨pre2, t2, j2, cnt2, kvs2, xs, rfl, rfl, hr2, hT2, S2, hc2, hl2, k2, hlb2, hne, hxs, hx⟩
    obtain ⟨⟨dp2, hp2⟩, _⟩ := id S2.pin
    refine ⟨_, rfl, p, dp2, _, rfl, hp2, (by kernel_rfl), _, rfl, p, l, m, s, t, pre2.length, d, sy, fi, rows.map lineOf, rfl, S2.pin.ob, S2.ln, by omega, fun A2 H3 s3 hA2 hA21 => ?_⟩
    have S3 := S2.same s3
    have hp3 := s3 _ _ hp2
    have hlb3 := s3 _ _ hlb2
    have k3 := k2.trans (Keep.of_same s3)
    rcases hT2 with ⟨rfl, rfl⟩ | hB2
    · have eW : wordsAt (rows.map lineOf) pre2.length d = [] := by
        rw [wordsAt_rows hG]
        have e : rows[pre2.length]? = post.head? := by
          have z := at_post (pre := pre2) (seg := []) (post := post)
          rw [← hr2] at z
          exact z
        rw [e]
        cases e2 : post.head? with
        | none => rfl
        | some y =>
          dsimp only
          rw [if_neg (by have := haft y e2; omega)]
      rw [eW] at hA21
      refine ⟨false, .inl ⟨_, .inl (.inl hA21), rfl⟩, iteF ?_⟩
      refine ⟨_, rfl, q lb H3 kvs2 xs k3 ?_ hlbH hlb3 hne (by omega) fun x h => (TOk.base (fun c hc => hc.1) _ _ (hx x h)).fol (Fol.of_same s3)⟩
      have e1 : k + (s0 ++ t0).length = pre2.length := by rw [← hl2]; rfl
      have e2 : cnt + (i0 + j0) = cnt2 := by omega
      rw [e1, e2]
      exact S3
    · obtain ⟨s4, t4', i4, j4, rfl, rfl, hS4, hT4⟩ := hB2.split
      obtain ⟨x4, r4, rest4, e4, _, _, hi4⟩ := hS4.first
      have hr4 : rows = pre2 ++ s4 ++ (t4' ++ post) := by rw [hr2]; simp only [List.append_assoc]
      have eW : wordsAt (rows.map lineOf) pre2.length d = x4 :: r4 := by
        rw [wordsAt_rows hG]
        have e : rows[pre2.length]? = some (d, x4 :: r4) := by rw [hr4]; exact at_pre e4
        rw [e]
        dsimp only
        rw [if_pos rfl]
      rw [eW] at hA21
      refine ⟨true, .inl ⟨_, .inl (.inl hA21), rfl⟩, iteT ?_⟩
      refine ⟨fun σ' H' => ∃ m', m' < (s4 ++ t4').length ∧ ∃ (pre2 t2 : List Row) (j2 cnt2 : Nat) (kvs2 : List (Key × V)) (xs : List Addr), σ' = [some (.ref p), some (.int (d : Int)), some (.ref lb)] ∧ m' = t2.length ∧ rows = pre2 ++ t2 ++ post ∧ (t2 = [] ∧ j2 = 0 ∨ Bod sy ms ss d t2 j2) ∧
        SAt C CS H' p l m s t pre2.length sy fi ms ss rows kvs2 cnt2 ∧ cnt2 + j2 = cnt + (i0 + j0) ∧ pre2.length + t2.length = k + (s0 ++ t0).length ∧ Keep p t H H' ∧ H' lb = some (.lst (xs.map V.ref)) ∧ xs ≠ [] ∧ xs.length + j2 ≤ i0 + j0 ∧ ∀ x ∈ xs, TOk CS (fun c => New H c ∧ c ≠ lb) H' (5 - d) x, fun σ' H' z => z, ?_⟩
      refine ⟨_, rfl, .inl ⟨rfl, _, .inl (.inl hlb3)⟩, _, rfl, p, dp2, _, rfl, hp3, (by kernel_rfl), _, rfl, ?_⟩
      dsimp only [tNil]
      refine ⟨p, l, m, s, t, pre2.length, sy, fi, ms, ss, rows, pre2, s4, t4' ++ post, kvs2, cnt2, i4, rfl, S3, hr4, rfl, hG, hS4, by omega, aft_split hT4 haft, hsy, fun a5 H5 kvs5 k5 S5 hta5 => ?_⟩
      have nlp : lb ≠ p := ne_of hlb3 hp3 (by intro z; cases z)
      have nlt : lb ≠ t := ne_of hlb3 S3.dt (by intro z; cases z)
      have hlb5 := k5 _ _ hlb3 nlp nlt
      refine ⟨lb, _, _, rfl, rfl, hlb5, ?_, ?_⟩
      · rw [List.length_map]
        exact small1000 (by omega)
      · have el : xs.map V.ref ++ [V.ref a5] = (xs ++ [a5]).map V.ref := by rw [List.map_append]; rfl
        rw [el]
        obtain ⟨⟨dp5, hp5⟩, mo5, st5, _, _⟩ := id S5.pin
        have kk : Keep p t H (upd H5 lb (.lst ((xs ++ [a5]).map V.ref))) := fun b o hb n1 n2 => by
          rw [upd_ne (ne_of_none hb hlbH)]
          exact k5 _ _ (k3 _ _ hb n1 n2) n1 n2
        have nb : ∀ {b : Addr} {o : HO}, H5 b = some o → (∀ us, o ≠ .lst us) → b ≠ lb := fun h z => ne_of h hlb5 (z _)
        have nlbN : ¬ (fun c => New H c ∧ c ≠ lb) lb := fun z => z.2 rfl
        refine ⟨t4'.length, by rw [List.length_append]; have z : 1 ≤ s4.length := by (rw [e4, List.length_cons]; omega)
                               omega, pre2 ++ s4, t4', j4, cnt2 + i4, kvs5, xs ++ [a5], rfl, rfl, by rw [hr4]; simp only [List.append_assoc], hT4, ?_, by omega, by rw [List.length_append]; rw [List.length_append] at hl2; omega, kk, upd_same, by simp, by rw [List.length_append]; show xs.length + 1 + j4 ≤ _; omega, ?_⟩
        · have nlp5 : p ≠ lb := nlp.symm
          have n1 : m ≠ lb := ne_of mo5 hlb5 (by intro z; cases z)
          have n2 : s ≠ lb := ne_of st5 hlb5 (by intro z; cases z)
          have n3 : l ≠ lb := fun z => by
            have h1 := S.ln.at_
            rw [z, hlbH] at h1
            cases h1
          obtain ⟨_, _, _, nm5, ns5⟩ := id S5.pin
          rw [List.length_append]
          refine ⟨⟨⟨dp5, by rw [upd_ne nlp5]; exact hp5⟩, by rw [upd_ne n1]; exact mo5, by rw [upd_ne n2]; exact st5, nm5, ns5⟩, ⟨by rw [upd_ne n3]; exact S5.ln.at_, S5.ln.few, S5.ln.short⟩, by rw [upd_ne nlt.symm]; exact S5.dt, S5.few, S5.keys, fun kv h => ?_, S5.nm, S5.ns, S5.cc⟩
          obtain ⟨b, h1, dx, ln, wd, g, li, lo, fo, h2, h3⟩ := S5.ok kv h
          exact ⟨b, h1, dx, ln, wd, g, li, lo, fo, by rw [upd_ne (ne_of h2 hlb5 (by intro z; cases z))]; exact h2, h3⟩
        · intro x h
          rcases List.mem_append.mp h with h | h
          · exact TOk.updL nlbN _ _ (TOk.keep ⟨dp2, _, hp3⟩ ⟨_, S3.dt⟩ S3.cc k5 _ _ ((hx x h).fol (Fol.of_same s3)))
          · rw [List.mem_singleton.mp h]
            refine TOk.updL nlbN _ _ (TOk.base (fun c hc => ⟨S3.grown k3 c hc, fun z => ?_⟩) _ _ hta5)
            rw [z] at hc
            have hc2 : H3 lb = none := hc
            rw [hlb3] at hc2
            cases hc2
end
end Fh
set_option Elab.async false
set_option linter.all false
set_option maxRecDepth 100000
set_option maxHeartbeats 4000000
namespace Fh
open PySem L2 TL
/-- all is as it was but the parser, the dict of statements and what follows statements -/
def KeepF (CS p t : Addr) (H H' : Hp) : Prop := ∀ b o, H b = some o → b ≠ p → b ≠ t → (∀ dx fs, o ≠ .ins CS dx fs) → H' b = some o
theorem Keep.f {CS p t : Addr} {H H' : Hp} (e : Keep p t H H') : KeepF CS p t H H' := fun b o h n1 n2 _ => e b o h n1 n2
theorem Fol.f {CS p t : Addr} {H H' : Hp} (e : Fol CS H H') : KeepF CS p t H H' := fun b o h _ _ n => by
  rcases e b o h with h1 | ⟨dx, _, _, _, _, _, _, _, e1, _⟩
  · exact h1
  · exact absurd e1 (n _ _)
theorem KeepF.trans {CS p t : Addr} {H H1 H2 : Hp} (a : KeepF CS p t H H1) (b : KeepF CS p t H1 H2) : KeepF CS p t H H2 := fun c o h n1 n2 n => b c o (a c o h n1 n2 n) n1 n2 n
theorem SAt.fol {C CS : Addr} {H H' : Hp} {p l m s t : Addr} {k : Nat} {sy : Str} {fi : Int} {ms ss : NV} {rows : List Row} {kvs : List (Key × V)} {cnt : Nat} (S : SAt C CS H p l m s t k sy fi ms ss rows kvs cnt) (e : Fol CS H H') : SAt C CS H' p l m s t k sy fi ms ss rows kvs cnt := by
  obtain ⟨⟨dp, hp⟩, mo, st, nm, ns⟩ := S.pin
  have f : ∀ {b : Addr} {o : HO}, H b = some o → (∀ dx fs, o ≠ .ins CS dx fs) → H' b = some o := fun {b o} h n => by
    rcases e b o h with h1 | ⟨dx, _, _, _, _, _, _, _, e1, _⟩
    · exact h1
    · exact absurd e1 (n _ _)
  refine ⟨⟨⟨dp, f hp fun dx fs z => by injection z with q; exact S.cc q⟩, f mo (by intro _ _ z; cases z), f st (by intro _ _ z; cases z), nm, ns⟩, ⟨f S.ln.at_ (by intro _ _ z; cases z), S.ln.few, S.ln.short⟩, f S.dt (by intro _ _ z; cases z), S.few, S.keys, fun kv h => ?_, S.nm, S.ns, S.cc⟩
  obtain ⟨a, h1, dx, ln, wd, g, li, lo, fo, h2, h3⟩ := S.ok kv h
  obtain ⟨fo', h4⟩ := e.st h2
  exact ⟨a, h1, dx, ln, wd, g, li, lo, fo', h4, h3⟩
section
variable {P : Program} {w : World} {K : PySem.W.Frag} {mg : Str → Option Value} {base : Heap}
/-! ### the tower of bodies -/
theorem ok_body5 {f C CS : Addr} {fd : FuncData} : FnOk P w K mg base CX0 4 f fd ["self", "depth"] (spBod C CS 5) := by
  have no : ∀ vs H Q E, ¬ spBod C CS 5 vs H Q E := fun vs H Q E h => by
    obtain ⟨p, l, m, s, t, k, sy, fi, ms, ss, rows, pre, seg, post, kvs, cnt, n, _, _, _, _, _, hB, _⟩ := h
    obtain ⟨_, _, _, _, _, h5, _⟩ := hB.first
    omega
  exact ⟨fun vs H Q E h => absurd h (no vs H Q E), fun A outer s H args us vs Q E _ _ _ _ h => absurd h (no vs H Q E)⟩
theorem ok_bodies {fB fS C CS : Addr} {fdB fdS : FuncData} (FB : Fun K "read_body" "Parser.read_body" s_Parser_read_body fB fdB) (FS : Fun K "read_statement" "Parser.read_statement" s_Parser_read_statement fS fdS) (mB : Meth K C "read_body" fB) (mS : Meth K C "read_statement" fS) (bB : Binds K fdB ["self", "depth"] []) (bS : Binds K fdS ["self", "depth"] [])
    (T : Bare mg) (T1 : Consts K mg) (TP : PTxt K C) (TS : STxt K CS) (MW : Meter P w K mg base C 1 "words_at" ["self", "depth"] (spWords C)) (MG : Meter P w K mg base C 3 "given_by" ["self", "words"] (spGiven K C)) (MI : Maker P w K mg base CS 1 "Statement" ["self", "line", "word", "given"] (spStInit CS)) :
    ∀ j, j ≤ 4 → FnOk P w K mg base CX0 (2 * j + 4) fB fdB ["self", "depth"] (spBod C CS (5 - j))
  | 0, _ => ok_body5
  | j + 1, hj => by
    have ih := ok_bodies FB FS mB mS bB bS T T1 TP TS MW MG MI j (by omega)
    have e : 5 - j = (5 - (j + 1)) + 1 := by omega
    rw [e] at ih
    have hs := ok_read_statement FS T T1 TP TS (d := 5 - (j + 1)) (by omega) (by omega) MW MG MI ⟨fB, fdB, ih, mB, bB⟩
    exact ok_read_body FB T1 TP (by omega) (by omega) MW ⟨fS, fdS, hs, mS, bS⟩
/-! ### read_whole_body -/
abbrev s_Parser_read_whole_body : Stmt := inClass (top 32) 7
abbrev sc_Parser_read_whole_bodyN : List Str := ["self", "body"]
theorem sc_Parser_read_whole_body : FnScope sc_Parser_read_whole_bodyN ["self"] (defScope s_Parser_read_whole_body) := ⟨rfl, rfl, rfl, by decide +kernel, rfl, by decide +kernel, by decide +kernel⟩
def spWhole (C CS : Addr) : Sp := fun vs H Q _ => ∃ (p l m s t : Addr) (k : Nat) (sy : Str) (fi : Int) (ms ss : NV) (rows pre seg post : List Row) (kvs : List (Key × V)) (cnt n : Nat), vs = [.ref p] ∧
  SAt C CS H p l m s t k sy fi ms ss rows kvs cnt ∧ rows = pre ++ seg ++ post ∧ pre.length = k + 1 ∧ Good rows ∧ Bod sy ms ss 1 seg n ∧ cnt + n ≤ 20 ∧ AfterBod 1 post ∧ sy.length ≤ 10 ∧
  ∀ (v : Nat) (H' : Hp) (kvs' : List (Key × V)), KeepF CS p t H H' → SAt C CS H' p l m s t (k + 1 + seg.length) sy fi ms ss rows kvs' (cnt + n) → Q (.int (v : Int)) H'
theorem ok_read_whole_body {f C CS : Addr} {fd : FuncData} (F : Fun K "read_whole_body" "Parser.read_whole_body" s_Parser_read_whole_body f fd) (TP : PTxt K C) (TS : STxt K CS) (MB : Meter P w K mg base C 12 "read_body" ["self", "depth"] (spBod C CS 1)) (CL : Callee P w K mg base 5 "link" ["body", "end"] (spLink CS 5)) :
    FnOk P w K mg base CX0 13 f fd ["self"] (spWhole C CS) := by
  refine F.ok sc_Parser_read_whole_body (fun vs H Q E h => ?_) (fun cdv A outer st H vs Q E hr h => ?_)
  · obtain ⟨p, l, m, s, t, k, sy, fi, ms, ss, rows, pre, seg, post, kvs, cnt, n, rfl, _⟩ := h
    rfl
  obtain ⟨p, l, m, s, t, k, sy, fi, ms, ss, rows, pre, seg, post, kvs, cnt, n, rfl, S, hrows, hk, hG, hB, hcnt, haft, hsy, q⟩ := h
  refine ⟨_, (pss_cons (ps_fldaug (pv 0) pe_int in_add)
(pss_cons (ps_set (i := 1) sc_Parser_read_whole_body.nd rfl (Or.inl rfl) (pe_meth (pv 0) TP.cl MB.m MB.ok (hr.mono (by decide)) MB.b .nil pass0 (pa_cons pe_int pa_nil)))
(pss_cons (ps_expr (pe_call CL.ok (hr.mono (by decide)) rfl CL.mg CL.kp CL.b .nil pass0 (pa_cons (pv 1) (pa_cons pe_int pa_nil))))
(pss_one (ps_ret (pe_fld (pe_ix ix_list (pv 1) pe_int (fun _ _ => rfl)) rfl)))))), ?_⟩
  obtain ⟨⟨dp, hp⟩, _⟩ := id S.pin
  obtain ⟨S1, k1⟩ := S.bump hp
  refine ⟨_, rfl, p, C, dp, _, _, rfl, hp, TP.cl, TP.nNumber, pf_number, _, _, rfl, rfl, dp, _, hp, (by show 7 < 1000; decide), ?_⟩
  rw [put_next]
  obtain ⟨⟨dp1, hp1⟩, _⟩ := id S1.pin
  refine ⟨_, rfl, p, dp1, _, rfl, hp1, (by kernel_rfl), ?_⟩
  refine ⟨p, l, m, s, t, k + 1, sy, fi, ms, ss, rows, pre, seg, post, kvs, cnt, n, rfl, S1, hrows, hk, hG, hB, hcnt, haft, hsy, fun lb H2 kvs2 xs k2 S2 hlb hlb2 hne hlen hT => ?_⟩
  refine ⟨_, rfl, lb, 0, xs, _, rfl, hlb2, by omega, hT, fun H3 f3 => ?_⟩
  have S3 := S2.fol f3
  have hlb3 := f3.lst hlb2
  cases xs with
  | nil => exact absurd rfl hne
  | cons a r =>
    obtain ⟨_, dx, ln, wd, g, li, lo, fo, us, vs, h1, h2, h3, h4, h5, h6, h7⟩ := (hT a List.mem_cons_self).fol f3
    refine ⟨_, rfl, lb, _, 0, .ref a, rfl, rfl, .inl (.inl hlb3), at_of (j := 0) rfl rfl, a, CS, dx, _, _, rfl, h1, TS.cl, TS.nLine, sf_line, ?_⟩
    have e : ln = ((ln.toNat : Nat) : Int) := by omega
    rw [e]
    exact q ln.toNat H3 kvs2 ((k1.f.trans k2.f).trans f3.f) S3
end
end Fh
set_option Elab.async false
set_option linter.all false
set_option maxRecDepth 100000
set_option maxHeartbeats 4000000
namespace Fh
open PySem L2 TL
def reserved : List Str := ["symbols", "cell", "part", "main", "right", "left", "write", "copy", "set", "add", "if", "else", "while", "do", "stop", "at", "not"].map Str.ofString
structure NameOk (z : Str) : Prop where
  len : z.length ≤ 8
  let_ : ofLetters z = true
  free : z ∉ reserved
theorem valV_none {l : NV} {z : Str} (h : z ∉ l.map (·.1)) : valV (kvS l) (Sum.inr z : Key) = none := by
  cases e : valV (kvS l) (Sum.inr z : Key) with
  | none => rfl
  | some v =>
    have m := valV_in e
    unfold kvS at m
    rw [List.map_map] at m
    obtain ⟨x, hx, e2⟩ := List.mem_map.mp m
    have e3 : x.1 = z := Sum.inr.inj e2
    exact absurd (List.mem_map.mpr ⟨x, hx, e3⟩) h
theorem kvS_snoc (l : NV) (x : Str) (v : Nat) : kvS l ++ [((Sum.inr x : Key), V.int (v : Int))] = kvS (l ++ [(x, v)]) := by
  unfold kvS
  rw [List.map_append]
  rfl
abbrev s_Parser_is_new_name : Stmt := inClass (top 32) 6
abbrev sc_Parser_is_new_nameN : List Str := ["self", "word"]
theorem sc_Parser_is_new_name : FnScope sc_Parser_is_new_nameN ["self", "word"] (defScope s_Parser_is_new_name) := ⟨rfl, rfl, rfl, by decide +kernel, rfl, by decide +kernel, by decide +kernel⟩
def spNew (C : Addr) : Sp := fun vs H Q _ => ∃ (p l m s t : Addr) (n : Int) (sy : Str) (fi : Int) (ms ss : NV) (z : Str), vs = [.ref p, .str z] ∧ PIn C H p l m s t n sy fi ms ss ∧ NameOk z ∧ z ∉ ms.map (·.1) ∧ z ∉ ss.map (·.1) ∧ ∀ H', Same H H' → Q (.bl true) H'
/-- all is as it was but the parser, its three dicts and what follows statements -/
def KeepP (CS p m s t : Addr) (H H' : Hp) : Prop := ∀ b o, H b = some o → b ≠ p → b ≠ m → b ≠ s → b ≠ t → (∀ dx fs, o ≠ .ins CS dx fs) → H' b = some o
theorem KeepF.p {CS p m s t : Addr} {H H' : Hp} (e : KeepF CS p t H H') : KeepP CS p m s t H H' := fun b o h n1 _ _ n2 n => e b o h n1 n2 n
theorem KeepP.of_same {CS p m s t : Addr} {H H' : Hp} (e : Same H H') : KeepP CS p m s t H H' := fun b o h _ _ _ _ _ => e b o h
theorem KeepP.trans {CS p m s t : Addr} {H H1 H2 : Hp} (a : KeepP CS p m s t H H1) (b : KeepP CS p m s t H1 H2) : KeepP CS p m s t H H2 := fun c o h n1 n2 n3 n4 n => b c o (a c o h n1 n2 n3 n4 n) n1 n2 n3 n4 n
section
variable {P : Program} {w : World} {K : PySem.W.Frag} {mg : Str → Option Value} {base : Heap}
theorem ok_is_new_name {f C : Addr} {fd : FuncData} (F : Fun K "is_new_name" "Parser.is_new_name" s_Parser_is_new_name f fd) (T : Bare mg) (T1 : Consts K mg) (T2 : Consts2 K mg) (TP : PTxt K C) (CL : Callee P w K mg base 1 "is_of_letters" ["word"] (spText1 ofLetters)) :
    FnOk P w K mg base CX0 2 f fd ["self", "word"] (spNew C) := by
  refine F.ok sc_Parser_is_new_name (fun vs H Q E h => ?_) (fun cdv A outer st H vs Q E hr h => ?_)
  · obtain ⟨p, l, m, s, t, n, sy, fi, ms, ss, z, rfl, _⟩ := h
    rfl
  obtain ⟨p, l, m, s, t, n, sy, fi, ms, ss, z, rfl, I, hz, h1, h2, q⟩ := h
  have hu := hu_of hr
  obtain ⟨t8, g8⟩ := T1.longest
  obtain ⟨aW, gW, sW⟩ := T2.words
  refine ⟨_, (pss_cons (ps_if (PW.pt (pw_or (pt_cmpR op_gt (pe_callB call_len_str (by rfl) T.len PySem.boot_len (pa_cons (pv 1) pa_nil)) (pe_glob (v := .int 8) rfl g8 ⟨_, rfl⟩) (nomark _)) (pw_or1 (pt_not (pt_val (pe_call CL.ok hr rfl CL.mg CL.kp CL.b .nil pass0 (pa_cons (pv 1) pa_nil)))))))
(pss_one (ps_ret pe_bl))
pss_nil)
(pss_one (ps_ret (pe_and (pe_cmpR op_notIn_seq (pv 1) (pe_glob (v := .ref aW) rfl gW rfl) (by rfl)) (pe_and (pe_cmp (pc_dnotin hu (pv 1) (pe_fld (pv 0) rfl)) rfl) (pe_one (pe_cmp (pc_dnotin hu (pv 1) (pe_fld (pv 0) rfl)) rfl))))))), ?_⟩
  refine ⟨_, rfl, _, rfl, small (by have := hz.len; omega), _, _, rfl, rfl, _, rfl, ?_⟩
  have e0 : decide ((8 : Int) < ((z.length : Nat) : Int)) = false := decide_eq_false (by have := hz.len; omega)
  rw [e0]
  refine iteF ?_
  refine ⟨_, rfl, z, rfl, by have := hz.len; omega, fun H1 s1 => ⟨_, rfl, ?_⟩⟩
  rw [hz.let_]
  refine iteF ?_
  obtain ⟨⟨dp, hp⟩, mo, hst, _, _⟩ := I.same s1
  refine ⟨_, rfl, aW, _, rfl, .inr (sW _), rfl, rfl, ?_⟩
  have e1 : inV (.str z) (["symbols", "cell", "part", "main", "right", "left", "write", "copy", "set", "add", "if", "else", "while", "do", "stop", "at", "not"].map fun z => V.str (Str.ofString z)) = false := by
    have e : (["symbols", "cell", "part", "main", "right", "left", "write", "copy", "set", "add", "if", "else", "while", "do", "stop", "at", "not"].map fun z => V.str (Str.ofString z)) = reserved.map V.str := by
      unfold reserved
      rw [List.map_map]
      rfl
    rw [e, inV_str]
    exact decide_eq_false hz.free
  show ∃ c, V.bl (!inV _ _) = .bl c ∧ _
  rw [e1]
  refine ⟨_, rfl, iteT ?_⟩
  refine ⟨_, rfl, _, rfl, p, C, dp, _, _, rfl, hp, TP.cl, TP.nMosts, pf_mosts, m, _, rfl, DGet.k (k := Sum.inr z) mo, _, rfl, ?_⟩
  rw [valV_none h1]
  refine iteT ?_
  refine ⟨_, rfl, _, rfl, p, C, dp, _, _, rfl, hp, TP.cl, TP.nStarts, pf_starts, s, _, rfl, DGet.k (k := Sum.inr z) hst, ?_⟩
  rw [valV_none h2]
  exact q H1 s1
/-! ### read_cell -/
abbrev s_Parser_read_cell : Stmt := inClass (top 32) 4
abbrev sc_Parser_read_cellN : List Str := ["self", "words"]
theorem sc_Parser_read_cell : FnScope sc_Parser_read_cellN ["self"] (defScope s_Parser_read_cell) := ⟨rfl, rfl, rfl, by decide +kernel, rfl, by decide +kernel, by decide +kernel⟩
def spCell (C CS : Addr) : Sp := fun vs H Q _ => ∃ (p l m s t : Addr) (k : Nat) (sy : Str) (fi : Int) (ms ss : NV) (rows : List Row) (kvs : List (Key × V)) (cnt : Nat) (x : Str) (v : Nat), vs = [.ref p] ∧
  SAt C CS H p l m s t k sy fi ms ss rows kvs cnt ∧ m ≠ s ∧ Good rows ∧ rows[k]? = some (0, [("cell" : Str), x, numS v]) ∧ ms.length < 2 ∧ 1 ≤ v ∧ v ≤ 2 ∧ NameOk x ∧ x ∉ ms.map (·.1) ∧ x ∉ ss.map (·.1) ∧
  ∀ (H' : Hp), KeepP CS p m s t H H' → SAt C CS H' p l m s t (k + 1) sy fi (ms ++ [(x, v)]) ss rows kvs cnt → Q .non H'
theorem ok_read_cell {f C CS : Addr} {fd : FuncData} (F : Fun K "read_cell" "Parser.read_cell" s_Parser_read_cell f fd) (T : Bare mg) (T1 : Consts K mg) (TP : PTxt K C) (MW : Meter P w K mg base C 1 "words_at" ["self", "depth"] (spWords C)) (MN : Meter P w K mg base C 2 "is_new_name" ["self", "word"] (spNew C)) :
    FnOk P w K mg base CX0 3 f fd ["self"] (spCell C CS) := by
  refine F.ok sc_Parser_read_cell (fun vs H Q E h => ?_) (fun cdv A outer st H vs Q E hr h => ?_)
  · obtain ⟨p, l, m, s, t, k, sy, fi, ms, ss, rows, kvs, cnt, x, v, rfl, _⟩ := h
    rfl
  obtain ⟨p, l, m, s, t, k, sy, fi, ms, ss, rows, kvs, cnt, x, v, rfl, S, hms, hG, hat, hml, hv1, hv2, hx, hx1, hx2, q⟩ := h
  have hu := hu_of hr
  obtain ⟨t2, g2⟩ := T1.mostCells
  refine ⟨_, (pss_cons (ps_set (i := 1) sc_Parser_read_cell.nd rfl (Or.inl rfl) (pe_meth (pv 0) TP.cl MW.m MW.ok (hr.mono (by decide)) MW.b .nil pass0 (pa_cons pe_int pa_nil)))
(pss_cons (ps_if (PW.pt (pw_or (pt_cmpR op_ne (pe_callB call_len_seq (by rfl) T.len PySem.boot_len (pa_cons (pv 1) pa_nil)) pe_int (nomark _)) (pw_or1 (pt_cmpR op_eq (pe_callB call_lenD (by rfl) T.len PySem.boot_len (pa_cons (pe_fld (pv 0) rfl) pa_nil)) (pe_glob (v := .int 2) rfl g2 ⟨_, rfl⟩) (nomark _)))))
(pss_one ps_never)
pss_nil)
(pss_cons (ps_if (PW.pt (pw_or (pt_not (pt_val (pe_meth (pv 0) TP.cl MN.m MN.ok hr MN.b .nil pass0 (pa_cons (pe_ix ix_list (pv 1) pe_int (fun _ _ => rfl)) pa_nil)))) (pw_or1 (pt_cmpR op_notIn_seq (pe_ix ix_list (pv 1) pe_int (fun _ _ => rfl)) (pe_tup (pa_cons pe_str (pa_cons pe_str pa_nil))) (by rfl)))))
(pss_one ps_never)
pss_nil)
(pss_cons (ps_dput hu (pe_fld (pv 0) rfl) (pe_ix ix_list (pv 1) pe_int (fun _ _ => rfl)) (pe_callTy call_int_str (by rfl) T.int (by decide +kernel) (pa_cons (pe_ix ix_list (pv 1) pe_int (fun _ _ => rfl)) pa_nil)) rfl)
(pss_one (ps_fldaug (pv 0) pe_int in_add)))))), ?_⟩
  obtain ⟨⟨dp, hp⟩, mo, hst, nm, ns⟩ := id S.pin
  refine ⟨_, rfl, p, dp, _, rfl, hp, (by kernel_rfl), p, l, m, s, t, k, 0, sy, fi, rows.map lineOf, rfl, S.pin.ob, S.ln, by omega, fun A1 H1 s1 hA hA1 => ?_⟩
  rw [wordsAt_rows hG, hat] at hA1
  have hA1' : H1 A1 = some (.lst [.str "cell", .str x, .str (numS v)]) := by
    rw [hA1]
    rfl
  have hS : SqL K H1 A1 [.str "cell", .str x, .str (numS v)] := .inl (.inl hA1')
  have S1 := S.same s1
  refine ⟨_, rfl, A1, _, rfl, .inl hS, rfl, _, rfl, iteF ?_⟩
  refine ⟨_, rfl, p, C, dp, _, _, rfl, s1 _ _ hp, TP.cl, TP.nMosts, pf_mosts, m, _, rfl, s1 _ _ mo, rfl, _, rfl, ?_⟩
  have e0 : decide (V.int (((kvS ms).length : Nat) : Int) = V.int 2) = false := decide_eq_false fun z => by
    have z2 := V.int.inj z
    unfold kvS at z2
    rw [List.length_map] at z2
    omega
  rw [e0]
  refine iteF ?_
  refine ⟨_, rfl, p, dp, _, rfl, s1 _ _ hp, (by kernel_rfl), _, rfl, A1, _, 1, .str x, rfl, rfl, hS, rfl, p, l, m, s, t, _, sy, fi, ms, ss, x, rfl, S1.pin, hx, hx1, hx2, fun H2 s2 => ⟨_, rfl, iteF ?_⟩⟩
  have S2 := S1.same s2
  refine ⟨_, rfl, A1, _, 2, .str (numS v), rfl, rfl, s2.seq hS, rfl, small (by show 2 ≤ 1000; decide), fun T0 hT0 => ?_⟩
  have s3 := same_new hT0 (.tup [.str "1", .str "2"])
  have hin : inV (.str (numS v)) [.str "1", .str "2"] = true := by
    have hd : v = 1 ∨ v = 2 := by omega
    rcases hd with rfl | rfl <;> decide +kernel
  refine ⟨T0, _, rfl, .inr (.inl (.inl upd_same)), rfl, rfl, _, rfl, ?_⟩
  dsimp only
  rw [hin]
  refine iteF ?_
  have S3 := S2.same s3
  have s123 := (s1.trans s2).trans s3
  have hS3 := s3.seq (s2.seq hS)
  generalize upd H2 T0 (.tup [.str "1", .str "2"]) = H3 at s3 S3 s123 hS3 ⊢
  obtain ⟨⟨dp3, hp3⟩, mo3, st3, _, _⟩ := id S3.pin
  refine ⟨_, rfl, A1, _, 2, .str (numS v), rfl, rfl, hS3, rfl, _, _, rfl, (num_int hv2).1, (num_int hv2).2, ?_⟩
  refine ⟨_, rfl, p, C, dp3, _, _, rfl, hp3, TP.cl, TP.nMosts, pf_mosts, _, rfl, A1, _, 1, .str x, rfl, rfl, hS3, rfl, m, _, rfl, DPut.k (k := Sum.inr x) mo3 (small1000 (by unfold kvS; rw [List.length_map]; omega)), ?_⟩
  rw [putK_new _ (valV_none hx1), kvS_snoc]
  have npm : p ≠ m := ne_of hp3 mo3 (by intro z; cases z)
  have hp4 : (upd H3 m (.dK (kvS (ms ++ [(x, v)])))) p = some (.ins C dp3 (pf l ((k : Int) + 1) sy m s t fi)) := by rw [upd_ne npm]; exact hp3
  have S4 : SAt C CS (upd H3 m (.dK (kvS (ms ++ [(x, v)])))) p l m s t k sy fi (ms ++ [(x, v)]) ss rows kvs cnt := by
    have nlm : l ≠ m := ne_of S3.ln.at_ mo3 (by intro z; cases z)
    refine ⟨⟨⟨dp3, hp4⟩, upd_same, by rw [upd_ne hms.symm]; exact st3, ?_, ns⟩, ⟨by rw [upd_ne nlm]; exact S3.ln.at_, S.ln.few, S.ln.short⟩, by rw [upd_ne S.nm.symm]; exact S3.dt, S.few, S.keys, fun kv h => ?_, S.nm, S.ns, S.cc⟩
    · rw [List.map_append]
      exact List.nodup_append.mpr ⟨nm, by simp, fun y hy z hz e => hx1 (by
        have e2 : z = x := by simpa using hz
        rw [← e2, ← e]
        exact hy)⟩
    · obtain ⟨b, h1, dx, ln, wd, g, li, lo, fo, h2, h3⟩ := S3.ok kv h
      exact ⟨b, h1, dx, ln, wd, g, li, lo, fo, by rw [upd_ne (ne_of h2 mo3 (by intro z; cases z))]; exact h2, h3⟩
  obtain ⟨S5, k5⟩ := S4.bump hp4
  refine ⟨_, rfl, p, C, dp3, _, _, rfl, hp4, TP.cl, TP.nNumber, pf_number, _, _, rfl, rfl, dp3, _, hp4, (by show 7 < 1000; decide), ?_⟩
  rw [put_next]
  refine q _ (fun b o h n1 n2 n3 n4 n => ?_) S5
  rw [upd_ne n1, upd_ne n2]
  exact s123 _ _ h
end
end Fh
set_option Elab.async false
set_option linter.all false
set_option maxRecDepth 100000
set_option maxHeartbeats 4000000
namespace Fh
open PySem L2 TL
abbrev s_Parser_read_part : Stmt := inClass (top 32) 5
abbrev sc_Parser_read_partN : List Str := ["self", "words"]
theorem sc_Parser_read_part : FnScope sc_Parser_read_partN ["self"] (defScope s_Parser_read_part) := ⟨rfl, rfl, rfl, by decide +kernel, rfl, by decide +kernel, by decide +kernel⟩
def spPart (C CS : Addr) : Sp := fun vs H Q _ => ∃ (p l m s t : Addr) (k : Nat) (sy : Str) (fi : Int) (ms ss : NV) (rows pre seg post : List Row) (kvs : List (Key × V)) (cnt n : Nat) (x : Str), vs = [.ref p] ∧
  SAt C CS H p l m s t k sy fi ms ss rows kvs cnt ∧ m ≠ s ∧ Good rows ∧ rows = pre ++ seg ++ post ∧ pre.length = k + 1 ∧ rows[k]? = some (0, [("part" : Str), x]) ∧ Bod sy ms ss 1 seg n ∧ cnt + n ≤ 20 ∧ AfterBod 1 post ∧ sy.length ≤ 10 ∧ ss.length < 2 ∧ NameOk x ∧ x ∉ ms.map (·.1) ∧ x ∉ ss.map (·.1) ∧
  ∀ (H' : Hp) (v : Nat) (kvs' : List (Key × V)), KeepP CS p m s t H H' → SAt C CS H' p l m s t (k + 1 + seg.length) sy fi ms (ss ++ [(x, v)]) rows kvs' (cnt + n) → Q .non H'
section
variable {P : Program} {w : World} {K : PySem.W.Frag} {mg : Str → Option Value} {base : Heap}
theorem ok_read_part {f C CS : Addr} {fd : FuncData} (F : Fun K "read_part" "Parser.read_part" s_Parser_read_part f fd) (T : Bare mg) (T1 : Consts K mg) (TP : PTxt K C) (MW : Meter P w K mg base C 1 "words_at" ["self", "depth"] (spWords C)) (MN : Meter P w K mg base C 2 "is_new_name" ["self", "word"] (spNew C)) (MB : Meter P w K mg base C 13 "read_whole_body" ["self"] (spWhole C CS)) :
    FnOk P w K mg base CX0 14 f fd ["self"] (spPart C CS) := by
  refine F.ok sc_Parser_read_part (fun vs H Q E h => ?_) (fun cdv A outer st H vs Q E hr h => ?_)
  · obtain ⟨p, l, m, s, t, k, sy, fi, ms, ss, rows, pre, seg, post, kvs, cnt, n, x, rfl, _⟩ := h
    rfl
  obtain ⟨p, l, m, s, t, k, sy, fi, ms, ss, rows, pre, seg, post, kvs, cnt, n, x, rfl, S, hms, hG, hrows, hk, hat, hB, hcnt, haft, hsy, hsl, hx, hx1, hx2, q⟩ := h
  have hu := hu_of hr
  obtain ⟨t2, g2⟩ := T1.mostParts
  refine ⟨_, (pss_cons (ps_set (i := 1) sc_Parser_read_part.nd rfl (Or.inl rfl) (pe_meth (pv 0) TP.cl MW.m MW.ok (hr.mono (by decide)) MW.b .nil pass0 (pa_cons pe_int pa_nil)))
(pss_cons (ps_if (PW.pt (pw_or (pt_cmpR op_ne (pe_callB call_len_seq (by rfl) T.len PySem.boot_len (pa_cons (pv 1) pa_nil)) pe_int (nomark _)) (pw_or (pt_cmpR op_eq (pe_callB call_lenD (by rfl) T.len PySem.boot_len (pa_cons (pe_fld (pv 0) rfl) pa_nil)) (pe_glob (v := .int 2) rfl g2 ⟨_, rfl⟩) (nomark _)) (pw_or1 (pt_not (pt_val (pe_meth (pv 0) TP.cl MN.m MN.ok (hr.mono (by decide)) MN.b .nil pass0 (pa_cons (pe_ix ix_list (pv 1) pe_int (fun _ _ => rfl)) pa_nil))))))))
(pss_one ps_never)
pss_nil)
(pss_one (ps_dput hu (pe_fld (pv 0) rfl) (pe_ix ix_list (pv 1) pe_int (fun _ _ => rfl)) (pe_meth0 (pv 0) TP.cl MB.m MB.ok hr MB.b .nil pass0) rfl)))), ?_⟩
  obtain ⟨⟨dp, hp⟩, mo, hst, nm, ns⟩ := id S.pin
  refine ⟨_, rfl, p, dp, _, rfl, hp, (by kernel_rfl), p, l, m, s, t, k, 0, sy, fi, rows.map lineOf, rfl, S.pin.ob, S.ln, by omega, fun A1 H1 s1 hA hA1 => ?_⟩
  rw [wordsAt_rows hG, hat] at hA1
  have hA1' : H1 A1 = some (.lst [.str "part", .str x]) := by
    rw [hA1]
    rfl
  have hS : SqL K H1 A1 [.str "part", .str x] := .inl (.inl hA1')
  have S1 := S.same s1
  refine ⟨_, rfl, A1, _, rfl, .inl hS, rfl, _, rfl, iteF ?_⟩
  refine ⟨_, rfl, p, C, dp, _, _, rfl, s1 _ _ hp, TP.cl, TP.nStarts, pf_starts, s, _, rfl, s1 _ _ hst, rfl, _, rfl, ?_⟩
  have e0 : decide (V.int (((kvS ss).length : Nat) : Int) = V.int 2) = false := decide_eq_false fun z => by
    have z2 := V.int.inj z
    unfold kvS at z2
    rw [List.length_map] at z2
    omega
  rw [e0]
  refine iteF ?_
  refine ⟨_, rfl, p, dp, _, rfl, s1 _ _ hp, (by kernel_rfl), _, rfl, A1, _, 1, .str x, rfl, rfl, hS, rfl, p, l, m, s, t, _, sy, fi, ms, ss, x, rfl, S1.pin, hx, hx1, hx2, fun H2 s2 => ⟨_, rfl, iteF ?_⟩⟩
  have S2 := S1.same s2
  have s12 := s1.trans s2
  refine ⟨_, rfl, p, dp, _, rfl, s12 _ _ hp, (by kernel_rfl), ?_⟩
  refine ⟨p, l, m, s, t, k, sy, fi, ms, ss, rows, pre, seg, post, kvs, cnt, n, rfl, S2, hrows, hk, hG, hB, hcnt, haft, hsy, fun v H3 kvs3 k3 S3 => ?_⟩
  obtain ⟨⟨dp3, hp3⟩, mo3, st3, _, _⟩ := id S3.pin
  have nAp : A1 ≠ p := (ne_of_none (show H p = _ from hp) hA).symm
  have nAt : A1 ≠ t := (ne_of_none S.dt hA).symm
  have hA3 : H3 A1 = some (.lst [.str "part", .str x]) := k3 _ _ (s2 _ _ hA1') nAp nAt (by intro _ _ z; cases z)
  refine ⟨_, rfl, p, C, dp3, _, _, rfl, hp3, TP.cl, TP.nStarts, pf_starts, _, rfl, A1, _, 1, .str x, rfl, rfl, .inl (.inl hA3), rfl, s, _, rfl, DPut.k (k := Sum.inr x) st3 (small1000 (by unfold kvS; rw [List.length_map]; omega)), ?_⟩
  rw [putK_new _ (valV_none hx2), kvS_snoc]
  have nps : p ≠ s := ne_of hp3 st3 (by intro z; cases z)
  have nls : l ≠ s := ne_of S3.ln.at_ st3 (by intro z; cases z)
  refine q _ v kvs3 (fun b o h n1 n2 n3 n4 n => ?_) ?_
  · rw [upd_ne n3]
    exact k3 _ _ (s12 _ _ h) n1 n4 n
  · refine ⟨⟨⟨dp3, by rw [upd_ne nps]; exact hp3⟩, by rw [upd_ne hms]; exact mo3, upd_same, nm, ?_⟩, ⟨by rw [upd_ne nls]; exact S3.ln.at_, S.ln.few, S.ln.short⟩, by rw [upd_ne S.ns.symm]; exact S3.dt, S3.few, S3.keys, fun kv h => ?_, S.nm, S.ns, S.cc⟩
    · rw [List.map_append]
      exact List.nodup_append.mpr ⟨ns, by simp, fun y hy z hz e => hx2 (by
        have e2 : z = x := by simpa using hz
        rw [← e2, ← e]
        exact hy)⟩
    · obtain ⟨b, h1, dx, ln, wd, g, li, lo, fo, h2, h3⟩ := S3.ok kv h
      exact ⟨b, h1, dx, ln, wd, g, li, lo, fo, by rw [upd_ne (ne_of h2 st3 (by intro z; cases z))]; exact h2, h3⟩
/-! ### read_symbols -/
abbrev s_Parser_read_symbols : Stmt := inClass (top 32) 3
abbrev sc_Parser_read_symbolsN : List Str := ["self", "words"]
theorem sc_Parser_read_symbols : FnScope sc_Parser_read_symbolsN ["self"] (defScope s_Parser_read_symbols) := ⟨rfl, rfl, rfl, by decide +kernel, rfl, by decide +kernel, by decide +kernel⟩
def spSyms (C CS : Addr) : Sp := fun vs H Q _ => ∃ (p l m s t : Addr) (sy0 sy : Str) (fi : Int) (ms ss : NV) (rows : List Row) (kvs : List (Key × V)) (cnt : Nat), vs = [.ref p] ∧
  SAt C CS H p l m s t 0 sy0 fi ms ss rows kvs cnt ∧ Good rows ∧ rows[0]? = some (0, [("symbols" : Str), sy]) ∧ 2 ≤ sy.length ∧ sy.length ≤ 4 ∧ InOrder sy alpha ∧
  ∀ (H' : Hp), KeepP CS p m s t H H' → SAt C CS H' p l m s t 1 sy fi ms ss rows kvs cnt → Q .non H'
theorem ok_read_symbols {f C CS : Addr} {fd : FuncData} (F : Fun K "read_symbols" "Parser.read_symbols" s_Parser_read_symbols f fd) (T : Bare mg) (T1 : Consts K mg) (TP : PTxt K C) (MW : Meter P w K mg base C 1 "words_at" ["self", "depth"] (spWords C)) (CO : Callee P w K mg base 1 "is_in_order" ["word", "order"] spOrder) :
    FnOk P w K mg base CX0 2 f fd ["self"] (spSyms C CS) := by
  refine F.ok sc_Parser_read_symbols (fun vs H Q E h => ?_) (fun cdv A outer st H vs Q E hr h => ?_)
  · obtain ⟨p, l, m, s, t, sy0, sy, fi, ms, ss, rows, kvs, cnt, rfl, _⟩ := h
    rfl
  obtain ⟨p, l, m, s, t, sy0, sy, fi, ms, ss, rows, kvs, cnt, rfl, S, hG, hat, h2, h4, hO, q⟩ := h
  obtain ⟨ta, ga⟩ := T1.alpha
  refine ⟨_, (pss_cons (ps_set (i := 1) sc_Parser_read_symbols.nd rfl (Or.inl rfl) (pe_meth (pv 0) TP.cl MW.m MW.ok hr MW.b .nil pass0 (pa_cons pe_int pa_nil)))
(pss_cons (ps_if (PW.pt (pw_or (pt_cmpR op_ne (pe_callB call_len_seq (by rfl) T.len PySem.boot_len (pa_cons (pv 1) pa_nil)) pe_int (nomark _)) (pw_or1 (pt_cmpR op_ne (pe_ix ix_list (pv 1) pe_int (fun _ _ => rfl)) pe_str (nomark _)))))
(pss_one ps_never)
pss_nil)
(pss_cons (ps_if (PW.pt (pw_or (pt_not (pt_chain op_le op_le pe_int (pe_callB call_len_str (by rfl) T.len PySem.boot_len (pa_cons (pe_ix ix_list (pv 1) pe_int (fun _ _ => rfl)) pa_nil)) pe_int)) (pw_or1 (pt_not (pt_val (pe_call CO.ok hr rfl CO.mg CO.kp CO.b .nil pass0 (pa_cons (pe_ix ix_list (pv 1) pe_int (fun _ _ => rfl)) (pa_cons (pe_glob (v := .str alpha) rfl ga ⟨_, rfl⟩) pa_nil))))))))
(pss_one ps_never)
pss_nil)
(pss_cons (ps_fld (pv 0) (pe_ix ix_list (pv 1) pe_int (fun _ _ => rfl)) rfl)
(pss_one (ps_fldaug (pv 0) pe_int in_add)))))), ?_⟩
  obtain ⟨⟨dp, hp⟩, mo, hst, nm, ns⟩ := id S.pin
  refine ⟨_, rfl, p, dp, _, rfl, hp, (by kernel_rfl), p, l, m, s, t, 0, 0, sy0, fi, rows.map lineOf, rfl, S.pin.ob, S.ln, by omega, fun A1 H1 s1 hA hA1 => ?_⟩
  rw [wordsAt_rows hG, hat] at hA1
  have hA1' : H1 A1 = some (.lst [.str "symbols", .str sy]) := by
    rw [hA1]
    rfl
  have hS : SqL K H1 A1 [.str "symbols", .str sy] := .inl (.inl hA1')
  have S1 := S.same s1
  refine ⟨_, rfl, A1, _, rfl, .inl hS, rfl, _, rfl, iteF ?_⟩
  refine ⟨_, rfl, A1, _, 0, _, rfl, rfl, hS, rfl, rfl, _, rfl, iteF ?_⟩
  refine ⟨_, rfl, A1, _, 1, .str sy, rfl, rfl, hS, rfl, _, rfl, small (by omega), _, _, rfl, rfl, _, rfl, ?_⟩
  have e0 : decide ((2 : Int) ≤ ((sy.length : Nat) : Int)) = true := decide_eq_true (by omega)
  rw [e0]
  refine iteT ?_
  refine ⟨_, _, rfl, rfl, _, rfl, ?_⟩
  have e1 : decide (((sy.length : Nat) : Int) ≤ (4 : Int)) = true := decide_eq_true (by omega)
  dsimp only
  rw [e1]
  refine iteF ?_
  refine ⟨_, rfl, A1, _, 1, .str sy, rfl, rfl, hS, rfl, sy, alpha, rfl, by omega, hO, fun H2 s2 => ⟨_, rfl, iteF ?_⟩⟩
  have S2 := S1.same s2
  have s12 := s1.trans s2
  obtain ⟨⟨dp2, hp2⟩, mo2, st2, _, _⟩ := id S2.pin
  refine ⟨_, rfl, A1, _, 1, .str sy, rfl, rfl, s2.seq hS, rfl, _, rfl, p, C, dp2, _, rfl, hp2, TP.cl, TP.nSymbols, (by show 7 < 1000; decide), ?_⟩
  rw [put_symbols]
  have n1 : l ≠ p := ne_of S2.ln.at_ hp2 (by intro z; cases z)
  have n2 : m ≠ p := ne_of mo2 hp2 (by intro z; cases z)
  have n3 : s ≠ p := ne_of st2 hp2 (by intro z; cases z)
  have n4 : t ≠ p := ne_of S2.dt hp2 (by intro z; cases z)
  have kk : Keep p t H2 (upd H2 p (.ins C dp2 (pf l (((0 : Nat) : Int) + 1) sy m s t fi))) := fun b o h n _ => by rw [upd_ne n]; exact h
  have S3 : SAt C CS (upd H2 p (.ins C dp2 (pf l (((0 : Nat) : Int) + 1) sy m s t fi))) p l m s t 0 sy fi ms ss rows kvs cnt := by
    refine ⟨⟨⟨dp2, upd_same⟩, by rw [upd_ne n2]; exact mo2, by rw [upd_ne n3]; exact st2, nm, ns⟩, ⟨by rw [upd_ne n1]; exact S2.ln.at_, S.ln.few, S.ln.short⟩, by rw [upd_ne n4]; exact S2.dt, S.few, S.keys, fun kv h => ?_, S.nm, S.ns, S.cc⟩
    obtain ⟨a, h1, h2⟩ := S2.ok kv h
    exact ⟨a, h1, h2.keep S2 kk⟩
  have hp3 : (upd H2 p (.ins C dp2 (pf l (((0 : Nat) : Int) + 1) sy m s t fi))) p = some (.ins C dp2 (pf l (((0 : Nat) : Int) + 1) sy m s t fi)) := upd_same
  obtain ⟨S4, k4⟩ := S3.bump hp3
  refine ⟨_, rfl, p, C, dp2, _, _, rfl, hp3, TP.cl, TP.nNumber, pf_number, _, _, rfl, rfl, dp2, _, hp3, (by show 7 < 1000; decide), ?_⟩
  rw [put_next]
  refine q _ (fun b o h n1 n2 n3 n4 n => ?_) S4
  rw [upd_ne n1, upd_ne n1]
  exact s12 _ _ h
end
end Fh
set_option Elab.async false
set_option linter.all false
set_option maxRecDepth 100000
set_option maxHeartbeats 4000000
namespace Fh
open PySem L2 TL
abbrev s_Parser_read_program : Stmt := inClass (top 32) 2
abbrev sc_Parser_read_programN : List Str := ["self"]
theorem sc_Parser_read_program : FnScope sc_Parser_read_programN ["self"] (defScope s_Parser_read_program) := ⟨rfl, rfl, rfl, by decide +kernel, rfl, by decide +kernel, by decide +kernel⟩
abbrev PartR := Str × List Row × Nat
def cellRow (c : Str × Nat) : Row := (0, [("cell" : Str), c.1, numS c.2])
def partRows (q : PartR) : List Row := (0, [("part" : Str), q.1]) :: q.2.1
def symRow (sy : Str) : Row := (0, [("symbols" : Str), sy])
def mainRow : Row := (0, [("main" : Str)])
def headRows (sy : Str) (ms : NV) (ps : List PartR) : List Row := symRow sy :: (ms.map cellRow ++ (ps.map partRows).flatten)
/-- a whole program -/
structure ProgOk (sy : Str) (ms : NV) (ps : List PartR) (ma : List Row) (nm : Nat) (rows : List Row) : Prop where
  eq : rows = headRows sy ms ps ++ mainRow :: ma
  good : Good rows
  s2 : 2 ≤ sy.length
  s4 : sy.length ≤ 4
  so : InOrder sy alpha
  c2 : ms.length ≤ 2
  cv : ∀ c ∈ ms, 1 ≤ c.2 ∧ c.2 ≤ 2
  p2 : ps.length ≤ 2
  names : ∀ z ∈ ms.map (·.1) ++ ps.map (·.1), NameOk z
  nd : (ms.map (·.1) ++ ps.map (·.1)).Nodup
  bod : ∀ (done : List PartR) (q : PartR) (rest : List PartR), ps = done ++ q :: rest → ∀ ss : NV, ss.map (·.1) = done.map (·.1) → Bod sy ms ss 1 q.2.1 q.2.2
  mbod : ∀ ss : NV, ss.map (·.1) = ps.map (·.1) → Bod sy ms ss 1 ma nm
  tot : (ps.map (·.2.2)).sum + nm ≤ 20
/-- self.words_at(0)[:1] == ["lit"] -/
def tHead (C : Addr) (lit : Str) : TT := fun σ H Q => ∃ (p l m s t : Addr) (k : Nat) (sy : Str) (fi : Int) (lines : List Str), σ[0]? = some (some (.ref p)) ∧ PAt C H p l m s t ((k : Int) + 1) sy fi ∧ Lines H l lines ∧ (∀ z ∈ wordsAt lines k 0, PyData.strOk z = true) ∧ PyData.strOk lit = true ∧
  ∀ H', Same H H' → Q (decide ((wordsAt lines k 0).take 1 = [lit])) H'
theorem take1' (W : List Str) : cutV (W.map V.str) none (some 1) = (W.take 1).map V.str := by
  cases W with
  | nil => rfl
  | cons x r => exact take1 x r
def prefRows (sy : Str) (ms : NV) (done : List PartR) : List Row := symRow sy :: (ms.map cellRow ++ (done.map partRows).flatten)
theorem rows_cut {sy : Str} {ms : NV} {ps done rest : List PartR} {ma : List Row} {nm : Nat} {rows : List Row} (PO : ProgOk sy ms ps ma nm rows) (e : ps = done ++ rest) : rows = prefRows sy ms done ++ ((rest.map partRows).flatten ++ mainRow :: ma) := by
  rw [PO.eq, e]
  unfold headRows prefRows
  simp only [List.map_append, List.flatten_append, List.append_assoc, List.cons_append]
theorem at_len {α : Type} {a b : List α} : (a ++ b)[a.length]? = b.head? := by
  rw [List.getElem?_append_right (Nat.le_refl _), Nat.sub_self]
  cases b <;> rfl
section
variable {P : Program} {w : World} {K : PySem.W.Frag} {mg : Str → Option Value} {base : Heap}
theorem wordsOk {rows : List Row} (hG : Good rows) (k d : Nat) : ∀ z ∈ wordsAt (rows.map lineOf) k d, PyData.strOk z = true := fun z hz => by
  rw [wordsAt_rows hG] at hz
  cases e : rows[k]? with
  | none => rw [e] at hz; cases hz
  | some y =>
    rw [e] at hz
    dsimp only at hz
    split at hz
    · exact (hG y (List.mem_of_getElem? e)).ok z hz
    · cases hz
def spProg (C CS : Addr) : Sp := fun vs H Q _ => ∃ (p l m s t : Addr) (sy0 sy : Str) (fi : Int) (ms : NV) (ps : List PartR) (ma : List Row) (nm : Nat) (rows : List Row), vs = [.ref p] ∧ SAt C CS H p l m s t 0 sy0 fi [] [] rows [] 0 ∧ m ≠ s ∧ ProgOk sy ms ps ma nm rows ∧
  ∀ (H' : Hp) (k : Nat) (fi' : Int) (ss : NV) (kvs : List (Key × V)) (cnt : Nat), KeepP CS p m s t H H' → SAt C CS H' p l m s t k sy fi' ms ss rows kvs cnt → ss.map (·.1) = ps.map (·.1) → cnt ≤ 20 → Q .non H'
theorem ok_read_program {f C CS : Addr} {fd : FuncData} (F : Fun K "read_program" "Parser.read_program" s_Parser_read_program f fd) (T : Bare mg) (TP : PTxt K C) (MW : Meter P w K mg base C 1 "words_at" ["self", "depth"] (spWords C))
    (MY : Meter P w K mg base C 2 "read_symbols" ["self"] (spSyms C CS)) (MC : Meter P w K mg base C 3 "read_cell" ["self"] (spCell C CS)) (MP : Meter P w K mg base C 14 "read_part" ["self"] (spPart C CS)) (MB : Meter P w K mg base C 13 "read_whole_body" ["self"] (spWhole C CS)) :
    FnOk P w K mg base CX0 15 f fd ["self"] (spProg C CS) := by
  refine F.ok sc_Parser_read_program (fun vs H Q E h => ?_) (fun cdv A outer st H vs Q E hr h => ?_)
  · obtain ⟨p, l, m, s, t, sy0, sy, fi, ms, ps, ma, nm, rows, rfl, _⟩ := h
    rfl
  obtain ⟨p, l, m, s, t, sy0, sy, fi, ms, ps, ma, nm, rows, rfl, S, hms, PO, q⟩ := h
  have hG := PO.good
  refine ⟨_, (pss_cons (ps_expr (pe_meth0 (pv 0) TP.cl MY.m MY.ok (hr.mono (by decide)) MY.b .nil pass0))
(pss_cons (ps_while PassesOwn.never (pt_weak (t' := tHead C "cell") (pt_cmpR (op_eqD hr.units) (pe_slice sl_list (pe_meth (pv 0) TP.cl MW.m MW.ok (hr.mono (by decide)) MW.b .nil pass0 (pa_cons pe_int pa_nil)) po_none (po_some pe_int)) (pe_lst (pa_cons pe_str pa_nil)) (nomark _)) (fun σ H1 Q1 h => by
    obtain ⟨p, l, m, s, t, k, sy, fi, lines, h0, ⟨dp, hp⟩, L, okW, okL, q1⟩ := h
    refine ⟨_, h0, p, dp, _, rfl, hp, (by kernel_rfl), p, l, m, s, t, k, 0, sy, fi, lines, rfl, ⟨dp, hp⟩, L, by omega, fun A H2 s2 hA hA1 => ?_⟩
    refine ⟨1, rfl, A, _, rfl, .inl (.inl hA1), fun B hB => ?_⟩
    rw [take1']
    have s3 := same_new hB (.lst (((wordsAt lines k 0).take 1).map V.str))
    refine ⟨small (by show 1 ≤ 1000; decide), fun D hD => ?_⟩
    have s4 := same_new hD (.lst [.str "cell"])
    refine ⟨.list (((wordsAt lines k 0).take 1).map .str), .list (([("cell" : Str)]).map .str), .lst (.inl (.inl (s4 _ _ upd_same))) (dp_strs _), .lst (.inl (.inl upd_same)) (dp_strs [("cell" : Str)]), shaped_strs (fun z hz => okW z (List.mem_of_mem_take hz)), shaped_strs (by simpa using okL), ?_⟩
    refine ⟨_, (congrArg V.bl (eqv_strs _ [("cell" : Str)])), ?_⟩
    exact q1 _ ((s2.trans s3).trans s4)))
(pss_one (ps_expr (pe_meth0 (pv 0) TP.cl MC.m MC.ok (hr.mono (by decide)) MC.b .nil pass0))))
(pss_cons (ps_while PassesOwn.never (pt_weak (t' := tHead C "part") (pt_cmpR (op_eqD hr.units) (pe_slice sl_list (pe_meth (pv 0) TP.cl MW.m MW.ok (hr.mono (by decide)) MW.b .nil pass0 (pa_cons pe_int pa_nil)) po_none (po_some pe_int)) (pe_lst (pa_cons pe_str pa_nil)) (nomark _)) (fun σ H1 Q1 h => by
    obtain ⟨p, l, m, s, t, k, sy, fi, lines, h0, ⟨dp, hp⟩, L, okW, okL, q1⟩ := h
    refine ⟨_, h0, p, dp, _, rfl, hp, (by kernel_rfl), p, l, m, s, t, k, 0, sy, fi, lines, rfl, ⟨dp, hp⟩, L, by omega, fun A H2 s2 hA hA1 => ?_⟩
    refine ⟨1, rfl, A, _, rfl, .inl (.inl hA1), fun B hB => ?_⟩
    rw [take1']
    have s3 := same_new hB (.lst (((wordsAt lines k 0).take 1).map V.str))
    refine ⟨small (by show 1 ≤ 1000; decide), fun D hD => ?_⟩
    have s4 := same_new hD (.lst [.str "part"])
    refine ⟨.list (((wordsAt lines k 0).take 1).map .str), .list (([("part" : Str)]).map .str), .lst (.inl (.inl (s4 _ _ upd_same))) (dp_strs _), .lst (.inl (.inl upd_same)) (dp_strs [("part" : Str)]), shaped_strs (fun z hz => okW z (List.mem_of_mem_take hz)), shaped_strs (by simpa using okL), ?_⟩
    refine ⟨_, (congrArg V.bl (eqv_strs _ [("part" : Str)])), ?_⟩
    exact q1 _ ((s2.trans s3).trans s4)))
(pss_one (ps_expr (pe_meth0 (pv 0) TP.cl MP.m MP.ok hr MP.b .nil pass0))))
(pss_cons (ps_if (pt_cmpR (op_neD hr.units) (pe_meth (pv 0) TP.cl MW.m MW.ok (hr.mono (by decide)) MW.b .nil pass0 (pa_cons pe_int pa_nil)) (pe_lst (pa_cons pe_str pa_nil)) (nomark _))
(pss_one ps_never)
pss_nil)
(pss_cons (ps_fld (pv 0) (pe_meth0 (pv 0) TP.cl MB.m MB.ok (hr.mono (by decide)) MB.b .nil pass0) rfl)
(pss_one (ps_if (pt_cmpR op_le (pe_fld (pv 0) rfl) (pe_callB call_len_seq (by rfl) T.len PySem.boot_len (pa_cons (pe_fld (pv 0) rfl) pa_nil)) (nomark _))
(pss_one ps_never)
pss_nil))))))), ?_⟩
  obtain ⟨⟨dp, hp⟩, _⟩ := id S.pin
  have at0 : rows[0]? = some (0, [("symbols" : Str), sy]) := by rw [PO.eq]; rfl
  refine ⟨_, rfl, p, dp, _, rfl, hp, (by kernel_rfl), ?_⟩
  refine ⟨p, l, m, s, t, sy0, sy, fi, [], [], rows, [], 0, rfl, S, hG, at0, PO.s2, PO.s4, PO.so, fun H1 k1 S1 => ?_⟩
  -- the cells
  refine ⟨fun mm σ H2 => ∃ i, i ≤ ms.length ∧ mm = ms.length - i ∧ σ = [some (.ref p)] ∧ SAt C CS H2 p l m s t (1 + i) sy fi (ms.take i) [] rows [] 0 ∧ KeepP CS p m s t H H2, ⟨_, 0, Nat.zero_le _, rfl, rfl, S1, k1⟩, ?_⟩
  rintro mm σ H2 ⟨i, hi, rfl, rfl, S2, k2⟩
  refine ⟨p, l, m, s, t, 1 + i, sy, fi, rows.map lineOf, rfl, S2.pin.ob, S2.ln, wordsOk hG _ _, by decide +kernel, fun H3 s3 => ?_⟩
  have S3 := S2.same s3
  have k3 := k2.trans (KeepP.of_same s3)
  obtain ⟨⟨dp3, hp3⟩, _⟩ := id S3.pin
  by_cases hlt : i < ms.length
  · have hat : rows[1 + i]? = some (cellRow ms[i]) := by
      rw [PO.eq, Nat.add_comm 1 i]
      show ((ms.map cellRow ++ (ps.map partRows).flatten) ++ mainRow :: ma)[i]? = _
      rw [List.append_assoc, List.getElem?_append_left (by rw [List.length_map]; exact hlt), List.getElem?_map, List.getElem?_eq_getElem hlt]
      rfl
    have eW : wordsAt (rows.map lineOf) (1 + i) 0 = [("cell" : Str), ms[i].1, numS ms[i].2] := by
      rw [wordsAt_rows hG, hat]
      rfl
    rw [eW]
    refine iteT ?_
    refine ⟨fun σ' H' => ∃ m', m' < ms.length - i ∧ ∃ i', i' ≤ ms.length ∧ m' = ms.length - i' ∧ σ' = [some (.ref p)] ∧ SAt C CS H' p l m s t (1 + i') sy fi (ms.take i') [] rows [] 0 ∧ KeepP CS p m s t H H', fun σ' H' z => z, ?_⟩
    refine ⟨_, rfl, p, dp3, _, rfl, hp3, (by kernel_rfl), ?_⟩
    have hmem : ms[i] ∈ ms := List.getElem_mem hlt
    have hnd := (List.nodup_append.mp PO.nd).1
    have hnew : ms[i].1 ∉ (ms.take i).map (·.1) := fun z => by
      obtain ⟨y, hy, e⟩ := List.mem_map.mp z
      obtain ⟨j, hj, ej⟩ := List.mem_take_iff_getElem.mp hy
      have := nodup_at hnd (i := j) (j := i) (List.getElem?_eq_getElem (by omega)) (List.getElem?_eq_getElem hlt) (by rw [ej]; exact e)
      omega
    refine ⟨p, l, m, s, t, 1 + i, sy, fi, ms.take i, [], rows, [], 0, ms[i].1, ms[i].2, rfl, S3, hms, hG, hat, by rw [List.length_take]; have := PO.c2; omega, (PO.cv _ hmem).1, (PO.cv _ hmem).2, PO.names _ (List.mem_append_left _ (List.mem_map.mpr ⟨_, hmem, rfl⟩)), hnew, by simp, fun H4 k4 S4 => ?_⟩
    refine ⟨ms.length - (i + 1), by omega, i + 1, hlt, rfl, rfl, ?_, k3.trans k4⟩
    rw [List.take_add_one, List.getElem?_eq_getElem hlt]
    exact S4
  · have e : i = ms.length := by omega
    subst e
    rw [List.take_length] at S3
    have hw : ∀ (done rest : List PartR), ps = done ++ rest → wordsAt (rows.map lineOf) (prefRows sy ms done).length 0 = match rest with | [] => [("main" : Str)] | q :: _ => [("part" : Str), q.1] := fun done rest e => by
      rw [wordsAt_rows hG]
      have h1 : rows[(prefRows sy ms done).length]? = ((rest.map partRows).flatten ++ mainRow :: ma).head? := by
        have z := at_len (a := prefRows sy ms done) (b := (rest.map partRows).flatten ++ mainRow :: ma)
        rw [← rows_cut PO e] at z
        exact z
      rw [h1]
      cases rest <;> rfl
    have e0 : 1 + ms.length = (prefRows sy ms []).length := by
      unfold prefRows
      rw [List.length_cons, List.length_append, List.length_map]
      show _ = ms.length + 0 + 1
      omega
    rw [e0] at S3 ⊢
    have eW := hw [] ps rfl
    have hn : decide ((wordsAt (rows.map lineOf) (prefRows sy ms []).length 0).take 1 = [("cell" : Str)]) = false := by
      rw [eW]
      cases ps with
      | nil => decide +kernel
      | cons q r =>
        refine decide_eq_false fun z => ?_
        have z1 : ([("part" : Str)] : List Str) = [("cell" : Str)] := z
        exact absurd z1 (by decide +kernel)
    rw [hn]
    refine iteF ?_
    -- the parts
    refine ⟨fun mm σ H2 => ∃ (done rest : List PartR) (ss : NV) (kvs : List (Key × V)), ps = done ++ rest ∧ mm = rest.length ∧ σ = [some (.ref p)] ∧ SAt C CS H2 p l m s t (prefRows sy ms done).length sy fi ms ss rows kvs (done.map (·.2.2)).sum ∧ ss.map (·.1) = done.map (·.1) ∧ KeepP CS p m s t H H2,
      ⟨_, [], ps, [], [], rfl, rfl, rfl, S3, rfl, k3⟩, ?_⟩
    rintro mm σ H5 ⟨done, rest, ss, kvs, eps, rfl, rfl, S5, hss, k5⟩
    refine ⟨p, l, m, s, t, (prefRows sy ms done).length, sy, fi, rows.map lineOf, rfl, S5.pin.ob, S5.ln, wordsOk hG _ _, by decide +kernel, fun H6 s6 => ?_⟩
    have S6 := S5.same s6
    have k6 := k5.trans (KeepP.of_same s6)
    obtain ⟨⟨dp6, hp6⟩, _⟩ := id S6.pin
    have eW := hw done rest eps
    have hsum : ∀ (a b : List PartR), ps = a ++ b → (a.map (·.2.2)).sum + (b.map (·.2.2)).sum + nm ≤ 20 := fun a b e => by
      have := PO.tot
      rw [e, List.map_append, List.sum_append] at this
      exact this
    cases rest with
    | cons qq rest' =>
      rw [eW]
      refine iteT ?_
      refine ⟨fun σ' H' => ∃ m', m' < (qq :: rest').length ∧ ∃ (done rest : List PartR) (ss : NV) (kvs : List (Key × V)), ps = done ++ rest ∧ m' = rest.length ∧ σ' = [some (.ref p)] ∧ SAt C CS H' p l m s t (prefRows sy ms done).length sy fi ms ss rows kvs (done.map (·.2.2)).sum ∧ ss.map (·.1) = done.map (·.1) ∧ KeepP CS p m s t H H', fun σ' H' z => z, ?_⟩
      refine ⟨_, rfl, p, dp6, _, rfl, hp6, (by kernel_rfl), ?_⟩
      have hat : rows[(prefRows sy ms done).length]? = some (0, [("part" : Str), qq.1]) := by
        have z := at_len (a := prefRows sy ms done) (b := ((qq :: rest').map partRows).flatten ++ mainRow :: ma)
        rw [← rows_cut PO eps] at z
        exact z
      have hrows : rows = (prefRows sy ms done ++ [(0, [("part" : Str), qq.1])]) ++ qq.2.1 ++ ((rest'.map partRows).flatten ++ mainRow :: ma) := by
        rw [rows_cut PO eps]
        unfold partRows
        simp only [List.map_cons, List.flatten_cons, List.append_assoc, List.cons_append, List.nil_append]
      have haft : AfterBod 1 ((rest'.map partRows).flatten ++ mainRow :: ma) := by
        intro r hr
        cases rest' with
        | nil =>
          have e := Option.some.inj hr
          rw [← e]
          exact Nat.zero_lt_one
        | cons a b =>
          have e := Option.some.inj hr
          rw [← e]
          exact Nat.zero_lt_one
      have hs1 := hsum (done ++ [qq]) rest' (by rw [eps]; simp)
      rw [List.map_append, List.sum_append] at hs1
      have hs2 : (done.map (·.2.2)).sum + qq.2.2 ≤ 20 := by
        have e : ([qq].map fun x : PartR => x.2.2).sum = qq.2.2 := by simp
        rw [e] at hs1
        omega
      have hpn := List.nodup_append.mp PO.nd
      have hname : qq.1 ∈ ps.map (·.1) := by rw [eps]; simp
      have hn1 : qq.1 ∉ ms.map (·.1) := fun z => hpn.2.2 _ z _ hname rfl
      have hn2 : qq.1 ∉ ss.map (·.1) := fun z => by
        rw [hss] at z
        have h1 := hpn.2.1
        rw [eps, List.map_append] at h1
        exact (List.nodup_append.mp h1).2.2 _ z _ (by simp) rfl
      have hsl : ss.length < 2 := by
        have h1 : ss.length = done.length := by
          have z := congrArg List.length hss
          rw [List.length_map, List.length_map] at z
          exact z
        have h2 := PO.p2
        rw [eps, List.length_append, List.length_cons] at h2
        omega
      refine ⟨p, l, m, s, t, (prefRows sy ms done).length, sy, fi, ms, ss, rows, prefRows sy ms done ++ [(0, [("part" : Str), qq.1])], qq.2.1, (rest'.map partRows).flatten ++ mainRow :: ma, kvs, (done.map (·.2.2)).sum, qq.2.2, qq.1, rfl, S6, hms, hG, hrows, by rw [List.length_append]; rfl, hat, PO.bod done qq rest' eps ss hss, hs2, haft, by have := PO.s4; omega, hsl, PO.names _ (List.mem_append_right _ hname), hn1, hn2, fun H7 v kvs7 k7 S7 => ?_⟩
      have el : (prefRows sy ms done).length + 1 + qq.2.1.length = (prefRows sy ms (done ++ [qq])).length := by
        unfold prefRows partRows
        simp only [List.map_append, List.flatten_append, List.length_cons, List.length_append, List.map_cons, List.map_nil, List.flatten_cons, List.flatten_nil, List.length_nil, List.append_nil]
        omega
      have ec : (done.map (·.2.2)).sum + qq.2.2 = ((done ++ [qq]).map (·.2.2)).sum := by
        rw [List.map_append, List.sum_append]
        simp
      rw [el, ec] at S7
      exact ⟨rest'.length, Nat.lt_succ_self _, done ++ [qq], rest', ss ++ [(qq.1, v)], kvs7, by rw [eps]; simp, rfl, rfl, S7, by rw [List.map_append, List.map_append, hss]; rfl, k6.trans k7⟩
    | nil =>
      rw [eW]
      refine iteF ?_
      rw [List.append_nil] at eps
      subst eps
      -- main
      refine ⟨_, rfl, p, dp6, _, rfl, hp6, (by kernel_rfl), p, l, m, s, t, (prefRows sy ms ps).length, 0, sy, fi, rows.map lineOf, rfl, S6.pin.ob, S6.ln, by omega, fun A7 H7 s7 hA7 hA71 => ⟨small (by show 1 ≤ 1000; decide), fun A8 hA8 => ?_⟩⟩
      rw [eW] at hA71
      have s8 := same_new hA8 (.lst [.str "main"])
      have okM : ∀ z ∈ ([("main" : Str)] : List Str), PyData.strOk z = true := by simp; decide +kernel
      refine ⟨.list (([("main" : Str)]).map .str), .list (([("main" : Str)]).map .str), .lst (.inl (.inl (s8 _ _ hA71))) (dp_strs [("main" : Str)]), .lst (.inl (.inl upd_same)) (dp_strs [("main" : Str)]), shaped_strs okM, shaped_strs okM, ?_⟩
      have ev : PyData.eqv (.list (([("main" : Str)]).map .str)) (.list (([("main" : Str)]).map .str)) = decide (([("main" : Str)]) = [("main" : Str)]) := eqv_strs _ _
      rw [ev, decide_eq_true rfl]
      refine ⟨_, rfl, iteF ?_⟩
      have s78 := s7.trans s8
      have S8 := S6.same s78
      have k8 := k6.trans (KeepP.of_same s78)
      generalize upd H7 A8 (.lst [.str "main"]) = H8 at S8 k8 s78 ⊢
      obtain ⟨⟨dp8, hp8⟩, _⟩ := id S8.pin
      refine ⟨_, rfl, p, dp8, _, rfl, hp8, (by kernel_rfl), ?_⟩
      have hrows : rows = (prefRows sy ms ps ++ [mainRow]) ++ ma ++ [] := by
        rw [rows_cut PO (done := ps) (rest := []) (by simp)]
        simp
      have hs1 := hsum ps [] (by simp)
      have hs0 : (([] : List PartR).map (·.2.2)).sum = 0 := rfl
      refine ⟨p, l, m, s, t, (prefRows sy ms ps).length, sy, fi, ms, ss, rows, prefRows sy ms ps ++ [mainRow], ma, [], kvs, (ps.map (·.2.2)).sum, nm, rfl, S8, hrows, by rw [List.length_append]; rfl, hG, PO.mbod ss hss, by omega, fun r hr => (by cases hr), by have := PO.s4; omega, fun v H9 kvs9 k9 S9 => ?_⟩
      obtain ⟨⟨dp9, hp9⟩, mo9, st9, nm9, ns9⟩ := id S9.pin
      refine ⟨_, rfl, p, C, dp9, _, rfl, hp9, TP.cl, TP.nFirst, (by show 7 < 1000; decide), ?_⟩
      rw [put_first]
      have n1 : l ≠ p := ne_of S9.ln.at_ hp9 (by intro z; cases z)
      have n2 : m ≠ p := ne_of mo9 hp9 (by intro z; cases z)
      have n3 : s ≠ p := ne_of st9 hp9 (by intro z; cases z)
      have n4 : t ≠ p := ne_of S9.dt hp9 (by intro z; cases z)
      have kk : Keep p t H9 (upd H9 p (.ins C dp9 (pf l ((((prefRows sy ms ps).length + 1 + ma.length : Nat) : Int) + 1) sy m s t (v : Int)))) := fun b o h n _ => by rw [upd_ne n]; exact h
      have S10 : SAt C CS (upd H9 p (.ins C dp9 (pf l ((((prefRows sy ms ps).length + 1 + ma.length : Nat) : Int) + 1) sy m s t (v : Int)))) p l m s t ((prefRows sy ms ps).length + 1 + ma.length) sy (v : Int) ms ss rows kvs9 ((ps.map (·.2.2)).sum + nm) := by
        refine ⟨⟨⟨dp9, upd_same⟩, by rw [upd_ne n2]; exact mo9, by rw [upd_ne n3]; exact st9, nm9, ns9⟩, ⟨by rw [upd_ne n1]; exact S9.ln.at_, S9.ln.few, S9.ln.short⟩, by rw [upd_ne n4]; exact S9.dt, S9.few, S9.keys, fun kv h => ?_, S9.nm, S9.ns, S9.cc⟩
        obtain ⟨a, h1, h2⟩ := S9.ok kv h
        exact ⟨a, h1, h2.keep S9 kk⟩
      have hp10 : (upd H9 p (.ins C dp9 (pf l ((((prefRows sy ms ps).length + 1 + ma.length : Nat) : Int) + 1) sy m s t (v : Int)))) p = some (.ins C dp9 (pf l ((((prefRows sy ms ps).length + 1 + ma.length : Nat) : Int) + 1) sy m s t (v : Int))) := upd_same
      refine ⟨_, rfl, p, C, dp9, _, _, rfl, hp10, TP.cl, TP.nNumber, pf_number, _, rfl, p, C, dp9, _, _, rfl, hp10, TP.cl, TP.nLines, pf_lines, l, _, rfl, .inl (.inl (.inl S10.ln.at_)), _, _, rfl, rfl, _, rfl, ?_⟩
      have elen : rows.length = (prefRows sy ms ps).length + 1 + ma.length := by
        rw [hrows]
        simp only [List.length_append, List.length_cons, List.length_nil]
        omega
      have e1 : decide (((((prefRows sy ms ps).length + 1 + ma.length : Nat) : Int) + 1) ≤ ((((rows.map lineOf).map V.str).length : Nat) : Int)) = false := decide_eq_false (by
        rw [List.length_map, List.length_map, elen]
        omega)
      dsimp only
      rw [e1]
      refine iteF ?_
      exact q _ _ _ ss kvs9 _ (k8.trans ((k9.p (m := m) (s := s)).trans (kk.f.p))) S10 hss (by omega)
end
end Fh
set_option Elab.async false
set_option linter.all false
set_option maxRecDepth 100000
set_option maxHeartbeats 4000000
/-! tuple(d.items()), tuple(d), list(d.values()), list(text) -/
namespace Fh
open PySem PySem.Spec PyProof.Rows L2 TL
section
variable {P : Program} {w : World} {A : Around} {E : Value → Shared → Prop} {s : Shared} {r d : Addr}
/-- what a dict's own walk gives, gathered -/
theorem collect_kdl {T : String} {n : Nat} {Pv : Nat → Value → Prop} {OK : Heap → Prop} {R : List Value → Shared → Prop} (K : PySem.W.KdlSrc P w T r d n Pv OK) (hh : A.handled = none) (hok : OK s.heap) (hn : n ≤ sizeLine)
    (hQ : ∀ (h' : Heap) (tk : Nat) (acc : Array Value), (∀ b o, s.heap.get? b = some o → h'.get? b = some o) → ItemsOf Pv acc n → R acc.toList { s with heap := h', toks := tk }) : wpAny (model P w) A (collect (.ref r)) R E s := by
  have hlt := K.there _ hok
  unfold collect
  refine wpAny_bind (wpAny_runValue (codeAny_builtin F.entry_proto_collect ?_))
  rw [Around.under_plainId F.plain_proto_collect _]
  refine wpAny_bind (m := newList []) (wpAny_newObj_type (wpAny_pure ⟨plainId_quiet F.plain_list_iadd _, codeAny_builtin F.entry_list_iadd ?_⟩))
  rw [Around.under_plainId F.plain_list_iadd _]
  have n1 : (s.heap.push { cls := .type "list", data := .seq ([] : List Value).toArray }).get? s.heap.objs.size = some { cls := .type "list", data := .seq #[] 0 } := Heap.get?_push_size _ rfl
  refine wpAny_mono (PySem.W.kdl_extend (A := A) (s := { s with heap := s.heap.push { cls := .type "list", data := .seq ([] : List Value).toArray } }) (R := fun q u => q = .ok (.ret (.ref s.heap.objs.size)) ∧ ∃ (h' : Heap) (tk : Nat) (acc : Array Value) (c : Nat), u = { s with heap := h', toks := tk } ∧ (∀ b o, s.heap.get? b = some o → h'.get? b = some o) ∧
      h'.get? s.heap.objs.size = some { cls := .type "list", dict := none, data := .seq acc c, slots := #[] } ∧ ItemsOf Pv acc n) K hh (K.keep _ _ hok fun b _ o e => Heap.get?_push_of_some _ e) s.heap.objs.size (Nat.ne_of_gt hlt.1) (Nat.ne_of_gt hlt.2) (.ref s.heap.objs.size) 0 n1
      (fun h' tk acc c k e i => ⟨rfl, h', tk, acc, c, rfl, fun b o q => k b o (Nat.ne_of_lt (Heap.lt_size q)) (Heap.get?_push_of_some _ q), e, i⟩) hn) (fun fin u z => ?_) (fun e u z => absurd z.1 (by simp))
  cases fin with
  | done f =>
    obtain ⟨e, h', tk, acc, c, rfl, k, g, i⟩ := z
    cases e
    exact wpAny_bind (m := load s.heap.objs.size) (wpAny_load g (wpAny_pure (hQ h' tk acc k i)))
  | again c' =>
    refine ⟨z.1, codeAny_mono z.2 fun q u2 y => ?_⟩
    obtain ⟨rfl, h', tk, acc, c, rfl, k, g, i⟩ := y
    exact wpAny_bind (m := load s.heap.objs.size) (wpAny_load g (wpAny_pure (hQ h' tk acc k i)))
/-- tuple(x), x gathered by its own walk -/
theorem code_tuple_by {T : String} {C : Heap → List Value → Prop} {Q₁ : Value → Shared → Prop} (hT : s.TypeIs (.ref r) T) (hTT : T = "dict" ∨ T = "dict_items")
    (col : ∀ (R : List Value → Shared → Prop), (∀ h' tk vs, C h' vs → R vs { s with heap := h', toks := tk }) → wpAny (model P w) A.in1 (collect (.ref r)) R (fun e s' => wants Q₁ E (.error e) s') s) (hsz : ∀ h' vs, C h' vs → vs.length ≤ sizeLine)
    (h : ∀ (h' : Heap) (tk : Nat) (vs : List Value), C h' vs → Q₁ (.ref h'.objs.size) { s with heap := h'.push { cls := .type "tuple", data := .seq vs.toArray }, toks := tk }) :
    codeAny (model P w) A (.call (.builtin "tuple.__new__") ⟨[.type "tuple", .ref r], []⟩) (wants Q₁ E) s := by
  refine codeAny_of_tree (wpAny_bind (m := checkBuiltinCall "tuple.__new__" ⟨[.type "tuple", .ref r], []⟩) (wpAny_of_eq (F.newCall_tuple_1 _) (wpAny_pure ⟨plainId_quiet F.plain_tuple_new _, codeAny_builtin F.entry_tuple_new ?_⟩)))
  rw [Around.under_plainId F.plain_tuple_new _]
  have hsub := sub_tuple_self
  have hinit := init_tuple_lookup
  have hmh := madeHere_tuple
  have fin : ∀ (h' : Heap) (tk : Nat) (vs : List Value), C h' vs → wpAny (model P w) A.in1 (Builtin.Tuple.tupleExact vs.toArray >>= fun v => ret v) (fun fin s' => match fin with | .done f => wants Q₁ E (.ok f) s' | .again c' => c'.quiet = true ∧ codeAny (model P w) A c' (wants Q₁ E) s') (fun e s' => wants Q₁ E (.error e) s') { s with heap := h', toks := tk } := fun h' tk vs hC => by
    unfold Builtin.Tuple.tupleExact
    exact wpAny_bind (wpAny_newObj_type (wpAny_pure (h h' tk vs hC)) (by show vs.toArray.size ≤ sizeLine; simpa using hsz h' vs hC))
  rcases hTT with rfl | rfl
  all_goals
    wp_walk using wpAny_typeOf hT, col
    intro h' tk vs hC
    exact fin h' tk vs hC
theorem call_tuple_by {T : String} {C : Heap → List Value → Prop} {Q : Value → Shared → Prop} (hT : s.TypeIs (.ref r) T) (hTT : T = "dict" ∨ T = "dict_items")
    (col : ∀ (E' : Value → Shared → Prop) (A' : Around) (R : List Value → Shared → Prop), A'.handled = A.handled → (∀ h' tk vs, C h' vs → R vs { s with heap := h', toks := tk }) → wpAny (model P w) A' (collect (.ref r)) R E' s) (hsz : ∀ h' vs, C h' vs → vs.length ≤ sizeLine)
    (hQ : ∀ (h' : Heap) (tk : Nat) (vs : List Value), C h' vs → Q (.ref h'.objs.size) { s with heap := h'.push { cls := .type "tuple", data := .seq vs.toArray }, toks := tk }) : wpAny (model P w) A (call (.type "tuple") [.ref r]) Q E s := by
  refine callType_codes (Q₁ := fun obj s₁ => s₁.TypeIs obj "tuple" ∧ Q obj s₁) F.called_tuple (F.typeCall_tuple_1 _) F.entry_object_init
    (code_tuple_by (A := A.in1) hT hTT (fun R hR => col _ _ R rfl hR) hsz fun h' tk vs hC => ⟨⟨_, Heap.get?_push_size _ rfl, rfl⟩, hQ h' tk vs hC⟩) fun obj s₁ h₁ => ?_
  exact ⟨h₁.1, F.args_object_init_2 obj _, object_init_meets F.called_tuple.init.lookup F.called_tuple.made (by decide) P w A.in1 _ s₁ ⟨h₁.1, rfl, h₁.2⟩⟩
end
/-! ### over the layer -/
section
variable {X : Cx}
/-- list(text): its signs -/
def rListT : List V → Hp → VK → Prop := fun xs H Q => ∃ z : Str, xs = [.str z] ∧ z.length ≤ 10000 ∧ ∀ p, H p = none → Q (.ref p) (upd H p (.lst ((tl z).map fun c => V.str ⟨#[c]⟩)))
theorem call_list_text (hc : X.calm = true) : CallR X (.type "list") rListT := by
  intro pins s σ H xs us Q I r h
  obtain ⟨z, rfl, hz, q⟩ := h
  cases r with
  | cons r0 rr =>
    cases rr
    obtain ⟨t, rfl⟩ := r0
    refine PySem.call_list_str (I.ok.hd hc) z t (fun h' tk acc c k hS hacc => ?_) (by
      have : z.cps.size ≤ 20000 := Nat.le_trans hz (by decide)
      exact sizeLine_big this)
    have hlen : acc.toList.length = (tl z).length := by rw [Array.length_toList, hacc.1]; exact Array.length_toList.symm
    refine ⟨.ref s.heap.objs.size, upd H s.heap.objs.size (.lst ((tl z).map fun c => V.str ⟨#[c]⟩)), I.laid (t' := tk) k (Nat.le_refl _) ⟨?_, acc.toList, c, ?_, ?_⟩, rfl, q _ (I.hok.fresh (Nat.le_refl _))⟩
    · rw [List.length_map, ← len_tl]
      exact sizeLine_big (by omega)
    · refine vals_of_at (by rw [List.length_map, hlen]) fun j x u h1 h2 => ?_
      have h3 := hacc.2 j u (by rw [← Array.getElem?_toList]; exact h2)
      rw [List.getElem?_map] at h1
      obtain ⟨c0, e1, e2⟩ := Option.map_eq_some_iff.mp h1
      subst e2
      obtain ⟨c1, u1, e3, rfl⟩ := h3
      have e4 : z.cps[j]? = some c0 := by rw [← Array.getElem?_toList]; exact e1
      rw [e4] at e3
      cases e3
      exact ⟨u1, rfl⟩
    · rw [Array.toArray_toList]
      exact hS
/-- tuple(d): its keys -/
def rTupD : List V → Hp → VK → Prop := fun xs H Q => ∃ (d : Addr) (kvs : List (Key × V)), xs = [.ref d] ∧ H d = some (.dK kvs) ∧ ∀ p, H p = none → Q (.ref p) (upd H p (.tup (kvs.map fun kv => kV kv.1)))
theorem call_tuple_d (hc : X.calm = true) : CallR X (.type "tuple") rTupD := by
  intro pins s σ H xs us Q I r h
  obtain ⟨d, kvs, rfl, hd, q⟩ := h
  rw [Vals.ref1 r]
  obtain ⟨z, lo, vs, rk, hdo⟩ := (show ObjOk X.prog X.w H s.heap d (.dK kvs) from I.hok d _ hd)
  obtain ⟨ep, hat⟩ := hdo.dictAt
  have hl : kvs.length = vs.length := Paired.length rk
  have K := PySem.W.kdl_dict (prog := X.prog) (w := X.w) (knd := mixKind X.prog X.w) (kvs := vs) (ep := ep) (d := d) lo
  refine call_tuple_by (C := fun h' us => (∀ b o, s.heap.get? b = some o → h'.get? b = some o) ∧ ∃ acc : Array Value, us = acc.toList ∧ ItemsOf (fun i v => ∃ k x, vs[i]? = some (k, x) ∧ (mixKind X.prog X.w).is k v = true) acc vs.length) (T := "dict") hdo.typeIs (.inl rfl)
    (fun E' A' R hA hR => collect_kdl K (hA.trans (I.ok.hd hc)) hat (by rw [← hl]; exact z) fun h' tk acc k i => hR h' tk _ ⟨k, acc, rfl, i⟩) (fun h' us hC => ?_) fun h' tk us hC => ?_
  · obtain ⟨_, acc, rfl, i⟩ := hC
    rw [Array.length_toList, i.1, ← hl]
    exact z
  · obtain ⟨k, acc, rfl, i⟩ := hC
    have I1 : Inv X pins σ H { s with heap := h', toks := tk } := I.kept k
    have hnew : H h'.objs.size = none := I1.hok.fresh (Nat.le_refl _)
    have hv : Vals (kvs.map fun kv => kV kv.1) acc.toList := by
      have el : acc.toList.length = acc.size := by simp
      refine vals_of_at (by rw [List.length_map, el, i.1, hl]) fun j x u h1 h2 => ?_
      obtain ⟨k0, y, hky, hi⟩ := i.2 j u (by rw [← Array.getElem?_toList]; exact h2)
      rw [List.getElem?_map] at h1
      obtain ⟨kv, e1, e2⟩ := Option.map_eq_some_iff.mp h1
      subst e2
      have e3 : (kvs.map (·.1))[j]? = some k0 := by
        rw [KV.keys rk, List.getElem?_map, hky] <;> rfl
      rw [List.getElem?_map, e1] at e3
      have e4 : kv.1 = k0 := Option.some.inj e3
      rw [e4]
      exact relV_key (show keyIs k0 u = true from hi)
    refine ⟨.ref h'.objs.size, upd H h'.objs.size (.tup (kvs.map fun kv => kV kv.1)), I1.laid (t' := tk) (fun b o e => Heap.get?_push_of_some _ e) (Nat.le_refl _) (show ObjOk X.prog X.w _ _ _ (.tup (kvs.map fun kv => kV kv.1)) from ⟨by rw [List.length_map]; exact z, acc.toList, hv, IsTup.new _ _⟩), rfl, q _ hnew⟩
variable {e : Expr} {te : TE} {p apos cpos pos : Pos}
/-- list(e.values()) -/
def tListVals (te : TE) : TE := fun σ H Q => te σ H fun x H1 => ∃ (d : Addr) (kvs : List (Key × V)), x = .ref d ∧ H1 d = some (.dK kvs) ∧ ∀ q, H1 q = none → Q (.ref q) (upd H1 q (.lst (kvs.map (·.2))))
theorem pe_listVals (hc : X.calm = true) (he : PE X e te) (hg : Gl X "list") (hm : X.mg "list" = none) (hv : bootBuiltins "list" = some (.type "list")) (hb : attributeBase e "values" X.env (eval e X.env) = eval e X.env := by rfl) (hl : (apos.endLine == cpos.line) = true := by rfl)
    (hs : starEach [.Call (.Attribute e "values" apos) [] [] cpos] X.env = (false, eval (.Call (.Attribute e "values" apos) [] [] cpos) X.env) :: starEach [] X.env := by rfl) :
    PE X (.Call (.Name "list" p) [.Call (.Attribute e "values" apos) [] [] cpos] [] pos) (tListVals te) := by
  refine ⟨fun pins s σ H Q I hq => wpAny_Call_Name_kw (ld_blt I hg hm hv (PyProof.Rows.callWith_type1 ?_ hs rfl))⟩
  rw [hs]
  refine Calls.spliced_cons (wpAny_Call_method (T := "dict") (id := "dict.values") hb rfl hl F.plainAttrs_dict F.slot_dict_values F.type_dict_values (thn (he.run pins s σ H _ I hq) fun u s1 ⟨x, H1, I1, rx, d, kvs, ex, hd, q⟩ => ?_))
  subst ex
  obtain rfl : u = Value.ref d := rx
  obtain ⟨hz, lo, vs, kv, hdo⟩ := I1.hok d _ hd
  obtain ⟨ep, hat⟩ := hdo.dictAt
  have lk : kvs.length = vs.length := Paired.length kv
  have I2 : Inv X pins σ H1 { s1 with heap := s1.heap.push { cls := .type "dict_values", data := .fields #[.ref d] } } := I1.kept (t' := s1.toks) fun b ob z => Heap.get?_push_of_some _ z
  refine ⟨hdo.typeIs, hdo.mapOf.noDict, ?_⟩
  refine method_meetsIn F.slot_dict_values F.entry_dict_values rfl (PySem.evalArgs_none ⟨rfl, hdo.typeIs, F.args_dict_values_1 _, _, meets_dict_values (mixKind X.prog X.w) d lo, ⟨vs, hdo⟩, Calls.spliced_nil ?_⟩)
  have K := PySem.W.kdl_values (prog := X.prog) (w := X.w) (knd := mixKind X.prog X.w) (kvs := vs) (ep := ep) (d := d) (r := s1.heap.objs.size)
  refine PySem.W.kdl_call K (I1.ok.hd hc) ⟨⟨_, Heap.get?_push_size _ rfl, rfl, rfl⟩, hat.push _⟩ (by rw [← lk]; exact hz) fun h' tk acc c k hS hacc => ?_
  have hsz : s1.heap.objs.size ≤ (s1.heap.push { cls := .type "dict_values", data := .fields #[.ref d] }).objs.size := by rw [Heap.size_push]; exact Nat.le_succ _
  refine ⟨.ref _, upd H1 _ (.lst (kvs.map (·.2))), I2.laid (t' := tk) k (Nat.le_refl _) (show ObjOk X.prog X.w _ _ _ (.lst (kvs.map (·.2))) from ⟨by rw [List.length_map]; exact hz, acc.toList, c, ?_, by rw [Array.toArray_toList]; exact hS⟩), rfl, q _ (I2.hok.fresh (Nat.le_refl _))⟩
  have el : acc.toList.length = acc.size := by simp
  refine vals_of_at (by rw [List.length_map, el, hacc.1, lk]) fun j y u h1 h2 => ?_
  obtain ⟨k0, hky⟩ := hacc.2 j u (by rw [← Array.getElem?_toList]; exact h2)
  rw [List.getElem?_map] at h1
  obtain ⟨kv0, e1, e2⟩ := Option.map_eq_some_iff.mp h1
  subst e2
  obtain ⟨y2, g1, g2, g3⟩ := LiI.paired_get kv e1
  rw [hky] at g1
  cases g1
  exact g3
/-- the pairs of a dict, each a new tuple -/
theorem pairs_laid {pins : List (Addr × Obj)} {σ : L2.St} {H : Hp} {s : Shared} {h' : Heap} {tk : Nat} {kvs : List (Key × V)} {vs : List (Key × Value)} {as : List Addr} {lo : Addr} (I : Inv X pins σ H s) (kv : KV kvs vs)
    (hk : ∀ b o, s.heap.get? b = some o → h'.get? b = some o) (hl : as.length = vs.length) (hlo : s.heap.objs.size ≤ lo) (hG : PySem.W.KdxG (mixKind X.prog X.w) vs lo h' as) :
    ∃ H' : Hp, Same H H' ∧ Paired (fun (t : Addr) (q : Key × V) => H' t = some (.tup [kV q.1, q.2])) as kvs ∧ (∀ b, b ∉ as → H' b = H b) ∧ (∀ t ∈ as, H t = none) ∧ Inv X pins σ H' { s with heap := h', toks := tk } := by
  have lk : kvs.length = vs.length := Paired.length kv
  have nd : as.Nodup := List.Pairwise.imp (fun {a b} (h : a < b) => Nat.ne_of_lt h) hG.rise
  have hi : ∀ t ∈ as, s.heap.objs.size ≤ t := fun t ht => Nat.le_trans hlo (Nat.le_of_lt (hG.above t ht))
  have new : ∀ t ∈ as, H t = none := fun t ht => I.hok.fresh (hi t ht)
  have at_ := LiI.putT_at as kvs H (by omega) nd
  have off : ∀ b, b ∉ as → LiI.putT H as kvs b = H b := fun b h1 => LiI.putT_off as kvs _ h1
  have low : ∀ b o, s.heap.get? b = some o → b ∉ as := fun b o e z => absurd (Heap.lt_size e) (Nat.not_lt.mpr (hi b z))
  have kp : Same H (LiI.putT H as kvs) := fun b u e => by
    rw [off b fun z => by rw [new b z] at e; cases e]
    exact e
  refine ⟨LiI.putT H as kvs, kp, at_, off, new, ?_⟩
  refine I.call' (ch := []) rfl ⟨fun b o q _ _ _ => hk b o q, fun b o q _ _ _ => ⟨o.slots, hk b o q⟩, fun b o q n _ => ?_, fun b o q _ => ⟨o, hk b o q⟩, fun b xs q => kp b _ q, fun b o u q => kp b _ q, fun b ps q => ⟨#[], by rw [kp b _ q]; simp⟩⟩ (fun b u q => ?_) I.bare fun b z => by cases z
  · rw [off b (low b o q)]
    exact n
  · by_cases hb : b ∈ as
    · obtain ⟨j, pk, e1, e2, e3⟩ := LiI.paired_ix at_ hb
      rw [e3] at q
      cases q
      obtain ⟨key, k, x, f1, f2, f3⟩ := hG.pairs j b e1
      obtain ⟨qv, g1, g2, g3⟩ := LiI.paired_get kv e2
      rw [f1] at g1
      cases g1
      have rk : RelV (kV pk.1) key := by
        rw [g2]
        exact relV_key (show keyIs k key = true from f2)
      exact ⟨small (by show 2 ≤ 1000; decide), [key, x], .cons rk (.cons g3 .nil), ⟨_, f3, rfl, _, rfl⟩⟩
    · rw [off b hb] at q
      exact (I.hok b u q).stay (fun d v _ y => hk d v y) (fun d y => kp d _ y) fun d xs y => kp d _ y
theorem paired_same {H2 H3 : Hp} {as : List Addr} {kvs : List (Key × V)} (pr : Paired (fun (t : Addr) (y : Key × V) => H2 t = some (.tup [kV y.1, y.2])) as kvs) (sn : Same H2 H3) :
    Paired (fun (t : Addr) (y : Key × V) => H3 t = some (.tup [kV y.1, y.2])) as kvs := by
  induction pr with
  | nil => exact .nil
  | cons h _ ih => exact .cons (sn _ _ h) ih
/-- tuple(e.items()) -/
def tTupItems (te : TE) : TE := fun σ H Q => te σ H fun x H1 => ∃ (d : Addr) (kvs : List (Key × V)), x = .ref d ∧ H1 d = some (.dK kvs) ∧
  ∀ (q : Addr) (H2 : Hp) (as : List Addr), Same H1 H2 → H1 q = none → H2 q = some (.tup (as.map V.ref)) → Paired (fun (t : Addr) (y : Key × V) => H2 t = some (.tup [kV y.1, y.2])) as kvs → Q (.ref q) H2
theorem pe_tupItems (hc : X.calm = true) (he : PE X e te) (hg : Gl X "tuple") (hm : X.mg "tuple" = none) (hv : bootBuiltins "tuple" = some (.type "tuple")) (hb : attributeBase e "items" X.env (eval e X.env) = eval e X.env := by rfl) (hl : (apos.endLine == cpos.line) = true := by rfl)
    (hs : starEach [.Call (.Attribute e "items" apos) [] [] cpos] X.env = (false, eval (.Call (.Attribute e "items" apos) [] [] cpos) X.env) :: starEach [] X.env := by rfl) :
    PE X (.Call (.Name "tuple" p) [.Call (.Attribute e "items" apos) [] [] cpos] [] pos) (tTupItems te) := by
  refine ⟨fun pins s σ H Q I hq => wpAny_Call_Name_kw (ld_blt I hg hm hv (PyProof.Rows.callWith_type1 ?_ hs rfl))⟩
  rw [hs]
  refine Calls.spliced_cons (wpAny_Call_method (T := "dict") (id := "dict.items") hb rfl hl F.plainAttrs_dict F.slot_dict_items F.type_dict_items (thn (he.run pins s σ H _ I hq) fun u s1 ⟨x, H1, I1, rx, d, kvs, ex, hd, q⟩ => ?_))
  subst ex
  obtain rfl : u = Value.ref d := rx
  obtain ⟨hz, lo, vs, kv, hdo⟩ := I1.hok d _ hd
  obtain ⟨ep, hat⟩ := hdo.dictAt
  have lk : kvs.length = vs.length := Paired.length kv
  have I2 : Inv X pins σ H1 { s1 with heap := s1.heap.push { cls := .type "dict_items", data := .fields #[.ref d] } } := I1.kept (t' := s1.toks) fun b ob z => Heap.get?_push_of_some _ z
  refine ⟨hdo.typeIs, hdo.mapOf.noDict, ?_⟩
  refine method_meetsIn F.slot_dict_items F.entry_dict_items rfl (PySem.evalArgs_none ⟨rfl, hdo.typeIs, F.args_dict_items_1 _, _, meets_dict_items (mixKind X.prog X.w) d lo, ⟨vs, hdo⟩, Calls.spliced_nil ?_⟩)
  have n1 : (s1.heap.push { cls := .type "dict_items", data := .fields #[.ref d] }).get? s1.heap.objs.size = some { cls := .type "dict_items", data := .fields #[.ref d] } := Heap.get?_push_size _ rfl
  refine call_tuple_by (s := { s1 with heap := s1.heap.push { cls := .type "dict_items", data := .fields #[.ref d] } }) (T := "dict_items") (C := fun h' us => (∀ b o, (s1.heap.push { cls := .type "dict_items", data := .fields #[.ref d] }).get? b = some o → h'.get? b = some o) ∧ ∃ as : List Addr, us = as.map Value.ref ∧ as.length = vs.length ∧
      PySem.W.KdxG (mixKind X.prog X.w) vs (s1.heap.push { cls := .type "dict_items", data := .fields #[.ref d] }).objs.size h' as) ⟨_, n1, rfl⟩ (.inr rfl)
    (fun E' A' R hA hR => PySem.W.kdx_collect (knd := mixKind X.prog X.w) (kvs := vs) (ep := ep) (hA.trans (I1.ok.hd hc)) ⟨_, n1, rfl, rfl⟩ (hat.push _) (by rw [← lk]; exact hz) fun h' tk as k l g => hR h' tk _ ⟨k, as, rfl, l, g⟩) (fun h' us hC => ?_) fun h' tk us hC => ?_
  · obtain ⟨_, as, rfl, l, _⟩ := hC
    rw [List.length_map, l, ← lk]
    exact hz
  · obtain ⟨k, as, rfl, l, g⟩ := hC
    obtain ⟨H2, s2, pr, off, new, J⟩ := pairs_laid (tk := tk) I2 kv k l (Nat.le_refl _) g
    have hn : H2 h'.objs.size = none := J.hok.fresh (Nat.le_refl _)
    have hn1 : H1 h'.objs.size = none := s2.free hn
    refine ⟨.ref h'.objs.size, upd H2 h'.objs.size (.tup (as.map V.ref)), J.laid (t' := tk) (fun b o e => Heap.get?_push_of_some _ e) (Nat.le_refl _) (show ObjOk X.prog X.w _ _ _ (.tup (as.map V.ref)) from ⟨by rw [List.length_map, l, ← lk]; exact hz, as.map Value.ref, LiI.vals_refs as, IsTup.new _ _⟩), rfl, q _ _ as (s2.trans (same_new hn _)) hn1 upd_same ?_⟩
    exact paired_same pr (same_new hn (.tup (as.map V.ref)))
end
end Fh
set_option Elab.async false
set_option linter.all false
set_option maxRecDepth 100000
set_option maxHeartbeats 4000000
namespace Fh
open PySem L2 TL
/-! ### Parser.__init__ -/
abbrev nl : Str := "\n"
abbrev s_Parser_init : Stmt := inClass (top 32) 0
abbrev sc_Parser_initN : List Str := ["self", "text"]
theorem sc_Parser_init : FnScope sc_Parser_initN ["self", "text"] (defScope s_Parser_init) := ⟨rfl, rfl, rfl, by decide +kernel, rfl, by decide +kernel, by decide +kernel⟩
def spPInit (C : Addr) : Sp := fun vs H Q _ => ∃ (p dx : Addr) (z : Str), vs = [.ref p, .str z] ∧ H p = some (.ins C dx []) ∧ z.length ≤ 10000 ∧
  ∀ (l m s t : Addr) (H' : Hp), H l = none → H m = none → H s = none → H t = none → m ≠ s → m ≠ t → s ≠ t → H' p = some (.ins C dx (pf l 1 "" m s t 0)) → H' l = some (.lst ((Txt.split z nl).map V.str)) → H' m = some (.dK []) → H' s = some (.dK []) → H' t = some (.dK []) → But p H H' → Q .non H'
section
variable {P : Program} {w : World} {K : PySem.W.Frag} {mg : Str → Option Value} {base : Heap}
theorem free_but {p a : Addr} {H H' : Hp} (e : But p H H') (n : a ≠ p) (h : H' a = none) : H a = none := by
  cases q : H a with
  | none => rfl
  | some o => rw [e a o q n] at h; cases h
theorem fldV {D : Ends} {σ : L2.St} {H2 : Hp} {tv : TE} {v : V} {p C dx : Addr} {F : List (Str × V)} {x : Str} (h0 : σ[0]? = some (some (.ref p))) (cl : Cls K C) (na : NoAttr K C x) (hl : F.length < 1000) (p2 : H2 p = some (.ins C dx F)) (hv : ∀ Q : VK, Q v H2 → tv σ H2 Q)
    (q : ∀ H3 : Hp, H3 p = some (.ins C dx (putF x v F)) → But p H2 H3 → D.nx σ H3) : sFld K (tVar 0) tv x D σ H2 :=
  hv _ ⟨_, h0, p, C, dx, F, rfl, p2, cl, na, hl, q _ upd_same But.upd⟩
theorem fldD {D : Ends} {σ : L2.St} {H2 : Hp} {p C dx : Addr} {F : List (Str × V)} {x : Str} (h0 : σ[0]? = some (some (.ref p))) (cl : Cls K C) (na : NoAttr K C x) (hl : F.length < 1000) (p2 : H2 p = some (.ins C dx F))
    (q : ∀ (m : Addr) (H3 : Hp), H2 m = none → H3 m = some (.dK []) → H3 p = some (.ins C dx (putF x (.ref m) F)) → But p H2 H3 → D.nx σ H3) : sFld K (tVar 0) tDNewK x D σ H2 := fun m hm => by
  have n : p ≠ m := ne_of_none p2 hm
  exact ⟨_, h0, p, C, dx, F, rfl, by rw [upd_ne n]; exact p2, cl, na, hl, q m _ hm (by rw [upd_ne n.symm]; exact upd_same) upd_same ((But.of_same (same_new hm _)).trans But.upd)⟩
theorem fldVs {D : Ends} {u : TS} {σ : L2.St} {H2 : Hp} {tv : TE} {v : V} {p C dx : Addr} {F : List (Str × V)} {x : Str} (h0 : σ[0]? = some (some (.ref p))) (cl : Cls K C) (na : NoAttr K C x) (hl : F.length < 1000) (p2 : H2 p = some (.ins C dx F)) (hv : ∀ Q : VK, Q v H2 → tv σ H2 Q)
    (q : ∀ H3 : Hp, H3 p = some (.ins C dx (putF x v F)) → But p H2 H3 → u D σ H3) : tSeq (sFld K (tVar 0) tv x) u D σ H2 := fldV h0 cl na hl p2 hv q
theorem fldDs {D : Ends} {u : TS} {σ : L2.St} {H2 : Hp} {p C dx : Addr} {F : List (Str × V)} {x : Str} (h0 : σ[0]? = some (some (.ref p))) (cl : Cls K C) (na : NoAttr K C x) (hl : F.length < 1000) (p2 : H2 p = some (.ins C dx F))
    (q : ∀ (m : Addr) (H3 : Hp), H2 m = none → H3 m = some (.dK []) → H3 p = some (.ins C dx (putF x (.ref m) F)) → But p H2 H3 → u D σ H3) : tSeq (sFld K (tVar 0) tDNewK x) u D σ H2 := fldD h0 cl na hl p2 q
theorem ok_parser_init {f C : Addr} {fd : FuncData} (F : Fun K "__init__" "Parser.__init__" s_Parser_init f fd) (T : PTxt K C) : FnOk P w K mg base CX0 1 f fd ["self", "text"] (spPInit C) := by
  refine F.ok sc_Parser_init (fun vs H Q E h => ?_) (fun cdv A outer st H vs Q E hr h => ?_)
  · obtain ⟨p, dx, z, rfl, _⟩ := h
    rfl
  obtain ⟨p, dx, z, rfl, hp, hz, q⟩ := h
  refine ⟨_, (pss_cons (ps_fld (pv 0) (pe_split (pv 1) pe_str) rfl)
(pss_cons (ps_fld (pv 0) pe_int rfl)
(pss_cons (ps_fld (pv 0) pe_str rfl)
(pss_cons (ps_fld (pv 0) pe_dnewK rfl)
(pss_cons (ps_fld (pv 0) pe_dnewK rfl)
(pss_cons (ps_fld (pv 0) pe_dnewK rfl)
(pss_one (ps_fld (pv 0) pe_int rfl)))))))), ?_⟩
  refine ⟨_, rfl, ⟨_, rfl⟩, _, _, rfl, rfl, by decide +kernel, sizeLine_big (by omega), fun l hl => ?_⟩
  have n1 : p ≠ l := ne_of_none hp hl
  refine ⟨_, rfl, p, C, dx, _, rfl, (by rw [upd_ne n1]; exact hp), T.cl, T.nLines, (by show 0 < 1000; decide), ?_⟩
  have b1 : But p H (upd (upd H l (.lst ((Txt.split z nl).map V.str))) p (HO.ins C dx (putF "lines" (.ref l) []))) := (But.of_same (same_new hl _)).trans But.upd
  have l1 : (upd (upd H l (.lst ((Txt.split z nl).map V.str))) p (HO.ins C dx (putF "lines" (.ref l) []))) l = some (.lst ((Txt.split z nl).map V.str)) := by rw [upd_ne n1.symm]; exact upd_same
  refine fldVs (tv := tC (.int 1)) (v := .int 1) (F := putF "lines" (.ref l) []) rfl T.cl T.nNumber (by show 1 < 1000; decide) upd_same (fun Q k => k) fun H2 p2 b2 => ?_
  refine fldVs (tv := tC (.str "")) (v := .str "") rfl T.cl T.nSymbols (by show 2 < 1000; decide) p2 (fun Q k => k) fun H3 p3 b3 => ?_
  refine fldDs rfl T.cl T.nMosts (by show 3 < 1000; decide) p3 fun m H4 hm m4 p4 b4 => ?_
  refine fldDs rfl T.cl T.nStarts (by show 4 < 1000; decide) p4 fun s H5 hs s5 p5 b5 => ?_
  refine fldDs rfl T.cl T.nStatements (by show 5 < 1000; decide) p5 fun t H6 ht t6 p6 b6 => ?_
  refine fldV (tv := tC (.int 0)) (v := .int 0) rfl T.cl T.nFirst (by show 6 < 1000; decide) p6 (fun Q k => k) fun H7 p7 b7 => ?_
  have b03 := (b1.trans b2).trans b3
  have b04 := b03.trans b4
  have b05 := b04.trans b5
  have nm : m ≠ p := (ne_of_none p3 hm).symm
  have ns : s ≠ p := (ne_of_none p4 hs).symm
  have nt : t ≠ p := (ne_of_none p5 ht).symm
  have m5 := b5 _ _ m4 nm
  have s6 := b6 _ _ s5 ns
  refine q l m s t H7 hl (free_but b03 nm hm) (free_but b04 ns hs) (free_but b05 nt ht) (ne_of_none m4 hs) (ne_of_none m5 ht) (ne_of_none s5 ht) ?_ ?_ ?_ ?_ ?_ (b05.trans (b6.trans b7))
  · rw [p7]
    exact congrArg (fun l => some (HO.ins C dx l)) (by kernel_rfl)
  · exact ((((b2.trans b3).trans b4).trans b5).trans (b6.trans b7)) _ _ l1 n1.symm
  · exact (b6.trans b7) _ _ m5 nm
  · exact b7 _ _ s6 ns
  · exact b7 _ _ t6 nt
end
end Fh
set_option Elab.async false
set_option linter.all false
set_option maxRecDepth 100000
set_option maxHeartbeats 4000000
namespace Fh
open PySem L2 TL
/-! ### parse -/
/-- all is as it was but statements -/
def KeepI (CS : Addr) (H H' : Hp) : Prop := ∀ b o, H b = some o → (∀ dx fs, o ≠ .ins CS dx fs) → H' b = some o
theorem KeepI.of_same {CS : Addr} {H H' : Hp} (e : Same H H') : KeepI CS H H' := fun b o h _ => e b o h
theorem KeepI.trans {CS : Addr} {H H1 H2 : Hp} (a : KeepI CS H H1) (b : KeepI CS H1 H2) : KeepI CS H H2 := fun c o h n => b c o (a c o h n) n
/-- a text that is a program -/
structure TextOk (sy : Str) (ms : NV) (ps : List PartR) (ma : List Row) (nm : Nat) (rows : List Row) (z : Str) : Prop where
  ok : ProgOk sy ms ps ma nm rows
  eq : z = Txt.join nl (rows.map lineOf)
  len : z.length ≤ 10000
  few : rows.length ≤ 1000
  short : ∀ r ∈ rows, (lineOf r).length ≤ 10000
  no : ∀ r ∈ rows, 10 ∉ tl (lineOf r)
theorem tl_nl : tl nl = [10] := by decide +kernel
theorem TextOk.lines {sy : Str} {ms : NV} {ps : List PartR} {ma : List Row} {nm : Nat} {rows : List Row} {z : Str} (h : TextOk sy ms ps ma nm rows z) : Txt.split z nl = rows.map lineOf := by
  rw [h.eq]
  refine split_join tl_nl (by decide +kernel) (fun e => ?_) (fun p hp => ?_)
  · have := h.ok.eq
    rw [List.map_eq_nil_iff.mp e] at this
    unfold headRows at this
    cases this
  · obtain ⟨r, hr, rfl⟩ := List.mem_map.mp hp
    exact h.no r hr
abbrev s_parse : Stmt := top 30
abbrev sc_parseN : List Str := ["text", "parser"]
theorem sc_parse : FnScope sc_parseN ["text"] (defScope s_parse) := ⟨rfl, rfl, rfl, by decide +kernel, rfl, by decide +kernel, by decide +kernel⟩
def spParse (C CS : Addr) : Sp := fun vs H Q _ => ∃ (sy : Str) (ms : NV) (ps : List PartR) (ma : List Row) (nm : Nat) (rows : List Row) (z : Str), vs = [.str z] ∧ TextOk sy ms ps ma nm rows z ∧
  ∀ (p l m s t : Addr) (H' : Hp) (k : Nat) (fi : Int) (ss : NV) (kvs : List (Key × V)) (cnt : Nat), KeepI CS H H' → SAt C CS H' p l m s t k sy fi ms ss rows kvs cnt → ss.map (·.1) = ps.map (·.1) → cnt ≤ 20 → Q (.ref p) H'
section
variable {P : Program} {w : World} {K : PySem.W.Frag} {mg : Str → Option Value} {base : Heap}
theorem ok_parse {f C CS : Addr} {fd : FuncData} (F : Fun K "parse" "parse" s_parse f fd) (T : Bare mg) (hisi : mg "isinstance" = none) (TP : PTxt K C) (cc : C ≠ CS) (MK : Maker P w K mg base C 1 "Parser" ["self", "text"] (spPInit C)) (MR : Meter P w K mg base C 15 "read_program" ["self"] (spProg C CS)) :
    FnOk P w K mg base CX0 16 f fd ["text"] (spParse C CS) := by
  refine F.ok sc_parse (fun vs H Q E h => ?_) (fun cdv A outer st H vs Q E hr h => ?_)
  · obtain ⟨sy, ms, ps, ma, nm, rows, z, rfl, _⟩ := h
    rfl
  obtain ⟨sy, ms, ps, ma, nm, rows, z, rfl, TO, q⟩ := h
  refine ⟨_, (pss_cons (ps_if (pt_not (pt_val (pe_callB call_isi (by rfl) hisi (by decide +kernel) (pa_cons (pv 0) (pa_cons (pe_bltn (v := .ty "str") (u := .type "str") (by rfl) T.str (by decide +kernel) rfl) pa_nil)))))
(pss_one ps_never)
pss_nil)
(pss_cons (ps_set (i := 1) sc_parse.nd rfl (Or.inl rfl) (pe_make MK.mkr MK.ok (hr.mono (by decide)) rfl MK.mg MK.b .nil pass0 (pa_cons (pv 0) pa_nil)))
(pss_cons (ps_expr (pe_meth0 (pv 1) TP.cl MR.m MR.ok hr MR.b .nil pass0))
(pss_one (ps_ret (pv 1)))))), ?_⟩
  refine ⟨_, rfl, .str z, .ty "str", .type "str", .type "str", true, rfl, .ty "str", .base (.str z), kit_ty (by decide +kernel), ?_⟩
  refine ⟨true, rfl, iteF ?_⟩
  refine ⟨_, rfl, fun p dx hp hdx hne => ?_⟩
  have npd : p ≠ dx := fun z => hne z.symm
  have k0 : Same H (upd (upd H dx (.own p)) p (.ins C dx [])) := (same_new hdx _).trans (same_new (by rw [upd_ne npd]; exact hp) _)
  refine ⟨p, dx, z, rfl, upd_same, TO.len, fun l m s t H2 hl hm hs ht hms hmt hst p2 l2 m2 s2 t2 b2 => ⟨rfl, ?_⟩⟩
  have hl0 : H l = none := k0.free hl
  have hm0 : H m = none := k0.free hm
  have hs0 : H s = none := k0.free hs
  have ht0 : H t = none := k0.free ht
  have kI : ∀ b o, H b = some o → H2 b = some o := fun b o h => b2 b o (k0 b o h) (ne_of_none h hp)
  refine ⟨_, rfl, p, dx, _, rfl, p2, (by kernel_rfl), ?_⟩
  rw [TO.lines] at l2
  have S2 : SAt C CS H2 p l m s t 0 "" 0 [] [] rows [] 0 := ⟨⟨⟨dx, p2⟩, m2, s2, List.nodup_nil, List.nodup_nil⟩, ⟨l2, by rw [List.length_map]; exact TO.few, fun x hx => by
      obtain ⟨r, hr, rfl⟩ := List.mem_map.mp hx
      exact TO.short r hr⟩, t2, rfl, fun kv h => (by cases h), fun kv h => (by cases h), hmt, hst, cc⟩
  refine ⟨p, l, m, s, t, "", sy, 0, ms, ps, ma, nm, rows, rfl, S2, hms, TO.ok, fun H3 k fi ss kvs cnt k3 S3 hss hcnt => ?_⟩
  refine ⟨_, rfl, q p l m s t H3 k fi ss kvs cnt (fun b o h n => ?_) S3 hss hcnt⟩
  exact k3 b o (kI b o h) (ne_of_none h hp) (ne_of_none h hm0) (ne_of_none h hs0) (ne_of_none h ht0) n
end
end Fh
set_option Elab.async false
set_option linter.all false
set_option maxRecDepth 100000
set_option maxHeartbeats 4000000
namespace Fh
open PySem L2 TL
/-! ### letters_of -/
theorem same_upd {H H' : Hp} {p : Addr} {o : HO} (e : Same H H') (h : H p = none) : Same H (upd H' p o) := fun b u q => by rw [upd_ne (ne_of_none q h)]; exact e _ _ q
theorem sqL_same {K : PySem.W.Frag} {H H' : Hp} {a : Addr} {xs : List V} (e : Same H H') (h : SqL K H a xs) : SqL K H' a xs := by
  rcases h with (h | ⟨o, h⟩) | h
  · exact .inl (.inl (e _ _ h))
  · exact .inl (.inr ⟨o, e _ _ h⟩)
  · exact .inr h
/-- a comprehension over a list that gathers texts -/
theorem lc_sel {K : PySem.W.Frag} {a D : Addr} {xs : List V} {σ : L2.St} {H1 : Hp} {Qd : Hp → Prop} {s : Nat} {vs : List Nat} {tt : TT} {te : TE} (hS : SqL K H1 a xs) (hD : H1 D = none) (hn : xs.length ≤ 10000) (hw : ∀ v, wipe ((wipe σ vs).set s (some v)) vs = wipe σ vs)
    (he : ∀ x ∈ xs, ∀ H : Hp, Same H1 H → ∃ b : Bool, (∀ R : Bool → Hp → Prop, R b H → tt ((wipe σ vs).set s (some x)) H R) ∧ (b = true → ∃ z : Str, ∀ Q : VK, Q (.str z) H → te ((wipe σ vs).set s (some x)) H Q))
    (hd : ∀ zs : List Str, zs.length ≤ xs.length → Qd (upd H1 D (.lst (zs.map V.str)))) :
    ∃ W : Nat → Nat → Hp → Prop, (∃ m, W 0 m (upd H1 D (.lst []))) ∧ ∀ i m H, W i m H →
      ((Itl K a).stop i H ∧ Qd H) ∨ ((Itl K a).go i H ∧ ∃ Nx : Hp → Prop, (∀ H', Nx H' → ∃ m', m' < m ∧ W (i + 1) m' H') ∧ ∀ x H', (Itl K a).yld i H x H' → gName s x (wipe σ vs) H' fun σ2 H2 => wipe σ2 vs = wipe σ vs ∧ tt σ2 H2 fun b H3 =>
        if b = true then te σ2 H3 fun y H4 => ∃ acc, H4 D = some (.lst acc) ∧ acc.length < sizeLine ∧ Nx (upd H4 D (.lst (acc ++ [y]))) else Nx H3) := by
  refine lc_it (walk_list (xs := xs)) (fun i H => ∃ zs : List Str, zs.length ≤ i ∧ H = upd H1 D (.lst (zs.map V.str))) ⟨[], Nat.le_refl _, rfl⟩ (fun i H hi p => ?_) (fun i x H H' hi p y => ?_) (fun H p => ?_)
  · obtain ⟨zs, h1, rfl⟩ := p
    exact sqL_same (same_new hD _) hS
  · obtain ⟨zs, h1, rfl⟩ := p
    obtain ⟨rfl, hx⟩ := y
    refine ⟨hw _, ?_⟩
    obtain ⟨b, h2, h3⟩ := he x (List.mem_of_getElem? hx) _ (same_new hD _)
    refine h2 _ ?_
    cases b with
    | false => exact iteF ⟨zs, by omega, rfl⟩
    | true =>
      obtain ⟨z, h4⟩ := h3 rfl
      refine iteT (h4 _ ⟨_, upd_same, ?_, zs ++ [z], ?_, ?_⟩)
      · rw [List.length_map, sizeLine_eq]
        omega
      · rw [List.length_append]
        exact Nat.succ_le_succ h1
      · rw [upd_upd, List.map_append] <;> rfl
  · obtain ⟨zs, h1, rfl⟩ := p
    exact hd zs h1
def gf (z sy : Str) (c q t : Addr) (fi : Int) : List (Str × V) :=
  [("text", .str z), ("symbols", .str sy), ("cells", .ref c), ("parts", .ref q), ("statements", .ref t), ("first", .int fi)]
theorem gf_statements {z sy : Str} {c q t : Addr} {fi : Int} : (gf z sy c q t fi).lookup ("statements" : Str) = some (V.ref t) := by kernel_rfl
theorem gf_symbols {z sy : Str} {c q t : Addr} {fi : Int} : (gf z sy c q t fi).lookup ("symbols" : Str) = some (V.str sy) := by kernel_rfl
structure GTxt (K : PySem.W.Frag) (C : Addr) : Prop where
  cl : Cls K C
  nText : NoAttr K C "text"
  nSymbols : NoAttr K C "symbols"
  nCells : NoAttr K C "cells"
  nParts : NoAttr K C "parts"
  nStatements : NoAttr K C "statements"
  nFirst : NoAttr K C "first"
  nLetters : NoAttr K C "letters"
abbrev s_letters_of : Stmt := top 35
abbrev sc_letters_ofN : List Str := ["program", "statements", "letters", "statement"]
theorem sc_letters_of : FnScope sc_letters_ofN ["program"] (defScope s_letters_of) := ⟨rfl, rfl, rfl, by decide +kernel, rfl, by decide +kernel, by decide +kernel⟩
def spLetters (CP CS : Addr) : Sp := fun vs H Q _ => ∃ (a dx t c q : Addr) (z sy : Str) (fi : Int) (kvs : List (Key × V)), vs = [.ref a] ∧ H a = some (.ins CP dx (gf z sy c q t fi)) ∧ H t = some (.dK kvs) ∧ kvs.length ≤ 20 ∧ sy.length ≤ 10 ∧ (∀ kv ∈ kvs, ∃ b, kv.2 = V.ref b ∧ WOk CS H b) ∧
  ∀ (r : Addr) (H' : Hp) (zs : List Str), Same H H' → H r = none → H' r = some (.tup (zs.map V.str)) → Q (.ref r) H'
section
variable {P : Program} {w : World} {K : PySem.W.Frag} {mg : Str → Option Value} {base : Heap}
theorem ok_letters_of {f CP CS : Addr} {fd : FuncData} (F : Fun K "letters_of" "letters_of" s_letters_of f fd) (T : Bare mg) (hset : mg "set" = none) (hsorted : mg "sorted" = none) (TG : GTxt K CP) (TS : STxt K CS) : FnOk P w K mg base CX0 1 f fd ["program"] (spLetters CP CS) := by
  refine F.ok sc_letters_of (fun vs H Q E h => ?_) (fun cdv A outer st H vs Q E hr h => ?_)
  · obtain ⟨a, dx, t, c, q, z, sy, fi, kvs, rfl, _⟩ := h
    rfl
  obtain ⟨a, dx, t, c, q, z, sy, fi, kvs, rfl, ha, ht, hk, hsy, hw, k⟩ := h
  refine ⟨_, (pss_cons (ps_set (i := 1) sc_letters_of.nd rfl (Or.inl rfl) (pe_listVals rfl (pe_fld (pv 0) rfl) (by rfl) T.list (by decide +kernel)))
(pss_cons (ps_setLc (i := 2) (own := [("statement", 3)]) (g := gName 3) rfl sc_letters_of.nd rfl rfl (sw_true rfl rfl rfl (by decide +kernel)) (pi_list (pv 1)) (blkOk_by (N := sc_letters_ofN) (sc := defScope s_letters_of) (by decide +kernel)) (fun _ _ _ _ _ => pg_name (i := 3) sc_letters_of.nd rfl (Or.inl rfl)) (fun _ _ _ _ _ => (pts_one (pt_cmpR op_eq (show PE _ _ (tFld K (tVar 3) "word") from pe_fld (pv 3) rfl) pe_str (nomark _)))) (fun _ _ _ _ _ => (show PE _ _ (tFld K (tVar 3) "given") from pe_fld (pv 3) rfl)))
(pss_cons (ps_if (pt_cmpR op_in_seq pe_str (pe_lc (own := [("statement", 3)]) (g := gName 3) rfl sc_letters_of.nd (pi_list (pv 1)) (blkOk_by (N := sc_letters_ofN) (sc := defScope s_letters_of) (by decide +kernel)) (fun _ _ _ _ _ => pg_name (i := 3) sc_letters_of.nd rfl (Or.inl rfl)) (fun _ _ _ _ _ => pts_nil) (fun _ _ _ _ _ => (show PE _ _ (tFld K (tVar 3) "word") from pe_fld (pv 3) rfl))) (by rfl))
(pss_one (ps_expr (pe_bm PySem.F.plainAttrs_list PySem.F.slot_list_extend PySem.F.type_list_extend mt_extend (pv 2) (pa_cons (pe_callTy (call_list_text rfl) (by rfl) T.list (by decide +kernel) (pa_cons (pe_fld (pv 0) rfl) pa_nil)) pa_nil))))
pss_nil)
(pss_one (ps_ret (pe_callTy call_tuple_of (by rfl) T.tuple (by decide +kernel) (pa_cons (pe_callB (cr_sortedG sorts_str rfl) (by rfl) hsorted (by decide +kernel) (pa_cons (pe_callTy (cr_setOf (kdStr _ _) rfl) (by rfl) hset (by decide +kernel) (pa_cons (pv 2) pa_nil)) pa_nil)) pa_nil))))))), ?_⟩
  refine ⟨_, rfl, a, CP, dx, _, _, rfl, ha, TG.cl, TG.nStatements, gf_statements, t, kvs, rfl, ht, fun l hl => ?_⟩
  obtain ⟨H1, e1⟩ : ∃ H1 : Hp, H1 = upd H l (.lst (kvs.map (·.2))) := ⟨_, rfl⟩
  have s1 : Same H H1 := by rw [e1]; exact same_new hl _
  have l1 : H1 l = some (.lst (kvs.map (·.2))) := by rw [e1]; exact upd_same
  have hlen : (kvs.map (·.2)).length ≤ 20 := by rw [List.length_map]; exact hk
  have st1 : ∀ x ∈ kvs.map (·.2), ∀ H2 : Hp, Same H1 H2 → ∃ b, x = V.ref b ∧ WOk CS H2 b := fun x hx H2 s2 => by
    obtain ⟨kv, hkv, rfl⟩ := List.mem_map.mp hx
    obtain ⟨b, e, dxs, ln, wd, g, li, lo, fo, h1, h2⟩ := hw kv hkv
    exact ⟨b, e, dxs, ln, wd, g, li, lo, fo, s2 _ _ (s1 _ _ h1), h2⟩
  refine ⟨_, rfl, l, rfl, ⟨_, .inl (.inl upd_same)⟩, ?_⟩
  rw [← e1]
  refine fun D hD => lc_sel (xs := kvs.map (·.2)) (.inl (.inl l1)) hD (by omega) (fun _ => rfl) (fun x hx H2 s2 => ?_) (fun zs hz => ?_)
  · obtain ⟨b, rfl, dxs, ln, wd, g, li, lo, fo, h1, h2⟩ := st1 x hx H2 s2
    refine ⟨decide (V.str wd = V.str "write"), fun R hR => ⟨_, rfl, b, CS, dxs, _, _, rfl, h1, TS.cl, TS.nWord, sf_word, rfl, _, rfl, hR⟩, fun e => ?_⟩
    obtain ⟨z, rfl⟩ := h2 (V.str.inj (of_decide_eq_true e))
    exact ⟨z, fun Q k => ⟨_, rfl, b, CS, dxs, _, _, rfl, h1, TS.cl, TS.nGiven, sf_given, k⟩⟩
  have hD0 : H D = none := s1.free hD
  obtain ⟨H2, e2⟩ : ∃ H2 : Hp, H2 = upd H1 D (.lst (zs.map V.str)) := ⟨_, rfl⟩
  have s2 : Same H1 H2 := by rw [e2]; exact same_new hD _
  have d2 : H2 D = some (.lst (zs.map V.str)) := by rw [e2]; exact upd_same
  refine ⟨_, rfl, l, rfl, ⟨_, .inl (.inl (same_new hD _ _ _ l1))⟩, ?_⟩
  rw [← e2]
  refine fun D2 hD2 => lc_sel (xs := kvs.map (·.2)) (.inl (.inl (s2 _ _ l1))) hD2 (by omega) (fun _ => rfl) (fun x hx H3 s3 => ?_) (fun ws hws => ?_)
  · obtain ⟨b, rfl, dxs, ln, wd, g, li, lo, fo, h1, h2⟩ := st1 x hx H3 (s2.trans s3)
    exact ⟨true, fun R hR => hR, fun _ => ⟨wd, fun Q k => ⟨_, rfl, b, CS, dxs, _, _, rfl, h1, TS.cl, TS.nWord, sf_word, k⟩⟩⟩
  have s3 : Same H2 (upd H2 D2 (.lst (ws.map V.str))) := same_new hD2 _
  have d3 := s3 _ _ d2
  have s03 := (s1.trans s2).trans s3
  refine ⟨D2, _, rfl, .inl (.inl (.inl upd_same)), rfl, flats _, _, rfl, ?_⟩
  generalize upd H2 D2 (.lst (ws.map V.str)) = H3 at s3 d3 s03 ⊢
  dsimp only
  rw [inV_str]
  refine ite2 (fun _ => ?_) (fun _ => ?_)
  · refine ⟨_, rfl, .inl ⟨rfl, _, .inl (.inl d3)⟩, _, rfl, a, CP, dx, _, _, rfl, s03 _ _ ha, TG.cl, TG.nSymbols, gf_symbols, sy, rfl, by omega, fun L hL => ?_⟩
    have nDL : D ≠ L := ne_of_none d3 hL
    have s04 := s03.trans (same_new hL (.lst ((tl sy).map fun c => V.str ⟨#[c]⟩)))
    have hT : (tl sy).length ≤ 10 := by rw [← len_tl]; exact hsy
    refine ⟨D, L, _, _, rfl, rfl, by rw [upd_ne nDL]; exact d3, upd_same, ?_, ?_⟩
    · rw [List.length_map, List.length_map]
      exact small (by omega)
    have eL : (zs.map V.str ++ (tl sy).map fun c => V.str ⟨#[c]⟩) = (zs ++ (tl sy).map fun c => (⟨#[c]⟩ : Str)).map V.str := by
      rw [List.map_append, List.map_map]
      rfl
    rw [eL]
    have s05 : Same H (upd (upd H3 L (.lst ((tl sy).map fun c => V.str ⟨#[c]⟩))) D (.lst ((zs ++ (tl sy).map fun c => (⟨#[c]⟩ : Str)).map V.str))) := same_upd s04 hD0
    have hN : (zs ++ (tl sy).map fun c => (⟨#[c]⟩ : Str)).length ≤ 30 := by
      rw [List.length_append, List.length_map]
      omega
    refine ⟨_, rfl, D, zs ++ (tl sy).map fun c => (⟨#[c]⟩ : Str), rfl, .inl (.inl upd_same), by omega, fun p kt g1 g2 g3 hp => ?_⟩
    refine ⟨p, kt, rfl, upd_same, by omega, fun ys p2 g4 g5 hp2 => ?_⟩
    refine ⟨p2, _, rfl, .inl ⟨.inl (.inl upd_same), fun r hr => ?_⟩⟩
    have sA := s05.trans (same_new hp (SetO2 (kdStr P w) p kt))
    have sB := sA.trans (same_new hp2 (.lst (ys.map V.str)))
    exact k r _ ys (sB.trans (same_new hr _)) (sB.free hr) upd_same
  · refine ⟨_, rfl, D, zs, rfl, .inl (.inl d3), by omega, fun p kt g1 g2 g3 hp => ?_⟩
    refine ⟨p, kt, rfl, upd_same, by omega, fun ys p2 g4 g5 hp2 => ?_⟩
    refine ⟨p2, _, rfl, .inl ⟨.inl (.inl upd_same), fun r hr => ?_⟩⟩
    have sA := s03.trans (same_new hp (SetO2 (kdStr P w) p kt))
    have sB := sA.trans (same_new hp2 (.lst (ys.map V.str)))
    exact k r _ ys (sB.trans (same_new hr _)) (sB.free hr) upd_same
end
end Fh
set_option Elab.async false
set_option linter.all false
set_option maxRecDepth 100000
set_option maxHeartbeats 4000000
namespace Fh
open PySem L2 TL
/-! ### Program.__init__ -/
abbrev s_Program_init : Stmt := inClass (top 34) 0
abbrev sc_Program_initN : List Str := ["self", "text", "parser"]
theorem sc_Program_init : FnScope sc_Program_initN ["self", "text"] (defScope s_Program_init) := ⟨rfl, rfl, rfl, by decide +kernel, rfl, by decide +kernel, by decide +kernel⟩
/-- a program's fields -/
def gl (z sy : Str) (c q t : Addr) (fi : Int) (r : Addr) : List (Str × V) :=
  [("text", .str z), ("symbols", .str sy), ("cells", .ref c), ("parts", .ref q), ("statements", .ref t), ("first", .int fi), ("letters", .ref r)]
/-- pairs at addresses -/
def Pairs (H : Hp) (as : List Addr) (kvs : List (Key × V)) : Prop := Paired (fun (t : Addr) (y : Key × V) => H t = some (.tup [kV y.1, y.2])) as kvs
/-- all but what stands at a, and statements, is as it was -/
def KeepA (CS a : Addr) (H H' : Hp) : Prop := ∀ b o, H b = some o → b ≠ a → (∀ dx fs, o ≠ .ins CS dx fs) → H' b = some o
structure ProgAt (CP : Addr) (H : Hp) (a : Addr) (z sy : Str) (ms : NV) (pn : List Str) : Prop where
  it : ∃ (dx c q t r : Addr) (fi : Int) (as : List Addr), H a = some (.ins CP dx (gl z sy c q t fi r)) ∧ H c = some (.tup (as.map V.ref)) ∧ Pairs H as (kvS ms) ∧ H q = some (.tup (pn.map V.str))
def spGInit (CP CS : Addr) : Sp := fun vs H Q _ => ∃ (a dx : Addr) (sy : Str) (ms : NV) (ps : List PartR) (ma : List Row) (nm : Nat) (rows : List Row) (z : Str), vs = [.ref a, .str z] ∧ H a = some (.ins CP dx []) ∧ TextOk sy ms ps ma nm rows z ∧
  ∀ H' : Hp, KeepA CS a H H' → ProgAt CP H' a z sy ms (ps.map (·.1)) → Q .non H'
theorem pairs_but {a : Addr} {H H' : Hp} {as : List Addr} {kvs : List (Key × V)} (pr : Pairs H as kvs) (b : But a H H') (ha : ∃ C dx fs, H a = some (.ins C dx fs)) : Pairs H' as kvs := by
  obtain ⟨C, dx, fs, ha⟩ := ha
  unfold Pairs at pr ⊢
  induction pr with
  | nil => exact .nil
  | cons h _ ih => exact .cons (b _ _ h (ne_of h ha (by intro z; cases z))) ih
theorem pairs_same {H H' : Hp} {as : List Addr} {kvs : List (Key × V)} (pr : Pairs H as kvs) (b : Same H H') : Pairs H' as kvs := by
  unfold Pairs at pr ⊢
  induction pr with
  | nil => exact .nil
  | cons h _ ih => exact .cons (b _ _ h) ih
section
variable {P : Program} {w : World} {K : PySem.W.Frag} {mg : Str → Option Value} {base : Heap}
theorem ok_program_init {f C CS CP : Addr} {fd : FuncData} (F : Fun K "__init__" "Program.__init__" s_Program_init f fd) (T : Bare mg) (TP : PTxt K C) (TG : GTxt K CP) (c1 : CP ≠ CS) (c2 : CP ≠ C)
    (CA : Callee P w K mg base 16 "parse" ["text"] (spParse C CS)) (CL : Callee P w K mg base 1 "letters_of" ["program"] (spLetters CP CS)) : FnOk P w K mg base CX0 17 f fd ["self", "text"] (spGInit CP CS) := by
  refine F.ok sc_Program_init (fun vs H Q E h => ?_) (fun cdv A outer st H vs Q E hr h => ?_)
  · obtain ⟨a, dx, sy, ms, ps, ma, nm, rows, z, rfl, _⟩ := h
    rfl
  obtain ⟨a, dx, sy, ms, ps, ma, nm, rows, z, rfl, ha, TO, q⟩ := h
  refine ⟨_, (pss_cons (ps_set (i := 2) sc_Program_init.nd rfl (Or.inl rfl) (pe_call CA.ok (hr.mono (by decide)) rfl CA.mg CA.kp CA.b .nil pass0 (pa_cons (pv 1) pa_nil)))
(pss_cons (ps_fld (pv 0) (pv 1) rfl)
(pss_cons (ps_fld (pv 0) (pe_fld (pv 2) rfl) rfl)
(pss_cons (ps_fld (pv 0) (pe_tupItems rfl (pe_fld (pv 2) rfl) (by rfl) T.tuple (by decide +kernel)) rfl)
(pss_cons (ps_fld (pv 0) (pe_callTy (call_tuple_d rfl) (by rfl) T.tuple (by decide +kernel) (pa_cons (pe_fld (pv 2) rfl) pa_nil)) rfl)
(pss_cons (ps_fld (pv 0) (pe_fld (pv 2) rfl) rfl)
(pss_cons (ps_fld (pv 0) (pe_fld (pv 2) rfl) rfl)
(pss_one (ps_fld (pv 0) (pe_call CL.ok (hr.mono (by decide)) rfl CL.mg CL.kp CL.b .nil pass0 (pa_cons (pv 0) pa_nil)) rfl))))))))), ?_⟩
  refine ⟨_, rfl, sy, ms, ps, ma, nm, rows, z, rfl, TO, fun p l m s t H1 k fi ss kvs cnt kI S1 hss hcnt => ?_⟩
  have a1 : H1 a = some (.ins CP dx []) := kI _ _ ha fun dx fs e => by injection e with e1; exact c1 e1
  obtain ⟨⟨dp, hp⟩, mo, sto, _, _⟩ := id S1.pin
  have npa : p ≠ a := ne_of hp a1 (by intro e; injection e with e1; exact c2 e1.symm)
  have nin : ∀ {b o}, H1 b = some o → (∀ dx fs, o ≠ HO.ins CP dx fs) → b ≠ a := fun {b o} h n => ne_of h a1 (n _ _)
  have nma : m ≠ a := nin mo (by intro _ _ e; cases e)
  have nsa : s ≠ a := nin sto (by intro _ _ e; cases e)
  have nta : t ≠ a := nin S1.dt (by intro _ _ e; cases e)
  refine fldVs (tv := tVar 1) (v := .str z) rfl TG.cl TG.nText (by show 0 < 1000; decide) a1 (fun Q k => ⟨_, rfl, k⟩) fun H2 a2 b2 => ?_
  refine fldVs (tv := tFld K (tVar 2) "symbols") (v := .str sy) rfl TG.cl TG.nSymbols (by show 1 < 1000; decide) a2 (fun Q k => ⟨_, rfl, p, C, dp, _, _, rfl, b2 _ _ hp npa, TP.cl, TP.nSymbols, pf_symbols, k⟩) fun H3 a3 b3 => ?_
  have b13 := b2.trans b3
  refine ⟨_, rfl, p, C, dp, _, _, rfl, b13 _ _ hp npa, TP.cl, TP.nMosts, pf_mosts, m, kvS ms, rfl, b13 _ _ mo nma, fun c H4 as s4 hc c4 pr4 => ?_⟩
  have a4 := s4 _ _ a3
  have nca : c ≠ a := ne_of c4 a4 (by intro e; cases e)
  refine ⟨_, rfl, a, CP, dx, _, rfl, a4, TG.cl, TG.nCells, (by show 2 < 1000; decide), ?_⟩
  obtain ⟨H5, e5⟩ : ∃ H5 : Hp, H5 = upd H4 a (.ins CP dx (putF "cells" (.ref c) (putF "symbols" (.str sy) (putF "text" (.str z) [])))) := ⟨_, rfl⟩
  have b5 : But a H4 H5 := by rw [e5]; exact But.upd
  have a5 : H5 a = some (.ins CP dx (putF "cells" (.ref c) (putF "symbols" (.str sy) (putF "text" (.str z) [])))) := by rw [e5]; exact upd_same
  have b15 := (b13.trans (But.of_same s4)).trans b5
  have c5 := b5 _ _ c4 nca
  have pr5 : Pairs H5 as (kvS ms) := pairs_but pr4 b5 ⟨_, _, _, a4⟩
  rw [← e5]
  refine ⟨_, rfl, p, C, dp, _, _, rfl, b15 _ _ hp npa, TP.cl, TP.nStarts, pf_starts, s, kvS ss, rfl, b15 _ _ sto nsa, fun q1 hq => ?_⟩
  have nqa : a ≠ q1 := ne_of_none a5 hq
  refine ⟨_, rfl, a, CP, dx, _, rfl, by rw [upd_ne nqa]; exact a5, TG.cl, TG.nParts, (by show 3 < 1000; decide), ?_⟩
  obtain ⟨H6, e6⟩ : ∃ H6 : Hp, H6 = upd (upd H5 q1 (.tup ((kvS ss).map fun kv => kV kv.1))) a (.ins CP dx (putF "parts" (.ref q1) (putF "cells" (.ref c) (putF "symbols" (.str sy) (putF "text" (.str z) []))))) := ⟨_, rfl⟩
  have b6 : But a H5 H6 := by rw [e6]; exact (But.of_same (same_new hq _)).trans But.upd
  have a6 : H6 a = some (.ins CP dx (putF "parts" (.ref q1) (putF "cells" (.ref c) (putF "symbols" (.str sy) (putF "text" (.str z) []))))) := by rw [e6]; exact upd_same
  have q6 : H6 q1 = some (.tup ((kvS ss).map fun kv => kV kv.1)) := by rw [e6, upd_ne nqa.symm]; exact upd_same
  rw [← e6]
  have b16 := b15.trans b6
  refine fldVs (tv := tFld K (tVar 2) "statements") (v := .ref t) rfl TG.cl TG.nStatements (by show 4 < 1000; decide) a6 (fun Q k => ⟨_, rfl, p, C, dp, _, _, rfl, b16 _ _ hp npa, TP.cl, TP.nStatements, pf_statements, k⟩) fun H7 a7 b7 => ?_
  have b17 := b16.trans b7
  refine fldVs (tv := tFld K (tVar 2) "first") (v := .int fi) rfl TG.cl TG.nFirst (by show 5 < 1000; decide) a7 (fun Q k => ⟨_, rfl, p, C, dp, _, _, rfl, b17 _ _ hp npa, TP.cl, TP.nFirst, pf_first, k⟩) fun H8 a8 b8 => ?_
  have b18 := b17.trans b8
  have b58 := (b6.trans b7).trans b8
  have a8' : H8 a = some (.ins CP dx (gf z sy c q1 t fi)) := a8.trans (congrArg (fun l => some (HO.ins CP dx l)) (by kernel_rfl))
  have hsy : sy.length ≤ 10 := by have := TO.ok.s4; omega
  refine ⟨_, rfl, a, dx, t, c, q1, z, sy, fi, kvs, rfl, a8', b18 _ _ S1.dt nta, by rw [S1.few]; exact hcnt, hsy, fun kv hkv => ?_, fun r H9 zs s9 hr r9 => ?_⟩
  · obtain ⟨b, h1, dxs, ln, wd, g, li, lo, fo, h2, h3⟩ := S1.ok kv hkv
    exact ⟨b, h1, dxs, ln, wd, g, li, lo, fo, b18 _ _ h2 (nin h2 (by intro _ _ e; injection e with e1; exact c1 e1.symm)), h3⟩
  have a9 := s9 _ _ a8'
  refine ⟨_, rfl, a, CP, dx, _, rfl, a9, TG.cl, TG.nLetters, (by show 6 < 1000; decide), ?_⟩
  have b89 : But a H8 (upd H9 a (.ins CP dx (putF "letters" (.ref r) (gf z sy c q1 t fi)))) := (But.of_same s9).trans But.upd
  have b59 := b58.trans b89
  refine q _ (fun b o h n ni => (b18.trans b89) _ _ (kI _ _ h ni) n) ⟨dx, c, q1, t, r, fi, as, upd_same.trans (congrArg (fun l => some (HO.ins CP dx l)) (by kernel_rfl)), b59 _ _ c5 nca, pairs_but pr5 b59 ⟨_, _, _, a5⟩, ?_⟩
  have e : (ps.map (·.1)).map V.str = (kvS ss).map fun kv => kV kv.1 := by
    rw [← hss]
    unfold kvS
    rw [List.map_map, List.map_map]
    rfl
  rw [e]
  exact ((b7.trans b8).trans b89) _ _ q6 nqa.symm
end
end Fh
set_option Elab.async false
set_option linter.all false
set_option maxRecDepth 100000
set_option maxHeartbeats 2000000
namespace Fh
open PySem PySem.Spec PyProof.Rows L2
/-! ### data of any kind: what a value is, all through -/
mutual
inductive Dv (K : PySem.W.Frag) (H : Hp) : V → PyData → Prop
  | non : Dv K H .non .none
  | bl (b : Bool) : Dv K H (.bl b) (.bool b)
  | int (i : Int) : Dv K H (.int i) (.int i)
  | str (x : Str) (h : x.length ≤ 1000000) : Dv K H (.str x) (.str x)
  | lst {a : Addr} {xs : List V} {ds : List PyData} (h : H a = some (.lst xs)) (n : a ≠ sysModules) (g : DvAll K H xs ds) : Dv K H (.ref a) (.list ds)
  | tup {a : Addr} {xs : List V} {ds : List PyData} (h : SqT K H a xs) (g : DvAll K H xs ds) : Dv K H (.ref a) (.tuple ds)
  | dct {a : Addr} (h : H a = some (.dK [])) : Dv K H (.ref a) (.dict [])
  | dc1 {a : Addr} (x : Str) {v : V} {d : PyData} (h : H a = some (.dK [(.inr x, v)])) (g : Dv K H v d) : Dv K H (.ref a) (.dict [(.str x, d)])
inductive DvAll (K : PySem.W.Frag) (H : Hp) : List V → List PyData → Prop
  | nil : DvAll K H [] []
  | cons {v : V} {vs : List V} {d : PyData} {ds : List PyData} (h : Dv K H v d) (g : DvAll K H vs ds) : DvAll K H (v :: vs) (d :: ds)
end
theorem same_sqL {K : PySem.W.Frag} {H H' : Hp} {a : Addr} {xs : List V} (s : Same H H') (h : SqL K H a xs) : SqL K H' a xs := by
  rcases h with (h | ⟨o, h⟩) | h
  · exact .inl (.inl (s _ _ h))
  · exact .inl (.inr ⟨o, s _ _ h⟩)
  · exact .inr h
theorem same_sqT {K : PySem.W.Frag} {H H' : Hp} {a : Addr} {xs : List V} (s : Same H H') (h : SqT K H a xs) : SqT K H' a xs := by
  rcases h with (h | ⟨o, h⟩) | h
  · exact .inl (.inl (s _ _ h))
  · exact .inl (.inr ⟨o, s _ _ h⟩)
  · exact .inr h
mutual
theorem Dv.same {K : PySem.W.Frag} {H H' : Hp} (s : Same H H') : ∀ {d : PyData} {v : V}, Dv K H v d → Dv K H' v d
  | _, _, .non => .non
  | _, _, .bl b => .bl b
  | _, _, .int i => .int i
  | _, _, .str x h => .str x h
  | _, _, .lst h n g => .lst (s _ _ h) n (DvAll.same s g)
  | _, _, .tup h g => .tup (same_sqT s h) (DvAll.same s g)
  | _, _, .dct h => .dct (s _ _ h)
  | _, _, .dc1 x h g => .dc1 x (s _ _ h) (Dv.same s g)
theorem DvAll.same {K : PySem.W.Frag} {H H' : Hp} (s : Same H H') : ∀ {ds : List PyData} {vs : List V}, DvAll K H vs ds → DvAll K H' vs ds
  | _, _, .nil => .nil
  | _, _, .cons h g => .cons (Dv.same s h) (DvAll.same s g)
end
theorem DvAll.len {K : PySem.W.Frag} {H : Hp} : ∀ {vs : List V} {ds : List PyData}, DvAll K H vs ds → vs.length = ds.length
  | _, _, .nil => rfl
  | _, _, .cons _ g => congrArg (· + 1) (DvAll.len g)
theorem DvAll.get {K : PySem.W.Frag} {H : Hp} : ∀ {vs : List V} {ds : List PyData}, DvAll K H vs ds → ∀ {i : Nat} {v : V}, vs[i]? = some v → ∃ d, ds[i]? = some d ∧ Dv K H v d
  | _, _, .nil, i, v, h => by cases i <;> cases h
  | _, _, .cons h g, 0, v, e => by
    cases e
    exact ⟨_, rfl, h⟩
  | _, _, .cons h g, i + 1, v, e => DvAll.get g (i := i) e
theorem DvAll.append {K : PySem.W.Frag} {H : Hp} : ∀ {vs ws : List V} {ds es : List PyData}, DvAll K H vs ds → DvAll K H ws es → DvAll K H (vs ++ ws) (ds ++ es)
  | _, _, _, _, .nil, g => g
  | _, _, _, _, .cons h t, g => .cons h (DvAll.append t g)
theorem DvAll.take {K : PySem.W.Frag} {H : Hp} : ∀ {vs : List V} {ds : List PyData}, DvAll K H vs ds → ∀ n, DvAll K H (vs.take n) (ds.take n)
  | _, _, _, 0 => .nil
  | _, _, .nil, n + 1 => .nil
  | _, _, .cons h t, n + 1 => .cons h (DvAll.take t n)
theorem DvAll.drop {K : PySem.W.Frag} {H : Hp} : ∀ {vs : List V} {ds : List PyData}, DvAll K H vs ds → ∀ n, DvAll K H (vs.drop n) (ds.drop n)
  | _, _, g, 0 => g
  | _, _, .nil, n + 1 => .nil
  | _, _, .cons h t, n + 1 => DvAll.drop t n
/-- a value's type by its name -/
def tyN : PyData → String
  | .none => "NoneType"
  | .bool _ => "bool"
  | .int _ => "int"
  | .str _ => "str"
  | .list _ => "list"
  | .tuple _ => "tuple"
  | .dict _ => "dict"
theorem Dv.ty {K : PySem.W.Frag} {H : Hp} {v : V} {d : PyData} (h : Dv K H v d) : TyX K H v (.type (tyN d)) := by
  cases h with
  | non => exact .base .non
  | bl b => exact .base (.bl b)
  | int i => exact .base (.int i)
  | str x h => exact .base (.str x)
  | lst h n g =>
    exact .base (.lst h)
  | tup h g =>
    rcases h with (h | ⟨o, h⟩) | ⟨o, _, _, e, c, _⟩
    · exact .base (.tup h)
    · exact .fTuple h
    · exact .kTuple e c
  | dct h => exact .base (.dK h)
  | dc1 x h g => exact .base (.dK h)
def isT (T : String) (d : PyData) : Bool := match kitB (tyN d) T with
  | some b => b
  | none => false
theorem kit_isT {K : PySem.W.Frag} {T : String} (hT : T = "tuple" ∨ T = "str" ∨ T = "int" ∨ T = "bool") (d : PyData) : PySem.W.kitOne K (.type (tyN d)) (.type T) = some (isT T d) := by
  refine kit_ty ?_
  unfold isT
  have : (kitB (tyN d) T).isSome = true := by
    rcases hT with rfl | rfl | rfl | rfl <;> cases d <;> (simp only [tyN]; decide +kernel)
  obtain ⟨b, hb⟩ := Option.isSome_iff_exists.mp this
  rw [hb]
theorem isT_tuple (d : PyData) : isT "tuple" d = true ↔ ∃ xs, d = .tuple xs := by
  cases d with
  | tuple xs => exact ⟨fun _ => ⟨xs, rfl⟩, fun _ => by show isT "tuple" (.tuple []) = true; decide +kernel⟩
  | none => exact ⟨fun h => absurd h (by decide +kernel), fun ⟨_, e⟩ => by cases e⟩
  | bool b => exact ⟨fun h => absurd h (by show ¬ isT "tuple" (.bool true) = true; decide +kernel), fun ⟨_, e⟩ => by cases e⟩
  | int b => exact ⟨fun h => absurd h (by show ¬ isT "tuple" (.int 0) = true; decide +kernel), fun ⟨_, e⟩ => by cases e⟩
  | str b => exact ⟨fun h => absurd h (by show ¬ isT "tuple" (.str Str.empty) = true; decide +kernel), fun ⟨_, e⟩ => by cases e⟩
  | list b => exact ⟨fun h => absurd h (by show ¬ isT "tuple" (.list []) = true; decide +kernel), fun ⟨_, e⟩ => by cases e⟩
  | dict b => exact ⟨fun h => absurd h (by show ¬ isT "tuple" (.dict []) = true; decide +kernel), fun ⟨_, e⟩ => by cases e⟩
theorem isT_str (d : PyData) : isT "str" d = true ↔ ∃ x, d = .str x := by
  cases d with
  | str x => exact ⟨fun _ => ⟨x, rfl⟩, fun _ => by show isT "str" (.str Str.empty) = true; decide +kernel⟩
  | none => exact ⟨fun h => absurd h (by decide +kernel), fun ⟨_, e⟩ => by cases e⟩
  | bool b => exact ⟨fun h => absurd h (by show ¬ isT "str" (.bool true) = true; decide +kernel), fun ⟨_, e⟩ => by cases e⟩
  | int b => exact ⟨fun h => absurd h (by show ¬ isT "str" (.int 0) = true; decide +kernel), fun ⟨_, e⟩ => by cases e⟩
  | tuple b => exact ⟨fun h => absurd h (by show ¬ isT "str" (.tuple []) = true; decide +kernel), fun ⟨_, e⟩ => by cases e⟩
  | list b => exact ⟨fun h => absurd h (by show ¬ isT "str" (.list []) = true; decide +kernel), fun ⟨_, e⟩ => by cases e⟩
  | dict b => exact ⟨fun h => absurd h (by show ¬ isT "str" (.dict []) = true; decide +kernel), fun ⟨_, e⟩ => by cases e⟩
/-- a whole number that is no bool -/
theorem isT_num (d : PyData) : (isT "int" d = true ∧ isT "bool" d = false) ↔ ∃ i, d = .int i := by
  cases d with
  | int x => exact ⟨fun _ => ⟨x, rfl⟩, fun _ => by show isT "int" (.int 0) = true ∧ isT "bool" (.int 0) = false; decide +kernel⟩
  | none => exact ⟨fun h => absurd h.1 (by decide +kernel), fun ⟨_, e⟩ => by cases e⟩
  | bool b => exact ⟨fun h => absurd h.2 (by show ¬ isT "bool" (.bool true) = false; decide +kernel), fun ⟨_, e⟩ => by cases e⟩
  | str b => exact ⟨fun h => absurd h.1 (by show ¬ isT "int" (.str Str.empty) = true; decide +kernel), fun ⟨_, e⟩ => by cases e⟩
  | tuple b => exact ⟨fun h => absurd h.1 (by show ¬ isT "int" (.tuple []) = true; decide +kernel), fun ⟨_, e⟩ => by cases e⟩
  | list b => exact ⟨fun h => absurd h.1 (by show ¬ isT "int" (.list []) = true; decide +kernel), fun ⟨_, e⟩ => by cases e⟩
  | dict b => exact ⟨fun h => absurd h.1 (by show ¬ isT "int" (.dict []) = true; decide +kernel), fun ⟨_, e⟩ => by cases e⟩
section
variable {X : Cx} {pins : List (Addr × Obj)} {σ : L2.St} {H : Hp} {s : Shared}
/-- isinstance of data -/
theorem call_isD : CallR X (.builtin "isinstance") (fun xs H Q => ∃ (v : V) (d : PyData) (T : String), xs = [v, .ty T] ∧ Dv X.K H v d ∧ (T = "tuple" ∨ T = "str" ∨ T = "int" ∨ T = "bool") ∧ Q (.bl (isT T d)) H) := by
  intro pins s σ H xs us Q I r h
  obtain ⟨v, d, T, rfl, hd, hT, q⟩ := h
  exact call_isi pins s σ H _ us Q I r ⟨v, .ty T, _, .type T, isT T d, rfl, .ty T, hd.ty, kit_isT hT d, q⟩
theorem strs_of {w : World} {x : Str} {u : Value} (h : (mixKind X.prog w).is (.inr x) u = true) : ∃ t, u = .str x t := by
  cases u with
  | str y t =>
    have e : Value.isStrOf x (.str y t) = true := h
    refine ⟨t, ?_⟩
    have : y = x := by simpa [Value.isStrOf] using e
    rw [this]
  | _ => cases h
mutual
theorem Dv.reads (I : Inv X pins σ H s) : ∀ (d : PyData) (v : V) (u : Value), Dv X.K H v d → RelV v u → ∃ as, Reads s.heap u d as ∧ sysModules ∉ as
  | .none, _, _, h, r => by
    cases h
    cases r
    exact ⟨[], Reads.none, fun z => nomatch z⟩
  | .bool b, _, _, h, r => by
    cases h
    cases r
    exact ⟨[], Reads.bool b, fun z => nomatch z⟩
  | .int i, _, _, h, r => by
    cases h
    obtain ⟨t, e⟩ := r
    subst e
    exact ⟨[], Reads.int i t, fun z => nomatch z⟩
  | .str x, _, _, h, r => by
    cases h
    obtain ⟨t, e⟩ := r
    subst e
    exact ⟨[], Reads.str x t, fun z => nomatch z⟩
  | .list ds, _, _, h, r => by
    cases h with
    | lst hq hn0 ga =>
      cases r
      obtain ⟨its, rv, ⟨o, n, ho, hc, _, hd⟩, _⟩ := I.list (.inl (.inl hq))
      obtain ⟨as, hr, hn⟩ := Dv.readsAll I ds _ its ga rv
      exact ⟨_, Reads.list ho hc hd hr, fun z => by
        rcases List.mem_cons.mp z with z | z
        · exact hn0 z.symm
        · exact hn z⟩
  | .tuple ds, _, _, h, r => by
    cases h with
    | tup hq ga =>
      cases r
      obtain ⟨its, rv, ⟨o, ho, hc, n, hd⟩, _⟩ := I.tuple hq
      obtain ⟨as, hr, hn⟩ := Dv.readsAll I ds _ its ga rv
      exact ⟨_, Reads.tuple ho hc hd hr, hn⟩
  | .dict [], _, _, h, r => by
    cases h with
    | dct ha =>
      cases r
      obtain ⟨_, hsm, vs, kv, o, es, ep, e1, e2, e3, _, e4, _⟩ := dk_of I.hok ha
      cases kv
      have ee : es = #[] := by
        have : es.toList = [] := by cases e4' : es.toList with
          | nil => rfl
          | cons x l =>
            rw [e4'] at e4
            cases e4
        exact Array.toList_eq_nil_iff.mp this
      subst ee
      refine ⟨_, Reads.dict (kvs := []) e1 e2.1 e3 .nil .nil, fun z => ?_⟩
      rcases List.mem_cons.mp z with z | z
      · rw [← z] at hsm
        simp at hsm
      · cases z
  | .dict [(k, d)], _, _, h, r => by
    cases h with
    | @dc1 a x v _ ha g =>
      cases r
      obtain ⟨_, hsm, vs, kv, o, es, ep, e1, e2, e3, _, e4, _⟩ := dk_of I.hok ha
      cases kv with
      | @cons p q l1 l2 hpq rest =>
      cases rest
      obtain ⟨qk, qv⟩ := q
      obtain ⟨hk0, rv⟩ := hpq
      have hk1 : (Sum.inr x : Key) = qk := hk0
      subst hk1
      obtain ⟨ee, hes, hk, hv⟩ : ∃ ee : DictEntry, es.toList = [ee] ∧ (mixKind X.prog X.w).is (.inr x) ee.key = true ∧ ee.val = qv := by
        cases e4' : es.toList with
        | nil =>
          rw [e4'] at e4
          cases e4
        | cons z l =>
          rw [e4'] at e4
          cases e4 with
          | cons k1 k2 rest =>
            cases rest
            exact ⟨z, rfl, k1, k2⟩
      obtain ⟨t, ht⟩ := strs_of hk
      obtain ⟨as, hr, hn⟩ := Dv.reads I d v qv g rv
      refine ⟨_, Reads.dict (kvs := [(.str x, d)]) (as := [] ++ []) (bs := as ++ []) e1 e2.1 e3 ?_ ?_, fun z => ?_⟩
      · rw [hes]
        show ReadsAll s.heap [ee.key] [.str x] _
        rw [ht]
        exact .cons (.str x t) .nil
      · rw [hes]
        show ReadsAll s.heap [ee.val] [d] _
        rw [hv]
        exact .cons hr .nil
      · rcases List.mem_cons.mp z with z | z
        · rw [← z] at hsm
          simp at hsm
        · exact hn (by simpa using z)
  | .dict (_ :: _ :: _), _, _, h, _ => by cases h
theorem Dv.readsAll (I : Inv X pins σ H s) : ∀ (ds : List PyData) (vs : List V) (us : List Value), DvAll X.K H vs ds → Vals vs us → ∃ as, ReadsAll s.heap us ds as ∧ sysModules ∉ as
  | [], _, _, h, r => by
    cases h
    cases r
    exact ⟨_, ReadsAll.nil, fun z => nomatch z⟩
  | d :: ds, _, _, h, r => by
    cases h with
    | cons k1 k2 =>
      cases r with
      | cons r1 r2 =>
        obtain ⟨as, q1, n1⟩ := Dv.reads I d _ _ k1 r1
        obtain ⟨bs, q2, n2⟩ := Dv.readsAll I ds _ _ k2 r2
        exact ⟨_, ReadsAll.cons q1 q2, fun m => by
          rcases List.mem_append.mp m with m | m
          · exact n1 m
          · exact n2 m⟩
end
/-- data that can be shown -/
structure Dok (n m : Nat) (d : PyData) : Prop where
  sh : d.showable = true
  dp : d.depth ≤ m
  len : d.shown.length ≤ n
theorem Dok.mono {n m n' m' : Nat} {d : PyData} (h : Dok n m d) (a : n ≤ n') (b : m ≤ m') : Dok n' m' d := ⟨h.sh, Nat.le_trans h.dp b, Nat.le_trans h.len a⟩
/-- repr of such, where no repr is under way -/
theorem call_reprV (hgu : X.A.guards = some []) (hu : X.A.units + 64 < cLine) : CallR X (.builtin "repr") (fun xs H Q => ∃ (v : V) (d : PyData) (n : Nat), xs = [v] ∧ Dv X.K H v d ∧ Dok n 40 d ∧ n ≤ sizeLine ∧ Q (.str d.shown) H) := by
  intro pins s σ H xs us Q I rv h
  obtain ⟨v, d, n, rfl, hd, ok, hn, q⟩ := h
  obtain ⟨u, rfl, ru⟩ := rv.one
  have hz := Nat.le_trans ok.len hn
  have obj : ∀ a, u = .ref a → wpAny (model X.prog X.w) X.A (call (.builtin "repr") [u]) (EP X pins σ Q) X.xe s := fun a e => by
    obtain ⟨as, rd, hs⟩ := Dv.reads I d v u hd ru
    subst e
    refine repr_of_reads' rd ok.sh (fun _ => hs) hgu (by have := ok.dp; omega) (fun _ _ e => e) (fun h' u tk kp => ?_) hz
    exact ⟨.str d.shown, H, I.kept (t' := tk) kp, ⟨u, rfl⟩, q⟩
  cases hd with
  | non =>
    cases ru
    exact P.repr_of_none ⟨.str "None", H, I.tok _, ⟨_, rfl⟩, by simpa only [PyData.shown] using q⟩
  | bl b =>
    cases ru
    exact P.repr_of_bool ⟨.str (if b then "True" else "False"), H, I.tok _, ⟨_, by cases b <;> rfl⟩, by simpa only [PyData.shown] using q⟩
  | int i =>
    obtain ⟨t, rfl⟩ := ru
    have hi : i.natAbs.log2 < 1920 := by simpa [PyData.showable] using ok.sh
    exact P.repr_of_int hi ⟨.str (toString i), H, I.tok _, ⟨_, rfl⟩, by simpa only [PyData.shown] using q⟩
  | str x _ =>
    obtain ⟨t, rfl⟩ := ru
    exact P.repr_of_str ⟨.str (reprText x), H, I.tok _, ⟨_, rfl⟩, by simpa only [PyData.shown] using q⟩ (by simpa only [PyData.shown] using hz)
  | @lst a xs ds hq hn g => cases ru; exact obj a rfl
  | @tup a xs ds hq g => cases ru; exact obj a rfl
  | @dct a hq => cases ru; exact obj a rfl
  | @dc1 a x v d hq g => cases ru; exact obj a rfl
end
end Fh
set_option Elab.async false
set_option linter.all false
set_option maxRecDepth 100000
set_option maxHeartbeats 2000000
namespace Fh
open PySem L2 TL
/-! ### comprehensions -/
/-! in a block K is named -/
def rIsD (K : PySem.W.Frag) : List V → Hp → VK → Prop := fun xs H Q => ∃ (v : V) (d : PyData) (T : String), xs = [v, .ty T] ∧ Dv K H v d ∧ (T = "tuple" ∨ T = "str" ∨ T = "int" ∨ T = "bool") ∧ Q (.bl (isT T d)) H
theorem call_isB {X : Cx} {K : PySem.W.Frag} (hK : X.K = K) : CallR X (.builtin "isinstance") (rIsD K) := by
  subst hK
  exact call_isD
theorem pi_tupB {X : Cx} {K : PySem.W.Frag} {tg l : Expr} {tl : TE} (hK : X.K = K) (hl : PE X l tl) : PI X tg l (iTup K tl) := by
  subst hK
  exact pi_tup hl
theorem pi_listB {X : Cx} {K : PySem.W.Frag} {tg l : Expr} {tl : TE} (hK : X.K = K) (hl : PE X l tl) : PI X tg l (iList K tl) := by
  subst hK
  exact pi_list hl
theorem pe_all {X : Cx} {K : PySem.W.Frag} {e : Expr} {es : List Expr} {t : TA} {p pos : Pos} (hK : X.K = K) (hc : X.calm = true) (hg : Gl X "all") (hm : X.mg "all" = none) (ha : PA X (e :: es) t)
    (he : starEach (e :: es) X.env = (false, eval e X.env) :: starEach es X.env := by rfl) (hpl : (backTo pos (starEach es X.env)).any (·.1) = false := by rfl) : PE X (.Call (.Name "all" p) (e :: es) [] pos) (tCB (rAll K) t) := by
  subst hK
  exact pe_callB (cr_all hc) hg hm (by decide +kernel) ha (by decide) (by decide) he hpl
abbrev noScope : Scope := { kind := .function, names := [], isGenerator := false, isCoroutine := false }
/-- a block in a block that captures nothing -/
theorem blk_in {N : List Str} {sc scope : Scope} {own : List (Str × Nat)} (h : BlkOk N noScope scope own) : BlkOk N sc scope own := ⟨h.kind, h.uniq, h.ix, fun y m e => (by
  rcases h.free y m e with z | z <;> cases z), h.own⟩
theorem len_k {z : Str} (h : z.length ≤ 1000000) : z.length ≤ sizeLine := by
  rw [sizeLine_eq]
  omega
theorem take_more {α : Type} {l : List α} {i : Nat} {a : α} (h : l[i]? = some a) : l.take (i + 1) = l.take i ++ [a] := by
  rw [List.take_add_one, h]
  rfl
/-- a comprehension over a text whose element is a test of the sign -/
theorem lc_signs {s : Nat} {te : TE} {vs : List Nat} {σ : L2.St} {H1 : Hp} {D : Addr} {Qd : Hp → Prop} (z : Str) (f : Nat → Bool) (hw : ∀ v, wipe ((wipe σ vs).set s (some v)) vs = wipe σ vs) (hn : z.length ≤ 10000)
    (he : ∀ (c : Nat) (H : Hp) (Q : VK), Q (.bl (f c)) H → te ((wipe σ vs).set s (some (.str ⟨#[c]⟩))) H Q)
    (hd : Qd (upd H1 D (.lst (((tl z).map f).map V.bl)))) :
    ∃ W : Nat → Nat → Hp → Prop, (∃ m, W 0 m (upd H1 D (.lst []))) ∧ ∀ i m H, W i m H →
      ((Its z).stop i H ∧ Qd H) ∨ ((Its z).go i H ∧ ∃ Nx : Hp → Prop, (∀ H', Nx H' → ∃ m', m' < m ∧ W (i + 1) m' H') ∧ ∀ x H', (Its z).yld i H x H' → gName s x (wipe σ vs) H' fun σ2 H2 => wipe σ2 vs = wipe σ vs ∧ tYes σ2 H2 fun b H3 =>
        if b = true then te σ2 H3 fun y H4 => ∃ acc, H4 D = some (.lst acc) ∧ acc.length < sizeLine ∧ Nx (upd H4 D (.lst (acc ++ [y]))) else Nx H3) := by
  have hz : (tl z).length = z.cps.size := Array.length_toList
  refine lc_it walk_str (fun i H => H = upd H1 D (.lst ((((tl z).take i).map f).map V.bl))) rfl (fun _ _ _ _ => trivial) (fun i v H H' hi p y => ?_) (fun H p => ?_)
  · obtain ⟨rfl, c, hc, rfl⟩ := y
    subst p
    refine ⟨hw _, ?_⟩
    simp only [tYes, ↓reduceIte]
    refine he c _ _ ⟨_, upd_same, ?_, ?_⟩
    · rw [List.length_map, List.length_map, List.length_take]
      have hl : z.cps.size = z.length := rfl
      exact Nat.lt_of_lt_of_le (by omega : _ < 10001) (by rw [sizeLine_eq]; decide)
    · have hc' : (tl z)[i]? = some c := by rw [Array.getElem?_toList]; exact hc
      rw [upd_upd, take_more hc', List.map_append, List.map_append]
      rfl
  · rw [p, ← hz, List.take_length]
    exact hd
theorem all_id (l : List Nat) (f : Nat → Bool) : (l.map f).all id = l.all f := by
  rw [List.all_map]
  rfl
/-- a comprehension whose i-th element is told by R -/
theorem lc_each {J : It} {G : Hp → Prop} {xs : List V} (w : Walk J xs.length G (YAt xs)) {s : Nat} {te : TE} {vs : List Nat} {σ : L2.St} {H1 : Hp} {D : Addr} {Qd : Hp → Prop} (R : Nat → V → Hp → Prop)
    (hw : ∀ v, wipe ((wipe σ vs).set s (some v)) vs = wipe σ vs) (hn : xs.length ≤ 10000) (hD : H1 D = none) (hG : ∀ H, Same H1 H → G H)
    (mono : ∀ i v H H', i < xs.length → (∃ ys, H D = some (.lst ys)) → But D H H' → R i v H → R i v H')
    (he : ∀ (i : Nat) (v : V) (H : Hp) (Q : VK), xs[i]? = some v → Same H1 H → (∃ ys, H D = some (.lst ys)) → (∀ y H', Same H H' → R i y H' → Q y H') → te ((wipe σ vs).set s (some v)) H Q)
    (hd : ∀ ys H, ys.length = xs.length → (∀ i y, ys[i]? = some y → R i y H) → H D = some (.lst ys) → Same H1 H → Qd H) :
    ∃ W : Nat → Nat → Hp → Prop, (∃ m, W 0 m (upd H1 D (.lst []))) ∧ ∀ i m H, W i m H →
      (J.stop i H ∧ Qd H) ∨ (J.go i H ∧ ∃ Nx : Hp → Prop, (∀ H', Nx H' → ∃ m', m' < m ∧ W (i + 1) m' H') ∧ ∀ x H', J.yld i H x H' → gName s x (wipe σ vs) H' fun σ2 H2 => wipe σ2 vs = wipe σ vs ∧ tYes σ2 H2 fun b H3 =>
        if b = true then te σ2 H3 fun y H4 => ∃ acc, H4 D = some (.lst acc) ∧ acc.length < sizeLine ∧ Nx (upd H4 D (.lst (acc ++ [y]))) else Nx H3) := by
  refine lc_it w (fun i H => ∃ ys, H D = some (.lst ys) ∧ ys.length = i ∧ (∀ j y, ys[j]? = some y → R j y H) ∧ Same H1 H) ⟨[], upd_same, rfl, fun j y e => (by cases e), same_new hD _⟩ (fun i H hi p => ?_) (fun i v H H' hi p y => ?_) (fun H p => ?_)
  · obtain ⟨_, _, _, _, p⟩ := p
    exact hG H p
  · obtain ⟨rfl, hv⟩ := y
    obtain ⟨ys, f1, f2, f3, f4⟩ := p
    refine ⟨hw _, ?_⟩
    simp only [tYes, ↓reduceIte]
    refine he i v _ _ hv f4 ⟨ys, f1⟩ fun y H2 s2 r2 => ?_
    have f1' := s2 _ _ f1
    have b2 : But D H2 (upd H2 D (.lst (ys ++ [y]))) := But.upd
    refine ⟨ys, f1', ?_, ys ++ [y], upd_same, by rw [List.length_append, f2]; rfl, fun j z e => ?_, fun b o h => ?_⟩
    · rw [f2]
      exact Nat.lt_of_lt_of_le (by omega : i < 10001) (by rw [sizeLine_eq]; decide)
    · by_cases hj : j < ys.length
      · rw [List.getElem?_append_left hj] at e
        refine mono j z _ _ (by omega) ⟨_, f1'⟩ b2 (mono j z _ _ (by omega) ⟨_, f1⟩ (But.of_same s2) (f3 j z e))
      · have hj' : j = ys.length := by
          have := (List.getElem?_eq_some_iff.mp e).1
          rw [List.length_append, List.length_singleton] at this
          omega
        rw [hj', List.getElem?_append_right (Nat.le_refl _), Nat.sub_self] at e
        have ez : y = z := by injection e
        subst ez
        rw [hj', f2]
        exact mono i y _ _ hi ⟨_, f1'⟩ b2 r2
    · rw [upd_ne (ne_of_none h hD)]
      exact s2 _ _ (f4 b o h)
  · obtain ⟨ys, f1, f2, f3, f4⟩ := p
    exact hd ys H f2 f3 f1 f4
/-- .. by f -/
theorem lc_fn {J : It} {G : Hp → Prop} {xs : List V} (w : Walk J xs.length G (YAt xs)) {s : Nat} {te : TE} {vs : List Nat} {σ : L2.St} {H1 : Hp} {D : Addr} {Qd : Hp → Prop} (f : Nat → V)
    (hw : ∀ v, wipe ((wipe σ vs).set s (some v)) vs = wipe σ vs) (hn : xs.length ≤ 10000) (hD : H1 D = none) (hG : ∀ H, Same H1 H → G H)
    (he : ∀ (i : Nat) (v : V) (H : Hp) (Q : VK), xs[i]? = some v → Same H1 H → (∀ H', Same H H' → Q (f i) H') → te ((wipe σ vs).set s (some v)) H Q)
    (hd : ∀ H, H D = some (.lst ((List.range xs.length).map f)) → Same H1 H → Qd H) :
    ∃ W : Nat → Nat → Hp → Prop, (∃ m, W 0 m (upd H1 D (.lst []))) ∧ ∀ i m H, W i m H →
      (J.stop i H ∧ Qd H) ∨ (J.go i H ∧ ∃ Nx : Hp → Prop, (∀ H', Nx H' → ∃ m', m' < m ∧ W (i + 1) m' H') ∧ ∀ x H', J.yld i H x H' → gName s x (wipe σ vs) H' fun σ2 H2 => wipe σ2 vs = wipe σ vs ∧ tYes σ2 H2 fun b H3 =>
        if b = true then te σ2 H3 fun y H4 => ∃ acc, H4 D = some (.lst acc) ∧ acc.length < sizeLine ∧ Nx (upd H4 D (.lst (acc ++ [y]))) else Nx H3) := by
  refine lc_each w (fun i v _ => v = f i) hw hn hD hG (fun _ _ _ _ _ _ _ h => h) (fun i v H Q hv s _ k => he i v H Q hv s fun H' s' => k _ _ s' rfl) fun ys H e r hl s => hd H ?_ s
  rw [hl]
  congr 2
  refine List.ext_getElem? fun j => ?_
  by_cases hj : j < ys.length
  · have h1 := List.getElem?_eq_getElem hj
    rw [h1, r j _ h1, List.getElem?_map, List.getElem?_range (by omega)]
    rfl
  · rw [List.getElem?_eq_none (by omega), List.getElem?_eq_none (by rw [List.length_map, List.length_range]; omega)]
theorem range_map {α β : Type} {l : List α} {f : Nat → β} {g : α → β} (h : ∀ i a, l[i]? = some a → f i = g a) : (List.range l.length).map f = l.map g := by
  refine List.ext_getElem? fun j => ?_
  by_cases hj : j < l.length
  · rw [List.getElem?_map, List.getElem?_map, List.getElem?_range hj, List.getElem?_eq_getElem hj]
    exact congrArg some (h j _ (List.getElem?_eq_getElem hj))
  · rw [List.getElem?_eq_none (by rw [List.length_map, List.length_range]; omega), List.getElem?_eq_none (by rw [List.length_map]; omega)]


def atD (ds : List PyData) (i : Nat) : PyData := ds.getD i .none
/-- .. by a test of the data -/
theorem lc_test {K : PySem.W.Frag} {J : It} {G : Hp → Prop} {xs : List V} {ds : List PyData} (w : Walk J xs.length G (YAt xs)) {s : Nat} {te : TE} {vs : List Nat} {σ : L2.St} {H1 : Hp} {D : Addr} {Qd : Hp → Prop} (f : PyData → Bool)
    (hall : DvAll K H1 xs ds) (hw : ∀ v, wipe ((wipe σ vs).set s (some v)) vs = wipe σ vs) (hn : xs.length ≤ 10000) (hD : H1 D = none) (hG : ∀ H, Same H1 H → G H)
    (he : ∀ (i : Nat) (v : V) (d : PyData) (H : Hp) (Q : VK), ds[i]? = some d → Dv K H v d → Same H1 H → (∀ (c : Bool) H', Same H H' → f d = c → Q (.bl c) H') → te ((wipe σ vs).set s (some v)) H Q)
    (hd : ∀ H, H D = some (.lst ((ds.map f).map V.bl)) → Same H1 H → Qd H) :
    ∃ W : Nat → Nat → Hp → Prop, (∃ m, W 0 m (upd H1 D (.lst []))) ∧ ∀ i m H, W i m H →
      (J.stop i H ∧ Qd H) ∨ (J.go i H ∧ ∃ Nx : Hp → Prop, (∀ H', Nx H' → ∃ m', m' < m ∧ W (i + 1) m' H') ∧ ∀ x H', J.yld i H x H' → gName s x (wipe σ vs) H' fun σ2 H2 => wipe σ2 vs = wipe σ vs ∧ tYes σ2 H2 fun b H3 =>
        if b = true then te σ2 H3 fun y H4 => ∃ acc, H4 D = some (.lst acc) ∧ acc.length < sizeLine ∧ Nx (upd H4 D (.lst (acc ++ [y]))) else Nx H3) := by
  refine lc_fn w (fun i => .bl (f (atD ds i))) hw hn hD hG (fun i v H Q hv s1 k => ?_) (fun H hH s1 => hd H ?_ s1)
  · obtain ⟨d, hd, hdv⟩ := hall.get hv
    have e : atD ds i = d := by unfold atD; rw [List.getD_eq_getElem?_getD, hd]; rfl
    rw [e] at k
    exact he i v d H Q hd (hdv.same s1) s1 fun c H' s2 ec => by
      rw [← ec]
      exact k H' s2
  · rw [hH]
    congr 2
    rw [hall.len, List.map_map]
    exact range_map fun i x hx => by
      unfold atD
      rw [List.getD_eq_getElem?_getD, hx]
      rfl
theorem all_test {ds : List PyData} {f : PyData → Bool} : ((ds.map f).map id).all id = ds.all f := by
  rw [List.map_id, List.all_map]
  rfl
theorem all_f (ds : List PyData) (f : PyData → Bool) : (ds.map f).all id = ds.all f := by
  rw [List.all_map]
  rfl
end Fh
set_option Elab.async false
set_option linter.all false
set_option maxRecDepth 100000
set_option maxHeartbeats 2000000
namespace Fh
open PySem L2 TL
/-! ### what has the form of a writer: states, words, moves -/
mutual
def fit (w s : Nat) : PyData → Bool
  | .str z => decide (z.length ≤ s)
  | .tuple xs => decide (xs.length ≤ w) && fitAll w s xs
  | .list xs => decide (xs.length ≤ w) && fitAll w s xs
  | _ => true
def fitAll (w s : Nat) : List PyData → Bool
  | [] => true
  | x :: xs => fit w s x && fitAll w s xs
end
theorem fitAll_iff {w s : Nat} : ∀ {ds : List PyData}, fitAll w s ds = true ↔ ∀ d ∈ ds, fit w s d = true
  | [] => ⟨fun _ d h => (by cases h), fun _ => by simp only [fitAll]⟩
  | x :: xs => by
    simp only [fitAll, Bool.and_eq_true]
    rw [fitAll_iff]
    exact ⟨fun h d m => by
      rcases List.mem_cons.mp m with rfl | m
      · exact h.1
      · exact h.2 d m, fun h => ⟨h x (.head _), fun d m => h d (.tail _ m)⟩⟩
theorem fit_tup {w s : Nat} {ds : List PyData} : fit w s (.tuple ds) = true ↔ ds.length ≤ w ∧ ∀ d ∈ ds, fit w s d = true := by
  simp only [fit, Bool.and_eq_true, decide_eq_true_eq]
  rw [fitAll_iff]
theorem fit_lst {w s : Nat} {ds : List PyData} : fit w s (.list ds) = true ↔ ds.length ≤ w ∧ ∀ d ∈ ds, fit w s d = true := by
  simp only [fit, Bool.and_eq_true, decide_eq_true_eq]
  rw [fitAll_iff]
theorem fit_str {w s : Nat} {z : Str} : fit w s (.str z) = true ↔ z.length ≤ s := by
  simp only [fit, decide_eq_true_eq]
abbrev Fit (d : PyData) : Prop := fit 60 900 d = true
def isNum (d : PyData) : Bool := isT "int" d && !isT "bool" d
theorem isNum_iff (d : PyData) : isNum d = true ↔ ∃ i, d = .int i := by
  unfold isNum
  rw [Bool.and_eq_true, Bool.not_eq_true']
  exact isT_num d
def isState (n : Nat) : PyData → Bool
  | .int i => decide (0 ≤ i) && decide (i < (n : Int))
  | _ => false
def inkOk : PyData → Bool
  | .str z => decide (z ≠ "") && ofLetters z
  | _ => false
def rowOk (k n : Nat) : PyData → Bool
  | .tuple ss => decide (ss.length = k) && ss.all (isState n)
  | _ => false
def movesOk (k : Nat) : PyData → Bool
  | .tuple rows => !rows.isEmpty && rows.all (rowOk k rows.length)
  | _ => false
structure Con (K : PySem.W.Frag) (mg : Str → Option Value) : Prop where
  isi : mg "isinstance" = none
  bool : mg "bool" = none
  all : mg "all" = none
  repr : mg "repr" = none
  zip : mg "zip" = none
  max : mg "max" = none
  min : mg "min" = none
  sorted : mg "sorted" = none
  set : mg "set" = none
theorem boot_isi : bootBuiltins "isinstance" = some (.builtin "isinstance") := by decide +kernel
abbrev s_is_number : Stmt := top 6
abbrev sc_is_numberN : List Str := ["value"]
theorem sc_is_number : FnScope sc_is_numberN ["value"] (defScope s_is_number) := ⟨rfl, rfl, rfl, by decide +kernel, rfl, by decide +kernel, by decide +kernel⟩
abbrev s_is_moves : Stmt := top 9
abbrev sc_is_movesN : List Str := ["symbols", "value", "row", "state"]
theorem sc_is_moves : FnScope sc_is_movesN ["symbols", "value"] (defScope s_is_moves) := ⟨rfl, rfl, rfl, by decide +kernel, rfl, by decide +kernel, by decide +kernel⟩
abbrev s_is_state : Stmt := top 10
abbrev sc_is_stateN : List Str := ["value", "many"]
theorem sc_is_state : FnScope sc_is_stateN ["value", "many"] (defScope s_is_state) := ⟨rfl, rfl, rfl, by decide +kernel, rfl, by decide +kernel, by decide +kernel⟩
abbrev s_is_word : Stmt := top 11
abbrev sc_is_wordN : List Str := ["value"]
theorem sc_is_word : FnScope sc_is_wordN ["value"] (defScope s_is_word) := ⟨rfl, rfl, rfl, by decide +kernel, rfl, by decide +kernel, by decide +kernel⟩
def spNum (K : PySem.W.Frag) : Sp := fun vs H Q _ => ∃ (v : V) (d : PyData), vs = [v] ∧ Dv K H v d ∧ Q (.bl (isNum d)) H
abbrev scRow : Scope := { kind := .function, names := [(".0", .local), ("row", .local), ("isinstance", .globalImplicit), ("tuple", .globalImplicit), ("len", .globalImplicit), ("all", .globalImplicit), ("symbols", .cell), ("value", .cell)], isGenerator := false, isCoroutine := false }
def rLenK (K : PySem.W.Frag) : List V → Hp → VK → Prop := fun xs H Q => ∃ p ys, xs = [.ref p] ∧ (SqL K H p ys ∨ SqT K H p ys) ∧ Q (.int ys.length) H
theorem call_lenB {X : Cx} {K : PySem.W.Frag} (hK : X.K = K) : CallR X (.builtin "len") (rLenK K) := by
  subst hK
  exact call_len_seq
def rLenS : List V → Hp → VK → Prop := fun xs H Q => ∃ z : Str, xs = [.str z] ∧ z.length ≤ sizeLine ∧ Q (.int (z.length : Int)) H
theorem call_lenS {X : Cx} : CallR X (.builtin "len") rLenS := by
  intro pins s σ H xs us Q I r h
  obtain ⟨z, rfl, hk, q⟩ := h
  exact call_len pins s σ H _ us Q I r ⟨.str z, z.length, rfl, ⟨hk, rfl⟩, q⟩
/-- a test of data -/
def spTest (K : PySem.W.Frag) (f : PyData → Bool) : Sp := fun vs H Q _ => ∃ (v : V) (d : PyData), vs = [v] ∧ Dv K H v d ∧ Fit d ∧ ∀ (c : Bool) H', Same H H' → f d = c → Q (.bl c) H'
/-- .. and of a number -/
def spTestN (K : PySem.W.Frag) (f : Nat → PyData → Bool) : Sp := fun vs H Q _ => ∃ (v : V) (d : PyData) (n : Nat), vs = [v, .int (n : Int)] ∧ Dv K H v d ∧ Fit d ∧ ∀ (c : Bool) H', Same H H' → f n d = c → Q (.bl c) H'
/-- a text and data -/
def spMoves (K : PySem.W.Frag) : Sp := fun vs H Q _ => ∃ (S : Str) (v : V) (d : PyData), vs = [.str S, v] ∧ S.length ≤ 900 ∧ Dv K H v d ∧ Fit d ∧ ∀ (c : Bool) H', Same H H' → movesOk S.length d = c → Q (.bl c) H'
section
variable {P : Program} {w : World} {K : PySem.W.Frag} {mg : Str → Option Value} {base : Heap}
theorem ok_num {f : Addr} {fd : FuncData} (F : Fun K "is_number" "is_number" s_is_number f fd) (T : Bare mg) (C : Con K mg) : FnOk P w K mg base CX0 1 f fd ["value"] (spNum K) := by
  refine F.ok sc_is_number (fun vs H Q E h => ?_) (fun cdv A outer st H vs Q E hr h => ?_)
  · obtain ⟨v, d, rfl, _⟩ := h
    rfl
  obtain ⟨v, d, rfl, hd, q⟩ := h
  refine ⟨_, (pss_one (ps_ret (pe_and (pe_callB call_isD (by rfl) C.isi boot_isi (pa_cons (pv 0) (pa_cons (pe_bltn (v := .ty "int") (u := .type "int") (by rfl) T.int (by decide +kernel) rfl) pa_nil))) (pe_one (pe_not (pe_callB call_isD (by rfl) C.isi boot_isi (pa_cons (pv 0) (pa_cons (pe_bltn (v := .ty "bool") (u := .type "bool") (by rfl) C.bool (by decide +kernel) rfl) pa_nil)))))))), ?_⟩
  refine ⟨v, rfl, v, d, "int", rfl, hd, .inr (.inr (.inl rfl)), _, rfl, ?_⟩
  unfold isNum at q
  cases e : isT "int" d with
  | false =>
    rw [e] at q
    exact iteF q
  | true =>
    rw [e] at q
    exact iteT ⟨v, rfl, v, d, "bool", rfl, hd, .inr (.inr (.inr rfl)), _, rfl, q⟩
theorem ok_state {f : Addr} {fd : FuncData} (F : Fun K "is_state" "is_state" s_is_state f fd) (CN : Callee P w K mg base 1 "is_number" ["value"] (spNum K)) : FnOk P w K mg base CX0 2 f fd ["value", "many"] (spTestN K isState) := by
  refine F.ok sc_is_state (fun vs H Q E h => ?_) (fun cdv A outer st H vs Q E hr h => ?_)
  · obtain ⟨v, d, n, rfl, _⟩ := h
    rfl
  obtain ⟨v, d, n, rfl, hd, hf, q⟩ := h
  refine ⟨_, (pss_one (ps_ret (pe_and (pe_call CN.ok hr rfl CN.mg CN.kp CN.b .nil pass0 (pa_cons (pv 0) pa_nil)) (pe_one (pe_chain op_le op_lt pe_int (pv 0) (pv 1)))))), ?_⟩
  refine ⟨v, rfl, v, d, rfl, hd, ?_⟩
  by_cases hs : isNum d = true
  rotate_left
  · rw [Bool.eq_false_iff.mpr hs]
    refine ⟨_, rfl, iteF (q false H (fun _ _ e => e) ?_)⟩
    cases d with
    | int i => exact absurd ((isNum_iff _).mpr ⟨i, rfl⟩) hs
    | _ => rfl
  obtain ⟨i, rfl⟩ := (isNum_iff d).mp hs
  rw [hs]
  cases hd
  refine ⟨_, rfl, iteT ⟨_, rfl, 0, i, rfl, rfl, _, rfl, ite2 (fun h1 => ⟨_, rfl, i, n, rfl, rfl, q _ H (fun _ _ e => e) ?_⟩) (fun h1 => q _ H (fun _ _ e => e) ?_)⟩⟩
  · show (decide (0 ≤ i) && decide (i < (n : Int))) = _
    rw [h1, Bool.true_and]
  · show (decide (0 ≤ i) && decide (i < (n : Int))) = _
    rw [Bool.eq_false_iff.mpr h1, Bool.false_and]
theorem ok_word {f : Addr} {fd : FuncData} (F : Fun K "is_word" "is_word" s_is_word f fd) (T : Bare mg) (C : Con K mg) (CL : Callee P w K mg base 1 "is_of_letters" ["word"] (spText1 ofLetters)) : FnOk P w K mg base CX0 2 f fd ["value"] (spTest K inkOk) := by
  refine F.ok sc_is_word (fun vs H Q E h => ?_) (fun cdv A outer st H vs Q E hr h => ?_)
  · obtain ⟨v, d, rfl, _⟩ := h
    rfl
  obtain ⟨v, d, rfl, hd, hf, q⟩ := h
  refine ⟨_, (pss_one (ps_ret (pe_and (pe_callB call_isD (by rfl) C.isi boot_isi (pa_cons (pv 0) (pa_cons (pe_bltn (v := .ty "str") (u := .type "str") (by rfl) T.str (by decide +kernel) rfl) pa_nil))) (pe_and (pe_cmpR op_ne (pv 0) pe_str (nomark _)) (pe_one (pe_call CL.ok hr rfl CL.mg CL.kp CL.b .nil pass0 (pa_cons (pv 0) pa_nil))))))), ?_⟩
  refine ⟨v, rfl, v, d, "str", rfl, hd, .inr (.inl rfl), _, rfl, ?_⟩
  by_cases hs : isT "str" d = true
  rotate_left
  · rw [Bool.eq_false_iff.mpr hs]
    refine iteF (q false H (fun _ _ e => e) ?_)
    cases d with
    | str z => exact absurd ((isT_str _).mpr ⟨z, rfl⟩) hs
    | _ => rfl
  obtain ⟨z, rfl⟩ := (isT_str d).mp hs
  rw [hs]
  have hz := fit_str.mp hf
  cases hd
  refine iteT ⟨_, rfl, rfl, _, rfl, ?_⟩
  have hne : decide (V.str z = V.str "") = decide (z = "") := by
    by_cases e : z = ""
    · rw [e]; exact (decide_eq_true rfl).trans (decide_eq_true rfl).symm
    · rw [decide_eq_false e]
      exact decide_eq_false fun h => e (by injection h)
  rw [hne]
  refine ite2 (fun h1 => ⟨_, rfl, z, rfl, by omega, fun H' s => q _ H' s ?_⟩) (fun h1 => q _ H (fun _ _ e => e) ?_)
  · show (decide (z ≠ "") && ofLetters z) = _
    have : z ≠ "" := fun e => by
      rw [decide_eq_true e] at h1
      cases h1
    rw [decide_eq_true this, Bool.true_and]
  · show (decide (z ≠ "") && ofLetters z) = _
    have : z = "" := by
      by_cases e : z = ""
      · exact e
      · rw [decide_eq_false e] at h1
        exact absurd rfl h1
    rw [decide_eq_false (fun h => h this), Bool.false_and]
theorem ok_moves {f : Addr} {fd : FuncData} (F : Fun K "is_moves" "is_moves" s_is_moves f fd) (T : Bare mg) (C : Con K mg) (CS : Callee P w K mg base 2 "is_state" ["value", "many"] (spTestN K isState)) : FnOk P w K mg base CX0 3 f fd ["symbols", "value"] (spMoves K) := by
  refine F.ok sc_is_moves (fun vs H Q E h => ?_) (fun cdv A outer s H vs Q E hr h => ?_)
  · obtain ⟨S, v, d, rfl, _⟩ := h
    rfl
  obtain ⟨S, v, d, rfl, hS, hd, hf, q⟩ := h
  refine ⟨_, (pss_cons (ps_if (PW.pt (pw_or (pt_not (pt_val (pe_callB call_isD (by rfl) C.isi boot_isi (pa_cons (pv 1) (pa_cons (pe_bltn (v := .ty "tuple") (u := .type "tuple") (by rfl) T.tuple (by decide +kernel) rfl) pa_nil))))) (pw_or1 (pt_not (pt_truth (pv 1) (by intro _; rfl))))))
(pss_one (ps_ret pe_bl))
pss_nil)
(pss_one (ps_ret (pe_all (K := K) rfl rfl (by rfl) C.all (pa_cons (pe_lc (own := [("row", 2)]) (g := gName 2) rfl sc_is_moves.nd (pi_tup (pv 1)) (blkOk_by (N := sc_is_movesN) (sc := defScope s_is_moves) (by decide +kernel)) (fun _ _ _ _ _ => pg_name (i := 2) sc_is_moves.nd rfl (Or.inl rfl)) (fun _ _ _ _ _ => pts_nil) (fun _ _ _ _ _ => (pe_and (pe_callB (call_isB (K := K) rfl) (by rfl) C.isi boot_isi (pa_cons (pv 2) (pa_cons (pe_bltn (v := .ty "tuple") (u := .type "tuple") (by rfl) T.tuple (by decide +kernel) rfl) pa_nil))) (pe_and (pe_cmpR op_eq (pe_callB (call_lenB (K := K) rfl) (by rfl) T.len PySem.boot_len (pa_cons (pv 2) pa_nil)) (pe_callB call_lenS (by rfl) T.len PySem.boot_len (pa_cons (pv 0) pa_nil)) (nomark _)) (pe_one (pe_all (K := K) rfl rfl (by rfl) C.all (pa_cons (pe_lc (own := [("state", 3)]) (g := gName 3) rfl sc_is_moves.nd (pi_tupB (K := K) rfl (pv 2)) (blkOk_by (N := sc_is_movesN) (sc := scRow) (by decide +kernel)) (fun _ _ _ _ _ => pg_name (i := 3) sc_is_moves.nd rfl (Or.inl rfl)) (fun _ _ _ _ _ => pts_nil) (fun _ _ _ _ _ => (pe_call CS.ok (hr.mono (by decide)) rfl CS.mg CS.kp CS.b .nil pass0 (pa_cons (pv 3) (pa_cons (pe_callB (call_lenB (K := K) rfl) (by rfl) T.len PySem.boot_len (pa_cons (pv 1) pa_nil)) pa_nil))))) pa_nil))))))) pa_nil))))), ?_⟩
  refine ⟨v, rfl, v, d, "tuple", rfl, hd, .inl rfl, _, rfl, ?_⟩
  by_cases hs : isT "tuple" d = true
  rotate_left
  · rw [Bool.eq_false_iff.mpr hs]
    refine iteT (q false H (fun _ _ e => e) ?_)
    cases d with
    | tuple ts => exact absurd ((isT_tuple _).mpr ⟨ts, rfl⟩) hs
    | _ => rfl
  obtain ⟨rows, rfl⟩ := (isT_tuple d).mp hs
  rw [hs]
  obtain ⟨hw, hrows⟩ := fit_tup.mp hf
  cases hd with
  | @tup a xs _ hq hall =>
  have hl := hall.len
  refine iteF ⟨.ref a, rfl, _, .inr (.inl ⟨xs, hq, rfl⟩), ?_⟩
  have he : (!xs.isEmpty) = !rows.isEmpty := by
    cases xs with
    | nil =>
      cases rows with
      | nil => rfl
      | cons _ _ => simp at hl
    | cons _ _ =>
      cases rows with
      | nil => simp at hl
      | cons _ _ => rfl
  rw [he]
  have f0 : movesOk S.length (.tuple rows) = (!rows.isEmpty && rows.all (rowOk S.length rows.length)) := rfl
  refine ite2 (fun h => ?_) (fun h => ?_)
  · refine q false H (fun _ _ e => e) ?_
    rw [f0, (by simpa using h : rows.isEmpty = true)]
    rfl
  have hne : rows.isEmpty = false := by simpa using h
  refine ⟨.ref a, rfl, a, rfl, ⟨_, hq⟩, fun D hD => lc_test (walk_tup (xs := xs)) (rowOk S.length rows.length) hall (fun _ => rfl) (by omega) hD (fun H' s => same_sqT s hq) (fun i u r H1 Q' hr1 hdr s1 k => ?_) (fun H1 hD1 s1 => ?_)⟩
  · have hfr := hrows r (List.mem_of_getElem? hr1)
    refine ⟨u, rfl, u, r, "tuple", rfl, hdr, .inl rfl, _, rfl, ?_⟩
    by_cases hs2 : isT "tuple" r = true
    rotate_left
    · rw [Bool.eq_false_iff.mpr hs2]
      refine iteF (k false H1 (fun _ _ e => e) ?_)
      cases r with
      | tuple ts => exact absurd ((isT_tuple _).mpr ⟨ts, rfl⟩) hs2
      | _ => rfl
    obtain ⟨ss, rfl⟩ := (isT_tuple r).mp hs2
    rw [hs2]
    obtain ⟨hw2, hss⟩ := fit_tup.mp hfr
    cases hdr with
    | @tup b ys _ hq2 hall2 =>
    have hl2 := hall2.len
    refine iteT ⟨.ref b, rfl, b, ys, rfl, .inr hq2, .str S, rfl, S, rfl, small (Nat.le_trans hS (by decide)), rfl, _, rfl, ?_⟩
    have hdec : decide (V.int (ys.length : Int) = V.int (S.length : Int)) = decide (ss.length = S.length) := by
      rw [hl2]
      exact decide_eq_decide.mpr ⟨fun h => by injection h with h; omega, fun h => by rw [h]⟩
    rw [hdec]
    have f1 : rowOk S.length rows.length (.tuple ss) = (decide (ss.length = S.length) && ss.all (isState rows.length)) := rfl
    refine ite2 (fun h3 => ?_) (fun h3 => ?_)
    rotate_left
    · refine k false H1 (fun _ _ e => e) ?_
      rw [f1, Bool.eq_false_iff.mpr h3, Bool.false_and]
    refine ⟨.ref b, rfl, b, rfl, ⟨_, hq2⟩, fun D2 hD2 => lc_test (walk_tup (xs := ys)) (isState rows.length) hall2 (fun _ => rfl) (by omega) hD2 (fun H' s => same_sqT s hq2) (fun j u2 x H2 Q2 hx hdx s2 k3 => ?_) (fun H2 hD3 s2 => ?_)⟩
    · refine ⟨u2, rfl, .ref a, rfl, a, xs, rfl, .inr (same_sqT s2 (same_sqT s1 hq)), u2, x, rows.length, ?_, hdx, hss x (List.mem_of_getElem? hx), k3⟩
      rw [hl]
      rfl
    · refine ⟨D2, _, rfl, .inl (.inl hD3), ?_⟩
      refine k _ H2 s2 ?_
      rw [f1, h3, Bool.true_and, all_f]
  · refine ⟨D, _, rfl, .inl (.inl hD1), ?_⟩
    refine q _ H1 s1 ?_
    rw [f0, hne, all_f]
    rfl
end
end Fh
set_option Elab.async false
set_option linter.all false
set_option maxRecDepth 100000
set_option maxHeartbeats 2000000
namespace Fh
open PySem PySem.Spec PyProof.Rows L2
/-! ### sets of tuples of ints and texts -/
/-- a key: its items -/
abbrev Kt := List Key
/-- what stands at b is the tuple k -/
abbrev At (P : Program) (w : World) (h : Heap) (k : Kt) (b : Addr) : Prop := IsTupleKey (mixKind P w) h k b
abbrev hK (P : Program) (w : World) (k : Kt) : Int := tupleKeyHash (mixKind P w) k
section
variable {P : Program} {w : World} {A : Around} {E : Value → Shared → Prop} {s : Shared}
/-- an int or a text -/
def Flat (v : Value) : Prop := (∃ i t, v = Value.int i t) ∨ ∃ x t, v = Value.str x t
theorem Flat.noClass {v : Value} (h : Flat v) (n : Nat) : ofAClassStatement n v = pure false := by
  rcases h with ⟨i, t, rfl⟩ | ⟨x, t, rfl⟩ <;> cases n <;> rfl
theorem Flat.byVal {v : Value} (h : Flat v) (n : Nat) : ∃ c, hashByValue n v = pure c := by
  rcases h with ⟨i, t, rfl⟩ | ⟨x, t, rfl⟩
  · exact ⟨true, by cases n <;> rfl⟩
  · exact ⟨false, by cases n <;> rfl⟩
theorem flatAll {k : Kt} {us : List Value} (h : ItemsAre (mixKind P w) k us) : ∀ u ∈ us, Flat u := by
  induction h with
  | nil => exact fun u m => nomatch m
  | @cons k0 u0 ks vs h1 _ ih =>
    refine fun u m => (List.mem_cons.mp m).elim (fun e => ?_) (ih u)
    rw [e]
    rcases keyIs_shape h1 with ⟨i, t, _, z⟩ | ⟨x, t, _, z⟩
    · exact .inl ⟨i, t, z⟩
    · exact .inr ⟨x, t, z⟩
theorem At.noClass {k : Kt} {b : Addr} {R : Bool → Shared → Prop} (x : At P w s.heap k b) (q : R false s) : wpAny (model P w) A (ofAClassStatement 8 (.ref b)) R E s := by
  have ty := x.typeIs
  obtain ⟨ob, its, m, e1, _, e2, e3⟩ := x
  have fl := flatAll e3
  unfold ofAClassStatement
  refine wpAny_bind (wpAny_typeOf ty ?_)
  dsimp only
  simp only [(by decide : (("tuple" : String) == "tuple") = true), if_true, Bool.not_true, Bool.false_eq_true, if_false]
  refine wpAny_bind (wpAny_pure ?_)
  simp only [Bool.not_true, Bool.false_eq_true, if_false]
  refine wpAny_bind (wpAny_seqItems e1 e2 ?_)
  dsimp only
  refine wpAny_bind ?_
  show wpAny _ _ (forIn its _ _) _ _ s
  rw [← Array.forIn_toList]
  refine wpAny_forIn_list _ (fun more r s1 => r.1 = none ∧ s1 = s ∧ ∀ u ∈ more, Flat u) _ ?_ ?_ _ _ ⟨rfl, rfl, fl⟩
  · rintro u more r s1 ⟨r0, rfl, f⟩
    rw [(f u List.mem_cons_self).noClass]
    refine wpAny_bind (wpAny_pure ?_)
    simp only [Bool.false_eq_true, if_false]
    exact wpAny_pure ⟨rfl, rfl, fun u' m' => f u' (List.mem_cons_of_mem _ m')⟩
  · rintro ⟨r1, r2⟩ s1 ⟨r0, rfl, _⟩
    simp only at r0
    subst r0
    exact wpAny_pure q
theorem At.byVal {k : Kt} {b : Addr} {R : Bool → Shared → Prop} (x : At P w s.heap k b) (q : ∀ c, R c s) : wpAny (model P w) A (hashByValue 8 (.ref b)) R E s := by
  have ty := x.typeIs
  obtain ⟨ob, its, m, e1, _, e2, e3⟩ := x
  have fl := flatAll e3
  unfold hashByValue
  refine wpAny_bind (wpAny_specialOf ty F.slot_tuple_hash.lookup ?_)
  show wpAny _ _ (seqItems? (.ref b) >>= _) _ _ s
  refine wpAny_bind (wpAny_seqItems e1 e2 ?_)
  refine wpAny_bind ?_
  show wpAny _ _ (forIn its _ _) _ _ s
  rw [← Array.forIn_toList]
  refine wpAny_forIn_list _ (fun more r s1 => r.1 = none ∧ s1 = s ∧ ∀ u ∈ more, Flat u) _ ?_ ?_ _ _ ⟨rfl, rfl, fl⟩
  · rintro u more r s1 ⟨r0, rfl, f⟩
    obtain ⟨c, ec⟩ := (f u List.mem_cons_self).byVal 7
    rw [ec]
    refine wpAny_bind (wpAny_pure ?_)
    cases c with
    | true =>
      simp only [Bool.not_true, Bool.false_eq_true, if_false]
      exact wpAny_pure ⟨rfl, rfl, fun u' m' => f u' (List.mem_cons_of_mem _ m')⟩
    | false =>
      simp only [Bool.not_false, if_true]
      exact wpAny_pure (wpAny_pure (q false))
  · rintro ⟨r1, r2⟩ s1 ⟨r0, rfl, _⟩
    simp only at r0
    subst r0
    exact wpAny_pure (q true)
theorem At.unseen {k : Kt} {b : Addr} {R : Bool → Shared → Prop} (x : At P w s.heap k b) {ys : List Value} (hy : ∀ y ∈ ys, ∃ k1 c, y = Value.ref c ∧ At P w s.heap k1 c) (q : R false s) : wpAny (model P w) A (searchCouldBeSeen (.ref b) ys) R E s := by
  unfold searchCouldBeSeen
  refine wpAny_bind ?_
  refine wpAny_forIn_list _ (fun more r s1 => r.1 = none ∧ s1 = s ∧ ∀ y ∈ more, ∃ k1 c, y = Value.ref c ∧ At P w s.heap k1 c) _ ?_ ?_ _ _ ⟨rfl, rfl, hy⟩
  · rintro u more r s1 ⟨r0, rfl, f⟩
    obtain ⟨k1, c, rfl, xc⟩ := f u List.mem_cons_self
    have f2 := fun u' m' => f u' (List.mem_cons_of_mem _ m')
    dsimp only
    refine (Classical.em ((b == c || (carriedByValue (.ref b) && carriedByValue (.ref c))) = true)).elim (fun z => wp_if_pos z (wpAny_pure ⟨rfl, rfl, f2⟩)) fun z => wp_if_neg z ?_
    refine wpAny_bind (wpAny_eqIsQuiet_tuple x ?_)
    simp only [Bool.not_true, Bool.false_eq_true, if_false]
    refine wpAny_bind (wpAny_eqIsQuiet_tuple xc ?_)
    simp only [Bool.not_true, Bool.false_eq_true, if_false]
    refine wpAny_bind (x.noClass ?_)
    simp only [Bool.false_eq_true, if_false]
    refine wpAny_bind (xc.noClass ?_)
    simp only [Bool.false_eq_true, if_false]
    exact wpAny_pure ⟨rfl, rfl, f2⟩
  · rintro ⟨r1, r2⟩ s1 ⟨r0, rfl, _⟩
    simp only at r0
    subst r0
    exact wpAny_pure q
theorem At.stay {h h' : Heap} {k : Kt} {b : Addr} (x : At P w h k b) (kp : ∀ c o, h.get? c = some o → h'.get? c = some o) : At P w h' k b := by
  obtain ⟨o, its, n, e, r⟩ := x
  exact ⟨o, its, n, kp b o e, r⟩
theorem At.beside {h h' : Heap} {k : Kt} {a b : Addr} {o : Obj} {es : Array (Int × Value)} {ep : Nat} {t : SetTable} (x : At P w h k b) (e : h.get? a = some o) (e2 : o.data = .set es ep t) (sb : Heap.SameBut a h h') : At P w h' k b := by
  obtain ⟨o', its, n, f1, f2, f3, f4⟩ := x
  refine ⟨o', its, n, (sb.2 b fun z => ?_).trans f1, f2, f3, f4⟩
  rw [z, e] at f1
  cases f1
  rw [e2] at f3
  cases f3
end
end Fh
set_option Elab.async false
set_option linter.all false
set_option maxRecDepth 100000
set_option maxHeartbeats 2000000
namespace Fh
open PySem PySem.Spec PyProof.Rows L2
/-! ### the set's object, and a search in it -/
abbrev Ent := Addr × Kt
def rowOf (P : Program) (w : World) (e : Ent) : Int × Value := (hK P w e.2, Value.ref e.1)
def hs (P : Program) (w : World) (L : List Ent) : List Int := L.map fun e => hK P w e.2
/-- the set at a holds L -/
structure Bag (P : Program) (w : World) (h : Heap) (a : Addr) (L : List Ent) (es : Array (Int × Value)) (ep : Nat) (t : SetTable) : Prop where
  obj : ∃ o, h.get? a = some o ∧ o.ExactSet ∧ o.data = .set es ep t
  ents : es.toList = L.map (rowOf P w)
  tab : TabOk t (hs P w L)
  uniq : (L.map Prod.snd).Nodup
  keys : ∀ e ∈ L, At P w h e.2 e.1
  led : w.params.followText "set-order" = true ∨ t.led = true
  air : 5 * L.length < 3 * t.mask
  few : L.length < 64
section
variable {P : Program} {w : World} {A : Around} {E : Value → Shared → Prop} {s : Shared} {a : Addr} {L : List Ent} {es : Array (Int × Value)} {ep : Nat} {t : SetTable}
theorem Bag.many (B : Bag P w s.heap a L es ep t) : es.size = L.length := by
  rw [← Array.length_toList, B.ents, List.length_map]
theorem Bag.place (B : Bag P w s.heap a L es ep t) : t.place.size = L.length := by
  rw [B.tab.sz]
  exact List.length_map _
theorem Bag.fits (B : Bag P w s.heap a L es ep t) : t.fits es.size = true := by
  have h1 := B.place
  have h2 := B.many
  have h3 := B.air
  simp only [SetTable.fits, SetTable.fill, B.tab.dm, Bool.and_eq_true, beq_iff_eq, decide_eq_true_eq]
  refine ⟨by omega, ?_⟩
  show t.place.size + 0 ≤ t.mask
  omega
theorem Bag.at (B : Bag P w s.heap a L es ep t) {i : Nat} {e : Ent} (h : L[i]? = some e) : es[i]? = some (rowOf P w e) := by
  rw [← Array.getElem?_toList, B.ents, List.getElem?_map, h]
  rfl
theorem Bag.whole (B : Bag P w s.heap a L es ep t) : ¬ t.gaveWay = true := by
  have e := mask_odd B.tab.mok
  simp [SetTable.gaveWay, e]
/-- the c-th step on the way of h -/
def pr (m : Nat) (h : Int) (c : Nat) : SetTable.Probe := nth m (runAt m (SetTable.bits h % (m + 1)) (SetTable.bits h)) c
theorem pr_add (m : Nat) (h : Int) (c q : Nat) : nth m (pr m h c) q = pr m h (c + q) := (nth_add m c _ q).symm
theorem pr_j (m : Nat) (h : Int) (c q : Nat) : (nth m (pr m h c) q).j = way m h (c + q) := congrArg SetTable.Probe.j (pr_add m h c q)
theorem nth_dummy (m : Nat) : ∀ (n : Nat) (p : SetTable.Probe), p.dummy = none → (nth m p n).dummy = none
  | 0, _, h => h
  | n + 1, p, h => nth_dummy m n (adv m p) (by
    unfold adv
    split
    · exact h
    · exact h)
/-- where k may stand on the way from step c on -/
def Ahead (P : Program) (w : World) (L : List Ent) (t : SetTable) (k : Kt) (T c : Nat) : Prop := ∀ (i : Nat) (e : Ent), L[i]? = some e → e.2 = k → ∃ q, c ≤ q ∧ q < T ∧ t.place.toList[i]? = some (way t.mask (hK P w k) q)
theorem Bag.search (B : Bag P w s.heap a L es ep t) {x : Addr} {k : Kt} (hx : At P w s.heap k x) (hu : A.units < cLine) {T : Nat} (hT : T < 10 * SetTable.turns t.mask)
    (free : way t.mask (hK P w k) T ∉ t.place.toList) (full : ∀ c, c < T → way t.mask (hK P w k) c ∈ t.place.toList) {R : SetFound → Shared → Prop}
    (yes : k ∈ L.map Prod.snd → R (.there none) s) (no : k ∉ L.map Prod.snd → R (.free (way t.mask (hK P w k) T) false) s) :
    ∀ (f c : Nat) (st : Option SetTable.Probe), st.getD (t.probeStart (hK P w k)) = pr t.mask (hK P w k) c → c ≤ T → T - c < f → Ahead P w L t k T c → wpAny (model P w) A (setSearchFrom a (.ref x) (hK P w k) true f st) R E s := by
  intro f
  induction f with
  | zero => exact fun c st _ _ z _ => absurd z (Nat.not_lt_zero _)
  | succ f ih =>
  intro c st es0 le lt ah
  obtain ⟨o, o1, o2, o3⟩ := B.obj
  have hashes : ∀ (i : Nat) e, L[i]? = some e → ((es[i]?.map Prod.fst).getD 0) = hK P w e.2 := fun i e z => by
    rw [B.at z]
    rfl
  have spec := go_spec t B.tab.ris B.tab.dm (fun i => (es[i]?.map (·.1)).getD 0) (hK P w k) (10 * SetTable.turns t.mask) (T - c) (pr t.mask (hK P w k) c) (nth_dummy _ c _ rfl) (by omega)
    (fun q z => by rw [pr_j]; exact full _ (by omega)) (by rw [pr_j, Nat.add_sub_cancel' le]; exact free)
  rw [setSearchFrom_succ]
  refine wpAny_bind (wpAny_setState_of o1 o3 B.fits ?_)
  dsimp only
  refine wp_if_neg B.whole ?_
  try refine wpAny_bind (wpAny_pure ?_)
  rw [es0]
  rcases spec with ⟨q, i, q1, q2, q3, q4, q5⟩ | ⟨q4, q5⟩
  · rw [pr_j] at q2
    have pb : t.probe (fun i => (es[i]?.map (·.1)).getD 0) (hK P w k) (pr t.mask (hK P w k) c) = some (.candidate (way t.mask (hK P w k) (c + q)) i (pr t.mask (hK P w k) (c + (q + 1)))) := by
      rw [← pr_j, ← pr_add]
      exact q5
    rw [pb]
    dsimp only
    have il : i < L.length := by
      have z := (List.getElem?_eq_some_iff.mp q2).1
      rw [Array.length_toList, B.place] at z
      exact z
    obtain ⟨e, he⟩ : ∃ e, L[i]? = some e := ⟨_, List.getElem?_eq_getElem il⟩
    have em := List.mem_of_getElem? he
    have rest : wpAny (model P w) A (searchRest a (.ref x) (hK P w k) true f es t (way t.mask (hK P w k) (c + q)) i (pr t.mask (hK P w k) (c + (q + 1)))) R E s := by
      unfold searchRest
      rw [B.at he]
      unfold rowOf
      dsimp only
      refine wpAny_bind (wpAny_holding (wpAny_eqBool_tuple hu (B.keys e em) hx ?_))
      refine wpAny_bind (wpAny_setState_of o1 o3 B.fits ?_)
      dsimp only
      rcases Classical.em (e.2 = k) with eq | ne
      · exact wp_if_pos (by simp [eq]) (wpAny_pure (yes (List.mem_map.mpr ⟨e, em, eq⟩)))
      refine wp_if_neg (by simp [ne]) ?_
      try refine wpAny_bind (wpAny_pure ?_)
      rw [sameMem]
      have sl : t.slot (way t.mask (hK P w k) (c + q)) = .live i := slot_live B.tab.ris q2
      dsimp only
      have ate := B.at he
      unfold rowOf at ate
      simp only [if_true, sl, ate]
      refine wpAny_bind (wpAny_isSame_ref_self (wpAny_bind (wpAny_pure ?_)))
      simp only [if_true]
      refine wp_if_neg (by simp [ne]) (ih (c + (q + 1)) _ rfl (by omega) (by omega) fun i0 e0 z0 k0 => ?_)
      obtain ⟨r, r1, r2, r3⟩ := ah i0 e0 z0 k0
      refine ⟨r, Nat.lt_of_not_le fun r4 => ?_, r2, r3⟩
      have hk0 : ((es[i0]?.map Prod.fst).getD 0) = hK P w k := (hashes i0 e0 z0).trans (congrArg (hK P w) k0)
      have r4' : r ≤ c + q := r4
      rcases Nat.lt_or_eq_of_le r4' with r5 | r5
      · exact q4 (r - c) i0 (by omega) (by rw [pr_j, Nat.add_sub_cancel' r1]; exact r3) hk0
      · rw [r5] at r3
        have s0 := slot_live B.tab.ris r3
        rw [sl] at s0
        injection s0 with s0
        rw [← s0, he] at z0
        cases z0
        exact ne k0
    by_cases hl : t.led = true
    · refine wp_if_neg (by simp [hl]) ?_
      try refine wpAny_bind (wpAny_pure ?_)
      exact rest
    · refine wp_if_pos (by simp [hl]) (wpAny_bind (hx.unseen (fun y hy => ?_) ?_))
      · obtain ⟨z, z1, z2⟩ := List.mem_map.mp hy
        have z3 : z ∈ es.toList := by
          have : z ∈ es ∧ z.1 = hK P w k := by simpa using z1
          simpa using this.1
        rw [B.ents] at z3
        obtain ⟨e2, m2, rfl⟩ := List.mem_map.mp z3
        exact ⟨e2.2, e2.1, z2.symm, B.keys e2 m2⟩
      · refine wp_if_neg (by decide) ?_
        try refine wpAny_bind (wpAny_pure ?_)
        exact rest
  · have pb : t.probe (fun i => (es[i]?.map (·.1)).getD 0) (hK P w k) (pr t.mask (hK P w k) c) = some (.empty (way t.mask (hK P w k) T) none) := by
      have z := pr_j t.mask (hK P w k) c (T - c)
      rw [Nat.add_sub_cancel' le] at z
      rw [← z]
      exact q5
    rw [pb]
    refine wpAny_pure (no fun m => ?_)
    obtain ⟨e0, m0, k0⟩ := List.mem_map.mp m
    obtain ⟨i0, z0⟩ := List.mem_iff_getElem?.mp m0
    obtain ⟨r, r1, r2, r3⟩ := ah i0 e0 z0 k0
    exact q4 (r - c) i0 (by omega) (by rw [pr_j, Nat.add_sub_cancel' r1]; exact r3) ((hashes i0 e0 z0).trans (congrArg (hK P w) k0))
theorem Bag.find (B : Bag P w s.heap a L es ep t) {x : Addr} {k : Kt} (hx : At P w s.heap k x) (hu : A.units < cLine) {R : SetFound → Shared → Prop} (yes : k ∈ L.map Prod.snd → R (.there none) s)
    (no : ∀ T, k ∉ L.map Prod.snd → way t.mask (hK P w k) T ∉ t.place.toList → (∀ c, c < T → way t.mask (hK P w k) c ∈ t.place.toList) → R (.free (way t.mask (hK P w k) T) false) s) :
    wpAny (model P w) A (setSearch a (.ref x) (hK P w k) true) R E s := by
  have ln : (hs P w L).length = L.length := List.length_map _
  have air := B.air
  obtain ⟨T, t1, t2, t3⟩ := B.tab.first (by omega) (hK P w k)
  have tiny : 10 * SetTable.turns t.mask ≤ 1420 := by
    have z := B.tab.mok
    unfold MaskOk at z
    unfold SetTable.turns
    omega
  unfold setSearch
  refine B.search hx hu t1 t2 t3 yes (fun n => no T n t2 t3) 100000 0 none rfl (Nat.zero_le _) (by omega) fun i e z ke => ?_
  have z1 : (hs P w L)[i]? = some (hK P w k) := by
    unfold hs
    rw [List.getElem?_map, z, ← ke]
    rfl
  have z2 : i < t.place.toList.length := by
    rw [Array.length_toList, B.place]
    exact (List.getElem?_eq_some_iff.mp z).1
  obtain ⟨q, q1, q2⟩ := B.tab.before t2 z1 (List.getElem?_eq_getElem z2)
  exact ⟨q, Nat.zero_le _, q1, by rw [List.getElem?_eq_getElem z2, q2]⟩
end
end Fh
set_option Elab.async false
set_option linter.all false
set_option maxRecDepth 100000
set_option maxHeartbeats 2000000
namespace Fh
open PySem PySem.Spec PyProof.Rows L2
/-! ### laying a set's table anew, adding a key -/
theorem picks {α β : Type} (L : List α) (g : α → β) (d : Nat → β) (hd : ∀ i e, L[i]? = some e → d i = g e) : ∀ l : List Nat, (∀ i ∈ l, i < L.length) → (l.filterMap fun i => L[i]?).map g = l.map d
  | [], _ => rfl
  | i :: l, h => by
    have hi := List.getElem?_eq_getElem (h i (.head _))
    rw [List.filterMap_cons_some hi, List.map_cons, List.map_cons, hd i _ hi, picks L g d hd l fun j m => h j (.tail _ m)]
theorem picks_all {α : Type} (L : List α) : (List.range L.length).filterMap (fun i => L[i]?) = L := by
  have up : ∀ n, n ≤ L.length → (List.range n).filterMap (fun i => L[i]?) = L.take n := fun n => by
    induction n with
    | zero => exact fun _ => List.take_zero.symm
    | succ n ih =>
      intro h
      have e := List.getElem?_eq_getElem (show n < L.length from h)
      rw [List.range_succ, List.filterMap_append, ih (by omega), List.take_add_one, e, List.filterMap_cons_some e]
      rfl
  exact (up _ (Nat.le_refl _)).trans (List.take_length)
theorem filter_opt {α β : Type} (L : List α) (g : α → β) (l : List Nat) : (l.filterMap fun i => (L[i]?).map g) = (l.filterMap fun i => L[i]?).map g := (List.map_filterMap (f := fun i => L[i]?) (g := g) (l := l)).symm
section
variable {P : Program} {w : World} {A : Around} {E : Value → Shared → Prop} {s : Shared} {a : Addr} {L : List Ent} {es : Array (Int × Value)} {ep : Nat} {t : SetTable}
theorem rows_at (he : es.toList = L.map (rowOf P w)) (i : Nat) : es[i]? = (L[i]?).map (rowOf P w) := by
  rw [← Array.getElem?_toList, he, List.getElem?_map]
theorem reorder (he : es.toList = L.map (rowOf P w)) {order : Array Nat} (pm : order.toList.Perm (List.range L.length)) :
    ∃ M : List Ent, (order.filterMap (es[·]?)).toList = M.map (rowOf P w) ∧ M.Perm L ∧ hs P w M = order.toList.map fun i => (es.map (·.1)).getD i 0 := by
  refine ⟨order.toList.filterMap fun i => L[i]?, ?_, ?_, ?_⟩
  · have e : (order.filterMap (es[·]?)).toList = order.toList.filterMap fun i => es[i]? := by simp
    rw [e, ← filter_opt]
    congr 1
    funext i
    exact rows_at he i
  · have z := pm.filterMap fun i => L[i]?
    rwa [picks_all] at z
  · refine picks L _ _ (fun i e z => ?_) _ fun i m => List.mem_range.mp (pm.mem_iff.mp m)
    have z2 : (es.map (·.1))[i]? = some (hK P w e.2) := by
      rw [Array.getElem?_map, rows_at he, z]
      rfl
    simp [Array.getD_eq_getD_getElem?, z2]
/-- the table is laid anew, with more room -/
theorem relay {o : Obj} (o1 : s.heap.get? a = some o) (o2 : o.ExactSet) (o3 : o.data = .set es ep t) (he : es.toList = L.map (rowOf P w)) (hp : t.place.size = L.length) (hd : t.dummies = #[]) (hm : L.length ≤ t.mask)
    (uq : (L.map Prod.snd).Nodup) (ks : ∀ e ∈ L, At P w s.heap e.2 e.1) (ld : w.params.followText "set-order" = true ∨ t.led = true) (few : L.length < 64) {n M : Nat}
    (hn : SetTable.sizeAbove n = M + 1) (hM : MaskOk M) (air : 5 * L.length < 3 * M) {R : Unit → Shared → Prop}
    (q : ∀ h' L' es' ep' t', Heap.SameBut a s.heap h' → Bag P w h' a L' es' ep' t' → L'.Perm L → R () { s with heap := h' }) : wpAny (model P w) A (setRelay a n) R E s := by
  have z : es.size = L.length := by rw [← Array.length_toList, he, List.length_map]
  have fits : t.fits es.size = true := by
    simp only [SetTable.fits, SetTable.fill, hd, Bool.and_eq_true, beq_iff_eq, decide_eq_true_eq]
    refine ⟨by omega, ?_⟩
    show t.place.size + 0 ≤ t.mask
    omega
  have m128 : M ≤ 127 := by
    unfold MaskOk at hM
    omega
  obtain ⟨t', order, r1, r2, r3, r4, r5, _, _⟩ := relaid_ok t (hs := es.map (·.1)) (wanted := n) (M := M) (by omega) hM (by rw [Array.size_map]; omega)
  rw [Array.size_map, z] at r2
  obtain ⟨N, n1, n2, n3⟩ := reorder he r2
  have z2 : (order.filterMap (es[·]?)).size = es.size := by
    rw [← Array.length_toList, n1, List.length_map, n2.length_eq, z]
  rw [setRelay_eq]
  refine wpAny_bind (wpAny_setState_of o1 o3 fits ?_)
  dsimp only
  refine wp_if_neg (by rw [sizeLine_eq]; omega) ?_
  try refine wpAny_bind (wpAny_pure ?_)
  rw [r1]
  dsimp only
  refine wpAny_bind (wp_if_neg (by rw [z2]; simp) ?_)
  try refine wpAny_bind (wpAny_pure ?_)
  refine wpAny_pure ?_
  dsimp only
  have sb : Heap.SameBut a s.heap (s.heap.update a (Obj.putSet (order.filterMap (es[·]?)) t')) := Heap.SameBut.update ..
  refine wpAny_storeSet_of o1 o3 (q _ N _ (ep + 1) t' sb ⟨⟨_, store_at o1 o3, o2, rfl⟩, n1, by rw [n3]; exact r3, (n2.map Prod.snd).nodup_iff.mpr uq, fun e m => (ks e (n2.mem_iff.mp m)).beside o1 o3 sb, by rw [r5]; exact ld, ?_, ?_⟩ n2) ?_
  · rw [n2.length_eq, r4]
    exact air
  · rw [n2.length_eq]
    exact few
  · rw [z2, z, sizeLine_eq]
    omega
end
end Fh
set_option Elab.async false
set_option linter.all false
set_option maxRecDepth 100000
set_option maxHeartbeats 2000000
namespace Fh
open PySem PySem.Spec PyProof.Rows L2
section
variable {P : Program} {w : World} {A : Around} {E : Value → Shared → Prop} {s : Shared} {a : Addr} {L : List Ent} {es : Array (Int × Value)} {ep : Nat} {t : SetTable}
theorem inPerm {α : Type} (L : List α) (p : Nat) (x : α) : (L.take p ++ x :: L.drop p).Perm (x :: L) := by
  have z : (L.take p ++ x :: L.drop p).Perm (x :: (L.take p ++ L.drop p)) := List.perm_middle
  rwa [List.take_append_drop] at z
/-- the flag tells nothing of the places -/
theorem flag {t1 : SetTable} {l : List Int} (T : TabOk t1 l) (c : Bool) : TabOk (if c = true then t1 else { t1 with plain := false }) l ∧ (if c = true then t1 else { t1 with plain := false }).mask = t1.mask ∧
    (if c = true then t1 else { t1 with plain := false }).led = t1.led ∧ (if c = true then t1 else { t1 with plain := false }).fill = t1.fill := by
  cases c
  · exact ⟨⟨T.ris, T.dm, T.sz, T.mok, T.bd, T.reach⟩, rfl, rfl, rfl⟩
  · exact ⟨T, rfl, rfl, rfl⟩
/-- behind the places: the entry is stored, the table laid anew where it is too full -/
theorem Bag.store (B : Bag P w s.heap a L es ep t) {x : Addr} {k : Kt} (hx : At P w s.heap k x) (new : k ∉ L.map Prod.snd) (few : L.length + 1 < 64) {es1 : Array (Int × Value)} {N : List Ent} {t1 : SetTable} (n1 : es1.toList = N.map (rowOf P w))
    (n2 : N.Perm ((x, k) :: L)) (T : TabOk t1 (hs P w N)) (em : t1.mask = t.mask) (el : t1.led = t.led) (ef : t1.fill = L.length + 1) {R : Bool → Shared → Prop}
    (q : ∀ h' L' es' ep' t', Heap.SameBut a s.heap h' → Bag P w h' a L' es' ep' t' → L'.Perm ((x, k) :: L) → R true { s with heap := h' }) :
    wpAny (model P w) A (do storeSet a es1 t1; (if (!false && t1.tooFull) = true then (do setRelay a (SetTable.grown (es.size + 1)); pure true) else pure true)) R E s := by
  obtain ⟨o, o1, o2, o3⟩ := B.obj
  have ln : N.length = L.length + 1 := n2.length_eq
  have z1 : es1.size = L.length + 1 := by rw [← Array.length_toList, n1, List.length_map, ln]
  have air := B.air
  have uq : (N.map Prod.snd).Nodup := (n2.map Prod.snd).nodup_iff.mpr (List.nodup_cons.mpr ⟨new, B.uniq⟩)
  have ld : w.params.followText "set-order" = true ∨ t1.led = true := by
    rw [el]
    exact B.led
  have sb : Heap.SameBut a s.heap (s.heap.update a (Obj.putSet es1 t1)) := Heap.SameBut.update ..
  have ks : ∀ e ∈ N, At P w (s.heap.update a (Obj.putSet es1 t1)) e.2 e.1 := fun e m => by
    rcases List.mem_cons.mp (n2.mem_iff.mp m) with rfl | m
    · exact hx.beside o1 o3 sb
    · exact (B.keys e m).beside o1 o3 sb
  refine wpAny_bind (wpAny_storeSet_of o1 o3 ?_ (by rw [z1, sizeLine_eq]; omega))
  have full : t1.tooFull = decide (3 * t.mask ≤ 5 * (L.length + 1)) := by
    unfold SetTable.tooFull
    rw [ef, em]
    exact decide_eq_decide.mpr (by omega)
  by_cases c : 3 * t.mask ≤ 5 * (L.length + 1)
  · refine wp_if_pos (by rw [full, decide_eq_true c]; rfl) (wpAny_bind ?_)
    have go : ∀ M, SetTable.sizeAbove (SetTable.grown (es.size + 1)) = M + 1 → MaskOk M → 5 * (L.length + 1) < 3 * M → wpAny (model P w) A (setRelay a (SetTable.grown (es.size + 1))) (fun _ s' => wpAny (model P w) A (pure true) R E s') E { s with heap := s.heap.update a (Obj.putSet es1 t1) } := fun M m1 m2 m3 =>
      relay (s := { s with heap := s.heap.update a (Obj.putSet es1 t1) }) (store_at o1 o3) o2 rfl n1 (by rw [T.sz]; exact List.length_map _) T.dm (by rw [ln, em]; omega) uq ks ld (by omega) m1 m2 (by omega)
        fun h' L' es' ep' t' sb' B' pm => wpAny_pure (q h' L' es' ep' t' (sb.trans sb') B' (pm.trans n2))
    have many := B.many
    rcases B.tab.mok with e | e | e
    · exact go 31 (by rw [show es.size + 1 = 5 by omega]; exact size_20) (.inr (.inl rfl)) (by omega)
    · exact go 127 (by rw [show es.size + 1 = 19 by omega]; exact size_76) (.inr (.inr rfl)) (by omega)
    · omega
  · refine wp_if_neg (by rw [full, decide_eq_false c]; decide) ?_
    exact wpAny_pure ((q _ N es1 (ep + 1) t1 sb ⟨⟨_, store_at o1 o3, o2, rfl⟩, n1, T, uq, ks, ld, by omega, by omega⟩ n2))
theorem Bag.add (B : Bag P w s.heap a L es ep t) {x : Addr} {k : Kt} (hx : At P w s.heap k x) (hu : A.units < cLine) (few : L.length + 1 < 64) {R : Bool → Shared → Prop}
    (q : ∀ c h' L' es' ep' t', Heap.SameBut a s.heap h' → Bag P w h' a L' es' ep' t' → (k ∈ L.map Prod.snd → L' = L) → (k ∉ L.map Prod.snd → L'.Perm ((x, k) :: L)) → R c { s with heap := h' }) :
    wpAny (model P w) A (setAddHashed a (.ref x) (hK P w k)) R E s := by
  obtain ⟨o, o1, o2, o3⟩ := B.obj
  unfold setAddHashed
  refine wpAny_holding ?_
  rw [show (100000 : Nat) = Nat.succ 99999 from rfl, setAddHashedIn_succ]
  refine wpAny_bind (wpAny_setState_of o1 o3 B.fits ?_)
  dsimp only
  refine wp_if_neg (by simp [byScan, Value.scannable]) ?_
  try refine wpAny_bind (wpAny_pure ?_)
  refine wpAny_bind (B.find hx hu (fun m => wpAny_pure (q false _ L es ep t (Heap.SameBut.refl ..) B (fun _ => rfl) fun n => absurd m n)) fun T n free full => ?_)
  dsimp only
  refine wpAny_bind (wpAny_setState_of o1 o3 B.fits ?_)
  dsimp only
  obtain ⟨p1, p2, p3, p4, p5, _, _, _, p9⟩ := B.tab.put free full
  generalize ee : t.put (way t.mask (hK P w k) T) = pt at p1 p3 p4 p5 p9 ⊢
  obtain ⟨t1, p⟩ := pt
  dsimp only at p1 p3 p4 p5 p9 ⊢
  subst p1
  generalize SetTable.below t.place (way t.mask (hK P w k) T) = p at p2 p3 ⊢
  have sto : ∀ c : Bool, wpAny (model P w) A (do storeSet a (SetTable.insertAt es p (hK P w k, .ref x)) (if c = true then t1 else { t1 with plain := false }); (if (!false && (if c = true then t1 else { t1 with plain := false }).tooFull) = true then (do setRelay a (SetTable.grown (es.size + 1)); pure true) else pure true)) R E s := fun c => by
    have ln : (hs P w L).length = L.length := List.length_map _
    have T2 : TabOk t1 (hs P w (L.take p ++ (x, k) :: L.drop p)) := by
      unfold hs at p3 ⊢
      rw [List.map_append, List.map_cons, List.map_take, List.map_drop]
      exact p3
    obtain ⟨f1, f2, f3, f4⟩ := flag T2 c
    refine B.store hx n few (N := L.take p ++ (x, k) :: L.drop p) ?_ (inPerm L p _) f1 (f2.trans p4) (f3.trans p5) (by rw [f4, p9, ln]) fun h' L' es' ep' t' sb B' pm => q true h' L' es' ep' t' sb B' (fun m => absurd m n) fun _ => pm
    rw [SetTable.toList_insertAt, B.ents, List.map_append, List.map_cons, List.map_take, List.map_drop]
    rfl
  by_cases pl : t1.plain = true
  · refine wp_if_pos pl (wpAny_bind (hx.byVal fun c => ?_))
    exact sto c
  · refine wp_if_neg pl ?_
    exact wpAny_bind (wpAny_pure (sto true))
end
end Fh
set_option Elab.async false
set_option linter.all false
set_option maxRecDepth 100000
set_option maxHeartbeats 2000000
namespace Fh
open PySem PySem.Spec PyProof.Rows L2
/-! ### set(xs), xs a list of keys -/
/-- L is what the first i of xs leave -/
structure Took (xs : List Ent) (i : Nat) (L : List Ent) : Prop where
  old : ∀ e ∈ L, e ∈ xs.take i
  got : ∀ e ∈ xs.take i, e.2 ∈ L.map Prod.snd
  most : L.length ≤ i
theorem Took.none (xs : List Ent) : Took xs 0 [] := ⟨fun e m => (nomatch m), fun e m => (by simp at m), Nat.le_refl 0⟩
theorem Took.next {xs L L' : List Ent} {i : Nat} {e : Ent} (T : Took xs i L) (h : xs[i]? = some e) (h1 : e.2 ∈ L.map Prod.snd → L' = L) (h2 : e.2 ∉ L.map Prod.snd → L'.Perm (e :: L)) : Took xs (i + 1) L' := by
  have tk : xs.take (i + 1) = xs.take i ++ [e] := by
    rw [List.take_add_one, h]
    rfl
  rcases Classical.em (e.2 ∈ L.map Prod.snd) with m | m
  · rw [h1 m]
    refine ⟨fun e' m' => by rw [tk]; exact List.mem_append_left _ (T.old e' m'), fun e' m' => ?_, Nat.le_succ_of_le T.most⟩
    rw [tk] at m'
    rcases List.mem_append.mp m' with z | z
    · exact T.got e' z
    · rwa [List.mem_singleton.mp z]
  · have pm := h2 m
    refine ⟨fun e' m' => ?_, fun e' m' => (pm.map Prod.snd).mem_iff.mpr ?_, by rw [pm.length_eq]; exact Nat.succ_le_succ T.most⟩
    · rw [tk]
      rcases List.mem_cons.mp (pm.mem_iff.mp m') with z | z
      · exact List.mem_append_right _ (List.mem_singleton.mpr z)
      · exact List.mem_append_left _ (T.old e' z)
    · rw [tk] at m'
      rcases List.mem_append.mp m' with z | z
      · exact List.mem_cons_of_mem _ (T.got e' z)
      · rw [List.mem_singleton.mp z]
        exact List.mem_cons_self
/-- a set as it is made -/
abbrev noSet (w : World) : Obj := { cls := .type "set", dict := none, data := .set #[] 0 (.fresh 0 0 (!w.params.followText "set-order")) }
section
variable {P : Program} {w : World} {A : Around} {E : Value → Shared → Prop} {s : Shared}
theorem Bag.keep {h h' : Heap} {a : Addr} {L : List Ent} {es : Array (Int × Value)} {ep : Nat} {t : SetTable} (B : Bag P w h a L es ep t) (ha : ∀ o, h.get? a = some o → h'.get? a = some o) (hk : ∀ e ∈ L, At P w h' e.2 e.1) : Bag P w h' a L es ep t :=
  ⟨let ⟨o, o1, o2⟩ := B.obj; ⟨o, ha o o1, o2⟩, B.ents, B.tab, B.uniq, hk, B.led, B.air, B.few⟩
theorem Bag.new {h : Heap} {a : Addr} (e : h.get? a = some (noSet w)) : Bag P w h a [] #[] 0 (.fresh 0 0 (!w.params.followText "set-order")) where
  obj := ⟨_, e, ⟨rfl, rfl, rfl⟩, rfl⟩
  ents := rfl
  tab := ⟨.nil, rfl, rfl, .inl rfl, fun x m => (nomatch m), fun i h j z => (by simp [hs] at z)⟩
  uniq := .nil
  keys := fun e m => nomatch m
  led := by
    cases z : w.params.followText "set-order" with
    | true => exact .inl rfl
    | false => exact .inr rfl
  air := by show 5 * 0 < 3 * 7; decide
  few := by show 0 < 64; decide
/-- the items go in, one after the other -/
theorem fill {I : Addr} {fp wr : List Addr} {G : Array GenState → Array GenState → Prop} {n : Nat} {V0 : Nat → Value → Prop} {St : Nat → Shared → Prop} {R : Result → Shared → Prop} (W : WalksS P w A.in1 I fp wr G n V0 St) (S : Addr) (out : S ∉ fp)
    (xs : List Ent) (hn : n = xs.length) (few : xs.length < 64) (hv : ∀ i v, V0 i v → ∃ e, xs[i]? = some e ∧ v = .ref e.1) (h0 : Heap) (ks : ∀ e ∈ xs, At P w h0 e.2 e.1) (fS : h0.get? S = none) (fw : ∀ b ∈ wr, h0.get? b = none) (hu : A.in1.units < cLine) :
    ∀ (k i : Nat) (s : Shared), n - i = k → i ≤ n → St i s → (∀ b o, h0.get? b = some o → s.heap.get? b = some o) → (∃ L es ep t, Bag P w s.heap S L es ep t ∧ Took xs i L) →
      (∀ s' L es ep t, Moved (S :: wr) G s s' → Bag P w s'.heap S L es ep t → Took xs n L → (∀ b o, h0.get? b = some o → s'.heap.get? b = some o) → R (.ok (.ret .none)) s') →
      codeAny (model P w) A (.builtin "set.update.loop" ⟨[.ref S, .ref I], []⟩) R s := by
  have Sw : S ∉ wr := fun m => out (W.sub S m)
  have more : ∀ b ∈ wr, b ∈ S :: wr := fun b m => .tail _ m
  have stay : ∀ {s1 s2 : Shared}, Moved wr G s1 s2 → (∀ b o, h0.get? b = some o → s1.heap.get? b = some o) → ∀ b o, h0.get? b = some o → s2.heap.get? b = some o := fun mv kp b o e => mv.heap b o (fun m => by
    have z := fw b m
    rw [e] at z
    cases z) (kp b o e)
  intro k
  induction k with
  | zero =>
    intro i s d le st kp ⟨L, es, ep, t, B, T⟩ q
    obtain rfl : i = n := by omega
    refine codeAny_builtin F.entry_set_update_loop ?_
    rw [Around.under_plainId F.plain_set_update_loop _]
    show wpAny _ A.in1 (pyNext (.ref I) >>= _) _ _ s
    refine wpAny_bind (W.done s _ _ st fun s1 mv => ?_)
    have kp1 := stay mv kp
    exact wpAny_pure (q s1 L es ep t (mv.mono more) (B.keep (fun o e => mv.heap S o Sw e) fun e m => (ks e (List.mem_of_mem_take (T.old e m))).stay kp1) T kp1)
  | succ k ih =>
    intro i s d le st kp ⟨L, es, ep, t, B, T⟩ q
    refine codeAny_builtin F.entry_set_update_loop ?_
    rw [Around.under_plainId F.plain_set_update_loop _]
    show wpAny _ A.in1 (pyNext (.ref I) >>= _) _ _ s
    refine wpAny_bind (W.item i s _ _ (by omega) st fun v s1 hV st1 mv => ?_)
    obtain ⟨e, he, rfl⟩ := hv i v hV
    have kp1 := stay mv kp
    have B1 : Bag P w s1.heap S L es ep t := B.keep (fun o z => mv.heap S o Sw z) fun e m => (ks e (List.mem_of_mem_take (T.old e m))).stay kp1
    have x1 : At P w s1.heap e.2 e.1 := (ks e (List.mem_of_getElem? he)).stay kp1
    have lk := T.most
    show wpAny _ A.in1 (holding [Value.ref e.1] (setAdd S (.ref e.1)) >>= _) _ _ s1
    refine wpAny_bind (wpAny_holding ?_)
    unfold setAdd
    refine wpAny_holding (wpAny_bind (wpAny_pyHash_tuple hu x1 ?_))
    refine Bag.add (s := { s1 with toks := s1.toks + (e.2.length + 1) }) B1 x1 hu (by omega) fun c h2 L2 es2 ep2 t2 sb B2 c1 c2 => ?_
    have kp2 : ∀ b o, h0.get? b = some o → h2.get? b = some o := fun b o z => (sb.2 b fun y => by
      rw [y, fS] at z
      cases z).trans (kp1 b o z)
    refine wpAny_pure ⟨plainId_quiet F.plain_set_update_loop _, ih (i + 1) _ (by omega) (by omega) (W.frame _ s1 _ _ st1 (Nat.le_add_right _ _) fun b m o z => ?_) kp2 ⟨L2, es2, ep2, t2, B2, T.next he c1 c2⟩ fun s3 L3 es3 ep3 t3 mv3 B3 T3 kp3 => ?_⟩
    · exact (sb.2 b fun y => out (y ▸ m)).trans z
    · exact q s3 L3 es3 ep3 t3 (Moved.trans W.gtrans ((mv.mono more).then_heap (Nat.le_add_right _ _) fun b o m z => (sb.2 b fun y => m (y ▸ List.mem_cons_self)).trans z) mv3) B3 T3 kp3
end
end Fh
set_option Elab.async false
set_option linter.all false
set_option maxRecDepth 100000
set_option maxHeartbeats 4000000
namespace Fh
open PySem PySem.Spec PyProof.Rows L2
section
variable {P : Program} {w : World} {A : Around} {E : Value → Shared → Prop} {s : Shared}
theorem bag_call {l : Addr} {its : Array Value} (xs : List Ent) {Q : Value → Shared → Prop} (hh : A.handled = none) (hl : s.heap.IsList l its) (hi : its.toList = xs.map fun e => Value.ref e.1)
    (ks : ∀ e ∈ xs, At P w s.heap e.2 e.1) (few : xs.length < 64) (hu : A.units + 3 < cLine)
    (q : ∀ (h' : Heap) (tk : Nat) L es ep t, Bag P w h' s.heap.objs.size L es ep t → Took xs xs.length L → (∀ b o, s.heap.get? b = some o → h'.get? b = some o) → Q (.ref s.heap.objs.size) { s with heap := h', toks := tk }) :
    wpAny (model P w) A (call (.type "set") [.ref l]) Q E s := by
  have many : its.size = xs.length := by rw [← Array.length_toList, hi, List.length_map]
  obtain ⟨c0, tl0, mro0⟩ := F.called_set.mro
  have made0 := F.called_set.made
  have sub0 := F.called_set.sub
  refine wpAny_call (codeAny_of_tree ?_)
  show wpAny _ _ (callAny (.type "set") _) _ _ _
  refine wpAny_pure ⟨Code.quiet_builtin _ (by decide +kernel), codeAny_builtin F.entry_type_call ?_⟩
  rw [Around.under_plain (weight_type_call_type "set" [.ref l] []) rfl]
  have nt0 := F.called_set.notType
  have cc0 := F.called_set.canCreate
  have tc0 := F.typeCall_set_1 (.ref l)
  repeat (any_goals (first | assumption | wp_step))
  refine codeAny_mono (code_set_led1 (.ref l) (E := E) (Q₁ := fun v s1 => v = .ref s.heap.objs.size ∧ s1 = { s with heap := s.heap.push (noSet w) }) ⟨rfl, rfl⟩) fun r s1 hr => ?_
  rcases r with e | fl
  · exact hr
  rcases fl with _ | _ | _ | v
  case ok.next => exact hr.elim
  case ok.brk => exact hr.elim
  case ok.cont => exact hr.elim
  obtain ⟨rfl, rfl⟩ := hr
  have atS : (s.heap.push (noSet w)).get? s.heap.objs.size = some (noSet w) := Heap.get?_push_size _ rfl
  have tyS : Shared.TypeIs { s with heap := s.heap.push (noSet w) } (.ref s.heap.objs.size) "set" := ⟨_, atS, rfl⟩
  have li0 := F.called_set.init.lookup
  have bi0 := F.called_set.init.bind (.ref s.heap.objs.size)
  repeat (any_goals (first | assumption | wp_step))
  refine codeAny_mono (codeAny_call_builtin (R := wants (fun v s2 => v = .none ∧ ∃ h' tk L es ep t, s2 = { s with heap := h', toks := tk } ∧ Bag P w h' s.heap.objs.size L es ep t ∧ Took xs xs.length L ∧ ∀ b o, s.heap.get? b = some o → h'.get? b = some o) E)
    F.called_set.init.plain F.entry_set_init (check_set_init_1 tyS ?body)) fun r2 s2 hr2 => ?fin
  case fin =>
    rcases r2 with e | fl2
    · exact hr2
    rcases fl2 with _ | _ | _ | v
    case ok.next => exact hr2.elim
    case ok.brk => exact hr2.elim
    case ok.cont => exact hr2.elim
    obtain ⟨rfl, h', tk, L, es, ep, t, rfl, B, T, kp⟩ := hr2
    repeat (any_goals (first | assumption | wp_step))
    exact q _ _ _ _ _ _ B T kp
  case body =>
    obtain ⟨ol, l1, l2, n1, l3⟩ := hl
    obtain ⟨cl1, di1, da1, sl1⟩ := ol
    simp only at l2 l3
    subst l2; subst l3
    have atL : (s.heap.push (noSet w)).get? l = some { cls := .type "list", dict := di1, data := .seq its n1, slots := sl1 } := Heap.get?_push_of_some _ l1
    have noS := F.sub_list_set
    have noF := F.sub_list_frozenset
    have noD : (Value.type "list" == Value.type "dict") = false := by decide
    have isL : (s.heap.push (noSet w)).IsList l its := ⟨_, atL, rfl, n1, rfl⟩
    unfold Builtin.«set.__init__» noKeywords Builtin.Frozenset.updateFrom
    generalize gPI : pyIter = PI
    wp_walk
    subst gPI
    refine wpAny_pyIter_list isL ?_
    refine wpAny_bind (wpAny_runValue ?_)
    have lS : l < s.heap.objs.size := Heap.lt_size l1
    have sz : (s.heap.push (noSet w)).objs.size = s.heap.objs.size + 1 := Heap.size_push ..
    have new : ∀ b, s.heap.objs.size ≤ b → s.heap.get? b = none := fun b hb => by
      cases z : s.heap.get? b with
      | none => rfl
      | some o =>
        exact absurd (Nat.lt_of_lt_of_le (Heap.lt_size z) hb) (Nat.lt_irrefl _)
    have hv : ∀ (i : Nat) (v : Value), its[i]? = some v → ∃ e, xs[i]? = some e ∧ v = .ref e.1 := fun i v z => by
      rw [← Array.getElem?_toList, hi, List.getElem?_map] at z
      obtain ⟨e, z1, z2⟩ := Option.map_eq_some_iff.mp z
      exact ⟨e, z1, z2.symm⟩
    refine fill ((Walks.list (by simp [hh]) (s.heap.push (noSet w)).objs.size l (by rw [sz]; exact Nat.ne_of_lt (Nat.lt_succ_of_lt lS)) its).toS) s.heap.objs.size ?o xs many few hv s.heap ks (new _ (Nat.le_refl _)) (fun b m => new b (by rw [List.mem_singleton.mp m, sz]; exact Nat.le_succ _)) hu (its.size - 0) 0 _ rfl (Nat.zero_le _)
      ⟨⟨_, Heap.get?_push_size _ rfl, rfl, rfl⟩, isL.push _⟩ (fun b o z => Heap.get?_push_of_some _ (Heap.get?_push_of_some _ z)) ?b0 ?r0
    case o =>
      rw [sz]
      simp only [List.mem_cons, List.not_mem_nil, or_false, not_or]
      exact ⟨Nat.ne_of_lt (Nat.lt_succ_self _), Nat.ne_of_gt lS⟩
    case b0 => exact ⟨[], #[], 0, _, Bag.new (Heap.get?_push_of_some _ atS), Took.none xs⟩
    case r0 =>
      intro s' L es ep t mv B T kp
      obtain ⟨h', g', d', tk', os'⟩ := s'
      obtain rfl : g' = s.gens := mv.gens
      obtain rfl : d' = s.drawn := mv.drawn
      obtain rfl : os' = s.os := mv.os
      show wpAny _ _ _ _ _ _
      refine wpAny_pure ?_
      show wpAny _ _ (ret Value.none) _ _ _
      rw [many] at T
      exact wpAny_pure ⟨rfl, h', tk', L, es, ep, t, rfl, B, T, kp⟩
end
end Fh
set_option Elab.async false
set_option linter.all false
set_option maxRecDepth 100000
set_option maxHeartbeats 2000000
namespace Fh
open PySem PySem.Spec PyProof.Rows L2
/-! ### sorting keys: a number, a sign, a number -/
structure Tri where
  i : Nat
  c : Nat
  j : Nat
def sgn (c : Nat) : Str := ⟨#[c]⟩
def Tri.key (τ : Tri) : Kt := [.inl (τ.i : Int), .inr (sgn τ.c), .inl (τ.j : Int)]
structure Tri.Ok (τ : Tri) : Prop where
  c : τ.c < 128
  j : τ.j < 64
/-- its place among all -/
def Tri.rk (τ : Tri) : Int := (τ.i : Int) * 8192 + (τ.c : Int) * 64 + (τ.j : Int)
theorem sgn_inj {a b : Nat} (h : sgn a = sgn b) : a = b := by
  have z := congrArg (fun x : Str => x.cps.toList) h
  simpa [sgn] using z
theorem key_inj {τ υ : Tri} (h : τ.key = υ.key) : τ = υ := by
  obtain ⟨i, c, j⟩ := τ
  obtain ⟨i', c', j'⟩ := υ
  unfold Tri.key at h
  injection h with h1 h
  injection h with h2 h
  injection h with h3 h
  injection h1 with h1
  injection h2 with h2
  injection h3 with h3
  have e2 : c = c' := sgn_inj h2
  have e1 : i = i' := Int.ofNat.inj h1
  have e3 : j = j' := Int.ofNat.inj h3
  subst e1
  subst e2
  subst e3
  rfl
section
variable {P : Program} {w : World} {A : Around} {E : Value → Shared → Prop} {s : Shared}
theorem key_items {τ : Tri} {us : List Value} (h : ItemsAre (mixKind P w) τ.key us) : ∃ t1 t2 t3, us = [Value.int τ.i t1, Value.str (sgn τ.c) t2, Value.int τ.j t3] := by
  unfold Tri.key at h
  cases h with
  | cons h1 h =>
  cases h with
  | cons h2 h =>
  cases h with
  | cons h3 h =>
  cases h
  rcases keyIs_shape (show keyIs (.inl (τ.i : Int)) _ = true from h1) with ⟨_, t1, e1, rfl⟩ | ⟨_, _, e1, _⟩
  · rcases keyIs_shape (show keyIs (.inr (sgn τ.c)) _ = true from h2) with ⟨_, _, e2, _⟩ | ⟨_, t2, e2, rfl⟩
    · cases e2
    · rcases keyIs_shape (show keyIs (.inl (τ.j : Int)) _ = true from h3) with ⟨_, t3, e3, rfl⟩ | ⟨_, _, e3, _⟩
      · cases e1
        cases e2
        cases e3
        exact ⟨t1, t2, t3, rfl⟩
      · cases e3
  · cases e1
theorem lex3 {Q : Bool → Shared → Prop} {b : Bool} {τ υ : Tri} (o1 : τ.Ok) (o2 : υ.Ok) {t1 t2 t3 u1 u2 u3 : Tok} (h : Q (decide (τ.rk < υ.rk)) s) :
    PySem.W.KatLex P w A b false Q [(Value.int τ.i t1, Value.int υ.i u1), (Value.str (sgn τ.c) t2, Value.str (sgn υ.c) u2), (Value.int τ.j t3, Value.int υ.j u3)] 0 s := by
  obtain ⟨i, c, j⟩ := τ
  obtain ⟨i', c', j'⟩ := υ
  obtain ⟨a1, a2⟩ := o1
  obtain ⟨b1, b2⟩ := o2
  unfold Tri.rk at h
  dsimp only at a1 a2 b1 b2 h ⊢
  refine PySem.W.kat_cons (wpAny_eqBool_int ?_)
  by_cases e1 : i = i'
  · subst e1
    rw [beq_self_eq_true]
    refine PySem.W.kat_yes (PySem.W.kat_cons (wpAny_eqBool_str ?_))
    by_cases e2 : c = c'
    · subst e2
      rw [decide_eq_true (rfl : sgn c = sgn c)]
      refine PySem.W.kat_yes (PySem.W.kat_cons (wpAny_eqBool_int ?_))
      by_cases e3 : j = j'
      · subst e3
        rw [beq_self_eq_true]
        refine PySem.W.kat_yes (PySem.W.kat_nil ?_)
        rwa [decide_eq_false (by omega)] at h
      · rw [show ((j : Int) == (j' : Int)) = false from beq_eq_false_iff_ne.mpr (by omega)]
        refine PySem.W.kat_no (TS.oneLt_ints _ ?_)
        rw [show decide ((j : Int) < (j' : Int)) = decide ((i : Int) * 8192 + (c : Int) * 64 + (j : Int) < (i : Int) * 8192 + (c : Int) * 64 + (j' : Int)) from decide_eq_decide.mpr (by omega)]
        exact h
    · rw [decide_eq_false (fun z => e2 (sgn_inj z))]
      refine PySem.W.kat_no ?_
      rw [show (b && (0 + 1 == 0)) = false by cases b <;> rfl]
      refine (PySem.W.kat_one _ _ (PyProof.Rows.lt_str (Q := PySem.W.BoolBack Q) ?_))
      have z : decide ((sgn c).cps.toList < (sgn c').cps.toList) = decide ((i : Int) * 8192 + (c : Int) * 64 + (j : Int) < (i : Int) * 8192 + (c' : Int) * 64 + (j' : Int)) := by
        have y : ((sgn c).cps.toList < (sgn c').cps.toList) ↔ c < c' := by
          show [c] < [c'] ↔ c < c'
          simp [List.cons_lt_cons_iff]
        exact decide_eq_decide.mpr (y.trans (by omega))
      show Q (decide _) s
      rw [z]
      exact h
  · rw [show ((i : Int) == (i' : Int)) = false from beq_eq_false_iff_ne.mpr (by omega)]
    refine PySem.W.kat_no (TS.oneLt_ints _ ?_)
    rw [show decide ((i : Int) < (i' : Int)) = decide ((i : Int) * 8192 + (c : Int) * 64 + (j : Int) < (i' : Int) * 8192 + (c' : Int) * 64 + (j' : Int)) from decide_eq_decide.mpr (by omega)]
    exact h
end
end Fh
set_option Elab.async false
set_option linter.all false
set_option maxRecDepth 100000
set_option maxHeartbeats 2000000
namespace Fh
open PySem PySem.Spec PyProof.Rows L2
/-! ### the sort's kind, list.sort -/
def Has (P : Program) (w : World) (h : Heap) (v : Value) (τ : Tri) : Prop := ∃ b, v = .ref b ∧ At P w h τ.key b
section
variable {P : Program} {w : World} {A : Around} {E : Value → Shared → Prop} {s : Shared}
theorem Has.one {h : Heap} {v : Value} {τ υ : Tri} (x : Has P w h v τ) (y : Has P w h v υ) : τ = υ := by
  obtain ⟨b, rfl, x⟩ := x
  obtain ⟨c, e, y⟩ := y
  cases e
  exact key_inj (x.inj y)
theorem Has.raw {h : Heap} {v : Value} {τ : Tri} (x : Has P w h v τ) : ∃ b o n t1 t2 t3, v = .ref b ∧ h.get? b = some o ∧ o.cls = .type "tuple" ∧ o.data = .seq #[Value.int τ.i t1, Value.str (sgn τ.c) t2, Value.int τ.j t3] n := by
  obtain ⟨b, rfl, o, its, n, e1, e2, e3, e4⟩ := x
  obtain ⟨t1, t2, t3, e5⟩ := key_items e4
  have e6 : its = #[Value.int τ.i t1, Value.str (sgn τ.c) t2, Value.int τ.j t3] := by
    rw [← Array.toArray_toList (xs := its), e5]
  exact ⟨b, o, n, t1, t2, t3, rfl, e1, e2, e6 ▸ e3⟩
theorem Has.stay {h h' : Heap} {v : Value} {τ : Tri} (x : Has P w h v τ) (kp : ∀ b o, h.get? b = some o → o.cls = .type "tuple" → h'.get? b = some o) : Has P w h' v τ := by
  obtain ⟨b, rfl, o, its, n, e1, e2, r⟩ := x
  exact ⟨b, rfl, o, its, n, kp b o e1 e2, e2, r⟩
theorem heads {h : Heap} : ∀ vs : List Value, (∀ v ∈ vs, ∃ τ, Has P w h v τ) → ∃ fs, PySem.W.KatTups h vs fs ∧ fs.length = vs.length ∧ ∀ f ∈ fs, ∃ n t, f = Value.int n t
  | [], _ => ⟨[], .nil, rfl, fun f m => (nomatch m)⟩
  | v :: vs, x => by
    obtain ⟨fs, f1, f2, f3⟩ := heads vs fun u m => x u (.tail _ m)
    obtain ⟨τ, y⟩ := x v (.head _)
    obtain ⟨b, o, n, t1, t2, t3, rfl, e1, e2, e3⟩ := y.raw
    refine ⟨Value.int τ.i t1 :: fs, .cons e1 e2 e3 rfl f1, by rw [List.length_cons, List.length_cons, f2], fun f m => ?_⟩
    rcases List.mem_cons.mp m with rfl | m
    · exact ⟨_, _, rfl⟩
    · exact f3 f m
theorem kindT {vs : List Value} (many : 2 ≤ vs.length) (x : ∀ v ∈ vs, ∃ τ : Tri, Has P w s.heap v τ ∧ τ.Ok) (r : Value → Int) (hr : ∀ v ∈ vs, ∀ τ, Has P w s.heap v τ → r v = τ.rk) (Q : SortKind → Shared → Prop) (q : ∀ κ, TS.Cmp P w A s κ (pairsOf vs) r → Q κ s) :
    wpAny (model P w) A (keyKind' vs.toArray) Q E s := by
  obtain ⟨fs, f1, f2, f3⟩ := heads (P := P) (w := w) vs fun v m => (x v m).imp fun _ z => z.1
  refine PySem.W.kat_kind (T := Value.type "int") f1 (by omega) (fun f m => ?_) rfl (q _ fun a b ma mb Q' E' k => ?_)
  · obtain ⟨n, t, rfl⟩ := f3 f m
    exact PySem.W.Looks.of_pure rfl
  rw [pairsOf_toList] at ma mb
  have m1 := (mem_zip_self ma).2
  have m2 := (mem_zip_self mb).2
  obtain ⟨τ, x1, o1⟩ := x _ m1
  obtain ⟨υ, x2, o2⟩ := x _ m2
  rw [hr _ m1 τ x1, hr _ m2 υ x2] at k
  obtain ⟨b1, p1, n1, t1, t2, t3, e1, g1, _, d1⟩ := x1.raw
  obtain ⟨b2, p2, n2, u1, u2, u3, e2, g2, _, d2⟩ := x2.raw
  rw [e1, e2]
  exact PySem.W.kat_lt g1 d1 g2 d2 (lex3 o1 o2 k)
open Classical in
/-- the place of what stands at v -/
noncomputable def place (P : Program) (w : World) (h : Heap) (v : Value) : Int := if z : ∃ τ, Has P w h v τ then (choose z).rk else 0
theorem place_is {h : Heap} {v : Value} {τ : Tri} (x : Has P w h v τ) : place P w h v = τ.rk := by
  have z : ∃ τ, Has P w h v τ := ⟨τ, x⟩
  unfold place
  rw [dif_pos z, (Classical.choose_spec z).one x]
theorem sortT {a : Addr} {vs : List Value} {n : Nat} {Q : Value → Shared → Prop} (ho : s.heap.get? a = some (seqObj "list" vs.toArray n)) (few : vs.length < 64) (x : ∀ v ∈ vs, ∃ τ : Tri, Has P w s.heap v τ ∧ τ.Ok)
    (q : ∀ out : Array Value, out.toList.Perm vs → out.toList.Pairwise (fun u v => place P w s.heap u ≤ place P w s.heap v) → Q .none { s with heap := sortedHeap s.heap a vs out }) :
    wpAny (model P w) A (call (.builtin "list.sort") [.ref a]) Q E s := by
  have kp : ∀ b o, s.heap.get? b = some o → o.cls = .type "tuple" → (TS.midHeap s.heap a vs).get? b = some o := fun b o e c => TS.midHeap_old (fun z => by
    rw [z, ho] at e
    cases e
    exact absurd (Value.type.inj c) (by decide)) e
  refine wpAny_call_entry slot_list_sort ⟨_, ho, rfl⟩ entry_list_sort (SK.plain_sort (r := place P w s.heap) ho few (fun m Q' k => ?_) fun ps out h1 h2 h3 => ?_) (args_list_sort _)
  · refine kindT (s := { s with heap := TS.midHeap s.heap a vs }) m (fun v mv => ?_) _ (fun v mv τ y => ?_) Q' k
    · obtain ⟨τ, y, o⟩ := x v mv
      exact ⟨τ, y.stay kp, o⟩
    · obtain ⟨υ, z, _⟩ := x v mv
      rw [place_is z, (z.stay kp).one y]
  · obtain ⟨p1, p2⟩ := TS.out_rank h1 h2 h3
    exact ⟨_, rfl, q out p1 p2⟩
end
end Fh
set_option Elab.async false
set_option linter.all false
set_option maxRecDepth 100000
set_option maxHeartbeats 2000000
namespace Fh
open PySem PySem.Spec PyProof.Rows L2
/-! ### sorted(set) -/
theorem perm_map {α β : Type} (f : α → β) : ∀ (l : List β) (L : List α), l.Perm (L.map f) → ∃ M : List α, M.Perm L ∧ l = M.map f
  | [], L, h => by
    have z := h.length_eq
    rw [List.length_map, List.length_nil] at z
    obtain rfl : L = [] := List.eq_nil_of_length_eq_zero z.symm
    exact ⟨[], .refl _, rfl⟩
  | x :: l, L, h => by
    obtain ⟨e, m, rfl⟩ := List.mem_map.mp (h.mem_iff.mp (.head _))
    obtain ⟨A, B, rfl⟩ := List.append_of_mem m
    have p : (A ++ e :: B).Perm (e :: (A ++ B)) := List.perm_middle
    obtain ⟨M, m1, rfl⟩ := perm_map f l (A ++ B) ((h.trans (p.map f)).cons_inv)
    exact ⟨e :: M, (m1.cons e).trans p.symm, rfl⟩
section
variable {P : Program} {w : World} {A : Around} {E : Value → Shared → Prop} {s : Shared}
/-- the triples of the entries -/
def Tris (L : List Ent) (τs : List Tri) : Prop := L.map Prod.snd = τs.map Tri.key
theorem sorted_bag {a : Addr} {L : List Ent} {es : Array (Int × Value)} {ep : Nat} {t : SetTable} {Q : Value → Shared → Prop} (B : Bag P w s.heap a L es ep t) (hh : A.handled = none) (tri : ∀ e ∈ L, ∃ τ : Tri, e.2 = τ.key ∧ τ.Ok)
    (q : ∀ s' p (out : Array Value) (c : Nat) (M : List Ent), (∀ b o, s.heap.get? b = some o → s'.heap.get? b = some o) → s'.gens = s.gens → s'.os = s.os → s.heap.objs.size ≤ p → s'.heap.get? p = some (seqObj "list" out c) → out.toList = M.map (fun e => Value.ref e.1) → M.Perm L →
      (M.Pairwise fun e f => ∀ τ υ : Tri, e.2 = τ.key → f.2 = υ.key → τ.rk ≤ υ.rk) → Q (.ref p) s') : wpAny (model P w) A (call (.builtin "sorted") [.ref a]) Q E s := by
  obtain ⟨o, o1, o2, o3⟩ := B.obj
  have many := B.many
  have few := B.few
  refine Calls.call_function_entry kind_sorted plain_sorted entry_sorted (args_sorted1 _) ?_
  unfold Builtin.«sorted»
  refine wpAny_bind (m := checkCount "sorted" 1 1 _) (wpAny_pure ?_)
  refine wpAny_bind (collect_set (A := A.in1) hh ⟨o, o1, o2.1, o3⟩ B.fits (by unfold scanBound; omega) B.tab.ris B.led fun s1 vs k1 sz g1 g2 pm => ?_)
  rw [B.ents, List.map_map, show (Prod.snd ∘ rowOf P w) = (fun e : Ent => Value.ref e.1) from rfl] at pm
  have lv : vs.length = L.length := by rw [pm.length_eq, List.length_map]
  refine wpAny_bind (wpAny_newList ?_ (by rw [sizeLine_eq]; omega))
  have atL : (s1.heap.push (seqObj "list" vs.toArray 0)).get? s1.heap.objs.size = some (seqObj "list" vs.toArray 0) := Heap.get?_push_size _ rfl
  have k2 : ∀ b u, s.heap.get? b = some u → (s1.heap.push (seqObj "list" vs.toArray 0)).get? b = some u := fun b u e => Heap.get?_push_of_some _ (k1 b u e)
  have hasL : ∀ e ∈ L, ∀ τ : Tri, e.2 = τ.key → Has P w (s1.heap.push (seqObj "list" vs.toArray 0)) (.ref e.1) τ := fun e m τ z => ⟨e.1, rfl, z ▸ (B.keys e m).stay k2⟩
  refine wpAny_bind (wpAny_holding (sortT (s := { s1 with heap := s1.heap.push (seqObj "list" vs.toArray 0) }) atL (by omega) (fun v mv => ?_) fun out p1 p2 => ?_))
  · obtain ⟨e, m, rfl⟩ := List.mem_map.mp (pm.mem_iff.mp mv)
    obtain ⟨τ, z, ok⟩ := tri e m
    exact ⟨τ, hasL e m τ z, ok⟩
  · obtain ⟨M, m1, m2⟩ := perm_map _ _ _ (p1.trans pm)
    obtain ⟨c, hc⟩ := sortedHeap_at (vs := vs) (out := out) atL
    refine wpAny_pure ⟨_, rfl, q _ s1.heap.objs.size out c M (fun b u e => ?_) g1 g2 sz hc m2 m1 ?_⟩
    · have z := k1 b u e
      have lt := Heap.lt_size z
      show (sortedHeap (s1.heap.push (seqObj "list" vs.toArray 0)) s1.heap.objs.size vs out).get? b = some u
      rw [sortedHeap_old (Nat.ne_of_lt lt) (by rw [size_push']; exact Nat.lt_succ_of_lt lt)]
      exact Heap.get?_push_of_some _ z
    · rw [m2] at p2
      refine List.Pairwise.imp_of_mem (fun {e f} me mf z τ υ e1 e2 => ?_) (List.pairwise_map.mp p2)
      rw [place_is (hasL e (m1.mem_iff.mp me) τ e1), place_is (hasL f (m1.mem_iff.mp mf) υ e2)] at z
      exact z
end
end Fh
set_option Elab.async false
set_option linter.all false
set_option maxRecDepth 100000
set_option maxHeartbeats 2000000
namespace Fh
open PySem PySem.Spec PyProof.Rows L2
/-! ### set(..) and sorted(..) as calls -/
/-- the set at a, its tuples apart -/
def Bag0 (P : Program) (w : World) (h : Heap) (a : Addr) (L : List Ent) : Prop := ∃ (es : Array (Int × Value)) (ep : Nat) (t : SetTable), (∃ o, h.get? a = some o ∧ o.ExactSet ∧ o.data = .set es ep t) ∧ es.toList = L.map (rowOf P w) ∧
  TabOk t (hs P w L) ∧ (L.map Prod.snd).Nodup ∧ (w.params.followText "set-order" = true ∨ t.led = true) ∧ 5 * L.length < 3 * t.mask ∧ L.length < 64
def BagO (P : Program) (w : World) (a : Addr) (L : List Ent) : HO := .ext fun h => Bag0 P w h a L
theorem Bag.apart {P : Program} {w : World} {h : Heap} {a : Addr} {L : List Ent} {es : Array (Int × Value)} {ep : Nat} {t : SetTable} (B : Bag P w h a L es ep t) : Bag0 P w h a L := ⟨es, ep, t, B.obj, B.ents, B.tab, B.uniq, B.led, B.air, B.few⟩
theorem bagO_ok {P : Program} {w : World} {H : Hp} {h : Heap} {a : Addr} {L : List Ent} (B : Bag0 P w h a L) : ObjOk P w H h a (BagO P w a L) := by
  have B' := B
  obtain ⟨_, _, _, ⟨o, e, _⟩, _⟩ := B'
  refine ⟨B, ⟨o, e⟩, fun h1 h2 b k => ?_⟩
  obtain ⟨es, ep, t, ⟨o, e, r⟩, z⟩ := b
  exact ⟨es, ep, t, ⟨o, k o e, r⟩, z⟩
section
variable {X : Cx}
theorem at_of {pins : List (Addr × Obj)} {σ : L2.St} {H : Hp} {s : Shared} {b : Addr} {k : Kt} (I : Inv X pins σ H s) (h : SqT X.K H b (k.map kV)) : At X.prog X.w s.heap k b := by
  obtain ⟨its, r, ⟨o, e1, e2, n, e3⟩, _⟩ := I.tuple h
  exact ⟨o, its.toArray, n, e1, e2, e3, by simpa using items_are r⟩
theorem ref_vals : ∀ (L : List Ent), Vals (L.map fun e => V.ref e.1) (L.map fun e => Value.ref e.1)
  | [] => .nil
  | e :: L => .cons rfl (ref_vals L)
theorem vals_ref : ∀ {L : List Ent} {us : List Value}, Vals (L.map fun e => V.ref e.1) us → us = L.map fun e => Value.ref e.1
  | [], _, .nil => rfl
  | e :: L, _, .cons r t => by
    cases r
    rw [vals_ref t]
    rfl
def rBag (K : PySem.W.Frag) (P : Program) (w : World) : List V → Hp → VK → Prop := fun xs H Q => ∃ (l : Addr) (ks : List Ent), xs = [.ref l] ∧ SqL K H l (ks.map fun e => V.ref e.1) ∧ (∀ e ∈ ks, SqT K H e.1 (e.2.map kV)) ∧ ks.length < 64 ∧
  ∀ a L, H a = none → (∀ e ∈ L, e ∈ ks) → (∀ e ∈ ks, e.2 ∈ L.map Prod.snd) → Q (.ref a) (upd H a (BagO P w a L))
theorem cr_bag (hc : X.calm = true) (hu : X.A.units + 64 < cLine) : CallR X (.type "set") (rBag X.K X.prog X.w) := by
  intro pins s σ H xs us Q I r h
  obtain ⟨l, ks, rfl, hl, hk, few, q⟩ := h
  obtain ⟨u, rfl, ru⟩ := r.one
  cases ru
  obtain ⟨its, rv, pl, _⟩ := I.list hl
  refine bag_call (P := X.prog) (w := X.w) ks (I.ok.hd hc) pl.isList (by simpa using vals_ref rv) (fun e m => at_of I (hk e m)) few (by omega) fun h' tk L es ep t B T kp => ?_
  refine ⟨.ref s.heap.objs.size, _, I.laid (t' := tk) kp (Nat.le_refl _) (bagO_ok B.apart), rfl, q _ L (I.hok.fresh (Nat.le_refl _)) (fun e m => List.mem_of_mem_take (T.old e m)) fun e m => T.got e ?_⟩
  rw [List.take_length]
  exact m
def rSortBag (K : PySem.W.Frag) (P : Program) (w : World) : List V → Hp → VK → Prop := fun xs H Q => ∃ (a : Addr) (L : List Ent), xs = [.ref a] ∧ H a = some (BagO P w a L) ∧ (∀ e ∈ L, SqT K H e.1 (e.2.map kV)) ∧ (∀ e ∈ L, ∃ τ : Tri, e.2 = τ.key ∧ τ.Ok) ∧
  ∀ (M : List Ent) (p : Addr), M.Perm L → (M.map Prod.snd).Nodup → (M.Pairwise fun e f => ∀ τ υ : Tri, e.2 = τ.key → f.2 = υ.key → τ.rk ≤ υ.rk) → H p = none → Q (.ref p) (upd H p (.lst (M.map fun e => V.ref e.1)))
theorem cr_sortBag (hc : X.calm = true) : CallR X (.builtin "sorted") (rSortBag X.K X.prog X.w) := by
  intro pins s σ H xs us Q I r h
  obtain ⟨a, L, rfl, ha, hk, tri, q⟩ := h
  obtain ⟨u, rfl, ru⟩ := r.one
  cases ru
  obtain ⟨es, ep, t, b1, b2, b3, b4, b5, b6, b7⟩ : Bag0 X.prog X.w s.heap a L := (I.hok a _ ha).1
  have B : Bag X.prog X.w s.heap a L es ep t := ⟨b1, b2, b3, b4, fun e m => at_of I (hk e m), b5, b6, b7⟩
  refine sorted_bag B (I.ok.hd hc) tri fun s' p out c M k g o hp hat hout pm pw => ?_
  have new : H p = none := I.hok.fresh hp
  have ob : ObjOk X.prog X.w (upd H p (.lst (M.map fun e => V.ref e.1))) s'.heap p (.lst (M.map fun e => V.ref e.1)) := ⟨by rw [List.length_map, pm.length_eq, sizeLine_eq]; omega, out.toList, c, by rw [hout]; exact ref_vals M, hat⟩
  have J : Inv X pins σ (upd H p (.lst (M.map fun e => V.ref e.1))) { s with heap := s'.heap, gens := s'.gens, drawn := s'.drawn, toks := s'.toks } :=
    I.call (ch := []) (Un.laid k hp new) (I.hok.laid k hp ob) (by rw [g]; exact I.bare) (fun _ z => nomatch z)
  have e : s' = { s with heap := s'.heap, gens := s'.gens, drawn := s'.drawn, toks := s'.toks } := by
    obtain ⟨_, _, _, _, _⟩ := s'
    cases o
    rfl
  rw [e]
  exact ⟨.ref p, _, J, rfl, q M p pm ((pm.map Prod.snd).nodup_iff.mpr B.uniq) pw new⟩
end
end Fh
set_option Elab.async false
set_option linter.all false
set_option maxRecDepth 100000
set_option maxHeartbeats 2000000
namespace Fh
open PySem PySem.Spec PyProof.Rows L2
/-! ### == of two lists of data -/
def nD (n : Nat) : PyData := .int (n : Int)
def tD (τ : Tri) : PyData := .tuple [.int (τ.i : Int), .str (sgn τ.c), .int (τ.j : Int)]
section
variable {X : Cx}
def LsD (K : PySem.W.Frag) (H : Hp) (x : V) (ds : List PyData) : Prop := ∃ (a : Addr) (xs : List V), x = .ref a ∧ SqL K H a xs ∧ DvAll K H xs ds
theorem LsD.read {pins : List (Addr × Obj)} {σ : L2.St} {H : Hp} {s : Shared} {x : V} {u : Value} {ds : List PyData} (I : Inv X pins σ H s) (h : LsD X.K H x ds) (r : RelV x u) : ∃ as, Reads s.heap u (.list ds) as := by
  obtain ⟨a, xs, rfl, hq, ga⟩ := h
  cases r
  obtain ⟨its, rv, ⟨o, n, ho, hc, _, hd⟩, _⟩ := I.list hq
  obtain ⟨as, hr, _⟩ := Dv.readsAll I ds _ its ga rv
  exact ⟨_, Reads.list ho hc hd hr⟩
def rEqL (K : PySem.W.Frag) : R2 := fun x y H Q => ∃ ds es, LsD K H x ds ∧ LsD K H y es ∧ SeqAt.shaped (.list ds) = true ∧ SeqAt.shaped (.list es) = true ∧ Q (.bl (PyData.eqvAll ds es)) H
theorem op_eqL (hu : X.A.units + 64 < cLine) : OpR X (compareOp .Eq) (rEqL X.K) := by
  intro pins s σ H x y v u Q I rx ry h
  obtain ⟨ds, es, hd, he, sd, se, q⟩ := h
  obtain ⟨as, r1⟩ := hd.read I rx
  obtain ⟨bs, r2⟩ := he.read I ry
  exact SeqAt.compareEq_shaped r1 r2 sd se hu ⟨.bl _, H, I, rfl, q⟩
end
theorem eqv_by {α : Type} [DecidableEq α] (g : α → PyData) (hg : ∀ a b, PyData.eqv (g a) (g b) = decide (a = b)) : ∀ xs ys : List α, PyData.eqvAll (xs.map g) (ys.map g) = decide (xs = ys)
  | [], [] => rfl
  | [], _ :: _ => rfl
  | _ :: _, [] => rfl
  | x :: xs, y :: ys => by
    show (PyData.eqv (g x) (g y) && PyData.eqvAll (xs.map g) (ys.map g)) = _
    rw [eqv_by g hg xs ys, hg]
    by_cases e : x = y
    · subst e
      simp
    · rw [decide_eq_false e, Bool.false_and]
      exact (decide_eq_false fun z => e (by injection z)).symm
instance : DecidableEq Tri := fun a b => decidable_of_iff (a.i = b.i ∧ a.c = b.c ∧ a.j = b.j) ⟨fun h => by
  obtain ⟨i, c, j⟩ := a
  obtain ⟨i', c', j'⟩ := b
  obtain ⟨h1, h2, h3⟩ := h
  dsimp only at h1 h2 h3
  rw [h1, h2, h3], fun h => by rw [h]; exact ⟨rfl, rfl, rfl⟩⟩
theorem eqv_n (a b : Nat) : PyData.eqv (nD a) (nD b) = decide (a = b) := by
  show ((a : Int) == (b : Int)) = _
  by_cases e : a = b
  · subst e
    simp
  · rw [decide_eq_false e]
    exact beq_eq_false_iff_ne.mpr fun z => e (by omega)
theorem eqv_t (τ υ : Tri) : PyData.eqv (tD τ) (tD υ) = decide (τ = υ) := by
  obtain ⟨i, c, j⟩ := τ
  obtain ⟨i', c', j'⟩ := υ
  show (((i : Int) == (i' : Int)) && ((sgn c == sgn c') && (((j : Int) == (j' : Int)) && true))) = _
  by_cases e1 : i = i'
  · by_cases e2 : c = c'
    · by_cases e3 : j = j'
      · subst e1
        subst e2
        subst e3
        simp
      · rw [decide_eq_false (fun z => e3 (by injection z)), show ((j : Int) == (j' : Int)) = false from beq_eq_false_iff_ne.mpr fun z => e3 (by omega)]
        simp
    · rw [decide_eq_false (fun z => e2 (by injection z)), show (sgn c == sgn c') = false from beq_eq_false_iff_ne.mpr fun z => e2 (sgn_inj z)]
      simp
  · rw [decide_eq_false (fun z => e1 (by injection z)), show ((i : Int) == (i' : Int)) = false from beq_eq_false_iff_ne.mpr fun z => e1 (by omega)]
    rfl
end Fh
set_option Elab.async false
set_option linter.all false
set_option maxRecDepth 100000
set_option maxHeartbeats 2000000
namespace Fh
open PySem L2
/-! ### what ascends: the same, in order and each once -/
theorem strict_eq {α : Type} (r : α → Int) : ∀ xs ys : List α, xs.Pairwise (fun a b => r a < r b) → ys.Pairwise (fun a b => r a < r b) → (∀ a, a ∈ xs ↔ a ∈ ys) → xs = ys
  | [], [], _, _, _ => rfl
  | [], y :: ys, _, _, h => absurd ((h y).mpr (.head _)) (by simp)
  | x :: xs, [], _, _, h => absurd ((h x).mp (.head _)) (by simp)
  | x :: xs, y :: ys, p, q, h => by
    have p1 := List.pairwise_cons.mp p
    have q1 := List.pairwise_cons.mp q
    have e : x = y := by
      rcases List.mem_cons.mp ((h x).mp (.head _)) with z | z
      · exact z
      · rcases List.mem_cons.mp ((h y).mpr (.head _)) with u | u
        · exact u.symm
        · have a := q1.1 x z
          have b := p1.1 y u
          omega
    subst e
    rw [strict_eq r xs ys p1.2 q1.2 fun a => ⟨fun m => ?_, fun m => ?_⟩]
    · rcases List.mem_cons.mp ((h a).mp (.tail _ m)) with z | z
      · have := p1.1 a m
        rw [z] at this
        omega
      · exact z
    · rcases List.mem_cons.mp ((h a).mpr (.tail _ m)) with z | z
      · have := q1.1 a m
        rw [z] at this
        omega
      · exact z
/-- sorted, each once: the list itself only where it ascends -/
theorem asc_dec {α : Type} [DecidableEq α] (r : α → Int) {xs M : List α} (inj : ∀ a ∈ xs, ∀ b ∈ xs, r a = r b → a = b) (nd : M.Nodup) (pw : M.Pairwise fun a b => r a ≤ r b) (same : ∀ a, a ∈ M ↔ a ∈ xs) :
    decide (M = xs) = decide (xs.Pairwise fun a b => r a < r b) := by
  have up : M.Pairwise fun a b => r a < r b := by
    refine List.Pairwise.imp_of_mem (fun {a b} ma mb z => ?_) (List.Pairwise.and pw nd)
    obtain ⟨z1, z2⟩ := z
    rcases Int.lt_or_eq_of_le z1 with y | y
    · exact y
    · exact absurd (inj a ((same a).mp ma) b ((same b).mp mb) y) z2
  exact decide_eq_decide.mpr ⟨fun e => e ▸ up, fun q => strict_eq r M xs up q same⟩
theorem rk_inj {τ υ : Tri} (a : τ.Ok) (b : υ.Ok) (h : τ.rk = υ.rk) : τ = υ := by
  obtain ⟨i, c, j⟩ := τ
  obtain ⟨i', c', j'⟩ := υ
  obtain ⟨a1, a2⟩ := a
  obtain ⟨b1, b2⟩ := b
  unfold Tri.rk at h
  dsimp only at a1 a2 b1 b2 h
  have e1 : i = i' := by omega
  have e2 : c = c' := by omega
  have e3 : j = j' := by omega
  rw [e1, e2, e3]
/-- the triples behind entries -/
theorem tris_of : ∀ M : List Ent, (∀ e ∈ M, ∃ τ : Tri, e.2 = τ.key ∧ τ.Ok) → ∃ τs : List Tri, M.map Prod.snd = τs.map Tri.key ∧ ∀ τ ∈ τs, τ.Ok
  | [], _ => ⟨[], rfl, fun τ m => (nomatch m)⟩
  | e :: M, h => by
    obtain ⟨τ, h1, h2⟩ := h e (.head _)
    obtain ⟨τs, g1, g2⟩ := tris_of M fun x m => h x (.tail _ m)
    exact ⟨τ :: τs, by rw [List.map_cons, List.map_cons, h1, g1], fun υ m => (List.mem_cons.mp m).elim (fun z => z ▸ h2) (g2 υ)⟩
abbrev s_is_ascending : Stmt := top 15
abbrev sc_is_ascendingN : List Str := ["keys"]
theorem sc_is_ascending : FnScope sc_is_ascendingN ["keys"] (defScope s_is_ascending) := ⟨rfl, rfl, rfl, by decide +kernel, rfl, by decide +kernel, by decide +kernel⟩
def ascN (ns : List Nat) : Bool := decide (ns.Pairwise fun (a b : Nat) => (a : Int) < (b : Int))
def ascT (τs : List Tri) : Bool := decide (τs.Pairwise fun a b => a.rk < b.rk)
theorem shaped_by {ds : List PyData} (h : ∀ d ∈ ds, d.canLay0 = true ∧ d.depth ≤ 1) : SeqAt.shaped (.list ds) = true := by
  have lay : PyData.canLayAll0 ds = true := by
    induction ds with
    | nil => rfl
    | cons d ds ih =>
      show (d.canLay0 && PyData.canLayAll0 ds) = true
      rw [(h d (.head _)).1, ih fun x m => h x (.tail _ m)]
      rfl
  have dp : PyData.depthAll ds ≤ 1 := by
    clear lay
    induction ds with
    | nil => simp only [PyData.depthAll]; omega
    | cons d ds ih =>
      have h1 := (h d (.head _)).2
      have h2 := ih fun x m => h x (.tail _ m)
      simp only [PyData.depthAll]
      omega
  refine Bool.and_eq_true_iff.mpr ⟨lay, decide_eq_true ?_⟩
  simp only [PyData.depth]
  omega
theorem tri_lay {τ : Tri} (ok : τ.Ok) : (tD τ).canLay0 = true ∧ (tD τ).depth ≤ 1 := by
  obtain ⟨i, c, j⟩ := τ
  obtain ⟨a, b⟩ := ok
  refine ⟨?_, by unfold tD; simp only [PyData.depth, PyData.depthAll]; omega⟩
  have a : c < 128 := a
  show ((true && (PyData.strOk (sgn c) && (true && true)))) = true
  have e : PyData.strOk (sgn c) = true := by
    have all : ((List.range 128).all fun c => PyData.strOk (sgn c)) = true := by decide +kernel
    exact List.all_eq_true.mp all c (List.mem_range.mpr a)
  rw [e]
  rfl
theorem dv_ints {K : PySem.W.Frag} {H : Hp} : ∀ xs : List Int, DvAll K H (xs.map V.int) (xs.map PyData.int)
  | [] => .nil
  | x :: xs => .cons (.int x) (dv_ints xs)
theorem dv_ents {K : PySem.W.Frag} {H : Hp} : ∀ (M : List Ent) (τs : List Tri), M.map Prod.snd = τs.map Tri.key → (∀ e ∈ M, SqT K H e.1 (e.2.map kV)) → DvAll K H (M.map fun e => V.ref e.1) (τs.map tD)
  | [], [], _, _ => .nil
  | [], _ :: _, h, _ => by cases h
  | _ :: _, [], h, _ => by cases h
  | e :: M, τ :: τs, h, k => by
    rw [List.map_cons, List.map_cons] at h
    injection h with h1 h2
    have k1 := k e (.head _)
    rw [h1] at k1
    refine .cons (.tup k1 (.cons (.int _) (.cons (.str _ ?_) (.cons (.int _) .nil)))) (dv_ents M τs h2 fun x m => k x (.tail _ m))
    show 1 ≤ 1000000
    decide
theorem pw_tris : ∀ (M : List Ent) (υs : List Tri), M.map Prod.snd = υs.map Tri.key → (M.Pairwise fun e f => ∀ τ υ : Tri, e.2 = τ.key → f.2 = υ.key → τ.rk ≤ υ.rk) → υs.Pairwise fun a b => a.rk ≤ b.rk
  | [], [], _, _ => .nil
  | [], _ :: _, h, _ => by cases h
  | _ :: _, [], h, _ => by cases h
  | e :: M, τ :: υs, h, p => by
    rw [List.map_cons, List.map_cons] at h
    injection h with h1 h2
    have p1 := List.pairwise_cons.mp p
    refine List.pairwise_cons.mpr ⟨fun υ m => ?_, pw_tris M υs h2 p1.2⟩
    have z : υ.key ∈ M.map Prod.snd := h2 ▸ List.mem_map.mpr ⟨υ, m, rfl⟩
    obtain ⟨f, m1, z1⟩ := List.mem_map.mp z
    exact p1.1 f m1 τ υ h1 z1
def spAsc (K : PySem.W.Frag) : Sp := fun vs H Q _ => ∃ l : Addr, vs = [.ref l] ∧ ((∃ ns : List Nat, SqL K H l (ns.map fun (n : Nat) => V.int (n : Int)) ∧ ns.length < 64 ∧ ∀ H', Same H H' → Q (.bl (ascN ns)) H') ∨
  ∃ (ks : List Ent) (τs : List Tri), SqL K H l (ks.map fun e => V.ref e.1) ∧ (∀ e ∈ ks, SqT K H e.1 (e.2.map kV)) ∧ ks.map Prod.snd = τs.map Tri.key ∧ (∀ τ ∈ τs, τ.Ok) ∧ ks.length < 64 ∧ ∀ H', Same H H' → Q (.bl (ascT τs)) H')
section
variable {P : Program} {w : World} {K : PySem.W.Frag} {mg : Str → Option Value} {base : Heap}
theorem ok_asc {f : Addr} {fd : FuncData} (F : Fun K "is_ascending" "is_ascending" s_is_ascending f fd) (C : Con K mg) : FnOk P w K mg base CX0 1 f fd ["keys"] (spAsc K) := by
  refine F.ok sc_is_ascending (fun vs H Q E h => ?_) (fun cdv A outer s H vs Q E hr h => ?_)
  · obtain ⟨l, rfl, _⟩ := h
    rfl
  obtain ⟨l, rfl, h⟩ := h
  have shInt : ∀ xs : List Int, SeqAt.shaped (.list (xs.map .int)) = true := fun xs => shaped_by fun d hd => by
    obtain ⟨z, _, rfl⟩ := List.mem_map.mp hd
    exact ⟨rfl, by simp only [PyData.depth]; omega⟩
  have shTri : ∀ τs : List Tri, (∀ τ ∈ τs, τ.Ok) → SeqAt.shaped (.list (τs.map tD)) = true := fun τs ok => shaped_by fun d hd => by
    obtain ⟨τ, m, rfl⟩ := List.mem_map.mp hd
    exact tri_lay (ok τ m)
  refine ⟨_, (pss_one (ps_ret (pe_cmpR (op_eqL hr.units) (pe_callB ((cr_sortedG (D := kdInt P w) sorts_int rfl).or (cr_sortBag rfl)) (by rfl) C.sorted (by decide +kernel) (pa_cons (pe_callTy ((cr_setOf (kdInt P w) rfl).or (cr_bag rfl hr.units)) (by rfl) C.set (by decide +kernel) (pa_cons (pv 0) pa_nil) (by decide) (by decide) (by rfl)) pa_nil)) (pv 0) (nomark _)))), ?_⟩
  refine ⟨.ref l, rfl, ?_⟩
  rcases h with ⟨ns, hs, few, q⟩ | ⟨ks, τs, hs, hk, ek, ok, few, q⟩
  · have hs' : SqL K H l ((ns.map fun (n : Nat) => (n : Int)).map V.int) := by
      rw [List.map_map]
      exact hs
    refine .inl ⟨l, _, rfl, hs', by rw [List.length_map]; omega, fun p kt len mem nd hp => .inl ⟨p, kt, rfl, upd_same, by rw [List.length_map] at len; omega, fun ys p2 pm ord hp2 => ⟨.ref l, rfl, ys.map .int, (ns.map fun (n : Nat) => (n : Int)).map .int, ?_, ?_, shInt _, shInt _, ?_⟩⟩⟩
    · exact ⟨p2, _, rfl, .inl (.inl upd_same), dv_ints ys⟩
    · exact ⟨l, _, rfl, same_sqL (Same.trans (same_new hp _) (same_new hp2 _)) hs', dv_ints _⟩
    · rw [eqv_by PyData.int (fun a b => rfl)]
      have z := asc_dec (fun a : Int => a) (xs := ns.map fun (n : Nat) => (n : Int)) (M := ys) (fun _ _ _ _ e => e) (pm.nodup_iff.mpr nd) ord fun a => (pm.mem_iff).trans (mem a)
      rw [z]
      have e : decide ((ns.map fun (n : Nat) => (n : Int)).Pairwise fun a b => a < b) = ascN ns := decide_eq_decide.mpr List.pairwise_map
      rw [e]
      exact q _ (Same.trans (same_new hp _) (same_new hp2 _))
  · have tri : ∀ e ∈ ks, ∃ τ : Tri, e.2 = τ.key ∧ τ.Ok := fun e m => by
      have z : e.2 ∈ τs.map Tri.key := ek ▸ List.mem_map.mpr ⟨e, m, rfl⟩
      obtain ⟨τ, m2, z2⟩ := List.mem_map.mp z
      exact ⟨τ, z2.symm, ok τ m2⟩
    refine .inr ⟨l, ks, rfl, hs, hk, few, fun a L ha sub all => .inr ⟨a, L, rfl, upd_same, fun e m => same_sqT (same_new ha _) (hk e (sub e m)), fun e m => tri e (sub e m), fun M p pm nd pw hp => ?_⟩⟩
    have sm : Same H (upd (upd H a (BagO P w a L)) p (.lst (M.map fun e => V.ref e.1))) := Same.trans (same_new ha _) (same_new hp _)
    have inK : ∀ e ∈ M, e ∈ ks := fun e m => sub e (pm.mem_iff.mp m)
    obtain ⟨υs, eu, ou⟩ := tris_of M fun e m => tri e (inK e m)
    refine ⟨.ref l, rfl, υs.map tD, τs.map tD, ⟨p, _, rfl, .inl (.inl upd_same), dv_ents M υs eu fun e m => same_sqT sm (hk e (inK e m))⟩, ⟨l, _, rfl, same_sqL sm hs, dv_ents ks τs ek fun e m => same_sqT sm (hk e m)⟩, shTri _ ou, shTri _ ok, ?_⟩
    rw [eqv_by tD eqv_t]
    have memk : ∀ (N : List Ent) (ρs : List Tri), N.map Prod.snd = ρs.map Tri.key → ∀ τ : Tri, τ ∈ ρs ↔ τ.key ∈ N.map Prod.snd := fun N ρs e τ => by
      rw [e]
      exact ⟨fun m => List.mem_map.mpr ⟨τ, m, rfl⟩, fun m => by
        obtain ⟨ρ, m1, z⟩ := List.mem_map.mp m
        exact key_inj z ▸ m1⟩
    have z := asc_dec Tri.rk (xs := τs) (M := υs) (fun a ma b mb => rk_inj (ok a ma) (ok b mb)) (nodup_of_map (f := Tri.key) (eu ▸ nd)) (pw_tris M υs eu pw) fun τ => by
      rw [memk M υs eu, memk ks τs ek]
      refine ⟨fun m => ?_, fun m => ?_⟩
      · obtain ⟨e, m1, z⟩ := List.mem_map.mp m
        exact List.mem_map.mpr ⟨e, inK e m1, z⟩
      · obtain ⟨e, m1, z⟩ := List.mem_map.mp m
        exact z ▸ (pm.map Prod.snd).mem_iff.mpr (all e m1)
    rw [z]
    exact q _ sm
end
end Fh
set_option Elab.async false
set_option linter.all false
set_option maxRecDepth 100000
set_option maxHeartbeats 2000000
namespace Fh
open PySem L2 TL
/-! ### marks: what is told of the first and of the last -/
def markOk (n : Nat) : PyData → Bool
  | .tuple [a, b] => isState n a && inkOk b
  | _ => false
def firstN : PyData → Nat
  | .tuple (.int i :: _) => i.toNat
  | _ => 0
def marksOk (n : Nat) : PyData → Bool
  | .tuple rows => rows.all (markOk n) && ascN (rows.map firstN)
  | _ => false
theorem mark_shape {n : Nat} {d : PyData} (h : markOk n d = true) : ∃ (z : Nat) (y : PyData), d = .tuple [.int (z : Int), y] ∧ z < n ∧ inkOk y = true := by
  unfold markOk at h
  split at h
  · rename_i a b
    obtain ⟨h1, h2⟩ := Bool.and_eq_true_iff.mp h
    cases a with
    | int i =>
      obtain ⟨g1, g2⟩ := Bool.and_eq_true_iff.mp (show (decide (0 ≤ i) && decide (i < (n : Int))) = true from h1)
      have g1 := of_decide_eq_true g1
      have g2 := of_decide_eq_true g2
      exact ⟨i.toNat, b, by rw [Int.toNat_of_nonneg g1], by omega, h2⟩
    | _ => cases h1
  · cases h
theorem ix_tupB {X : Cx} {K : PySem.W.Frag} (hK : X.K = K) : IxR X (rIxT K) := by
  subst hK
  exact ix_tup
abbrev s_is_marks : Stmt := top 12
abbrev sc_is_marksN : List Str := ["value", "many", "forms", "row"]
theorem sc_is_marks : FnScope sc_is_marksN ["value", "many"] (defScope s_is_marks) := ⟨rfl, rfl, rfl, by decide +kernel, rfl, by decide +kernel, by decide +kernel⟩
section
variable {P : Program} {w : World} {K : PySem.W.Frag} {mg : Str → Option Value} {base : Heap}
theorem ok_marks {f : Addr} {fd : FuncData} (F : Fun K "is_marks" "is_marks" s_is_marks f fd) (T : Bare mg) (C : Con K mg) (CS : Callee P w K mg base 2 "is_state" ["value", "many"] (spTestN K isState)) (CW : Callee P w K mg base 2 "is_word" ["value"] (spTest K inkOk))
    (CA : Callee P w K mg base 1 "is_ascending" ["keys"] (spAsc K)) : FnOk P w K mg base CX0 3 f fd ["value", "many"] (spTestN K marksOk) := by
  refine F.ok sc_is_marks (fun vs H Q E h => ?_) (fun cdv A outer s H vs Q E hr h => ?_)
  · obtain ⟨v, d, n, rfl, _⟩ := h
    rfl
  obtain ⟨v, d, n, rfl, hd, hf, q⟩ := h
  refine ⟨_, (pss_cons (ps_if (pt_not (pt_val (pe_callB call_isD (by rfl) C.isi boot_isi (pa_cons (pv 0) (pa_cons (pe_bltn (v := .ty "tuple") (u := .type "tuple") (by rfl) T.tuple (by decide +kernel) rfl) pa_nil)))))
(pss_one (ps_ret pe_bl))
pss_nil)
(pss_cons (ps_setLc (i := 2) (own := [("row", 3)]) (g := gName 3) rfl sc_is_marks.nd rfl rfl (sw_true rfl rfl rfl (by decide +kernel)) (pi_tup (pv 0)) (blkOk_by (N := sc_is_marksN) (sc := defScope s_is_marks) (by decide +kernel)) (fun _ _ _ _ _ => pg_name (i := 3) sc_is_marks.nd rfl (Or.inl rfl)) (fun _ _ _ _ _ => pts_nil) (fun _ _ _ _ _ => (pe_and (pe_callB (call_isB (K := K) rfl) (by rfl) C.isi boot_isi (pa_cons (pv 3) (pa_cons (pe_bltn (v := .ty "tuple") (u := .type "tuple") (by rfl) T.tuple (by decide +kernel) rfl) pa_nil))) (pe_and (pe_cmpR op_eq (pe_callB (call_lenB (K := K) rfl) (by rfl) T.len PySem.boot_len (pa_cons (pv 3) pa_nil)) pe_int (nomark _)) (pe_and (pe_call CS.ok (hr.mono (by decide)) rfl CS.mg CS.kp CS.b .nil pass0 (pa_cons (pe_ix (ix_tupB (K := K) rfl) (pv 3) pe_int (fun _ _ => rfl)) (pa_cons (pv 1) pa_nil))) (pe_one (pe_call CW.ok (hr.mono (by decide)) rfl CW.mg CW.kp CW.b .nil pass0 (pa_cons (pe_ix (ix_tupB (K := K) rfl) (pv 3) pe_int (fun _ _ => rfl)) pa_nil))))))))
(pss_one (ps_ret (pe_and (pe_all (K := K) rfl rfl (by rfl) C.all (pa_cons (pv 2) pa_nil)) (pe_one (pe_call CA.ok (hr.mono (by decide)) rfl CA.mg CA.kp CA.b .nil pass0 (pa_cons (pe_lc (own := [("row", 3)]) (g := gName 3) rfl sc_is_marks.nd (pi_tup (pv 0)) (blkOk_by (N := sc_is_marksN) (sc := defScope s_is_marks) (by decide +kernel)) (fun _ _ _ _ _ => pg_name (i := 3) sc_is_marks.nd rfl (Or.inl rfl)) (fun _ _ _ _ _ => pts_nil) (fun _ _ _ _ _ => (pe_ix (ix_tupB (K := K) rfl) (pv 3) pe_int (fun _ _ => rfl)))) pa_nil)))))))), ?_⟩
  refine ⟨v, rfl, v, d, "tuple", rfl, hd, .inl rfl, _, rfl, ?_⟩
  by_cases hs : isT "tuple" d = true
  rotate_left
  · rw [Bool.eq_false_iff.mpr hs]
    refine iteT (q false H (fun _ _ e => e) ?_)
    cases d with
    | tuple ts => exact absurd ((isT_tuple _).mpr ⟨ts, rfl⟩) hs
    | _ => rfl
  obtain ⟨rows, rfl⟩ := (isT_tuple d).mp hs
  rw [hs]
  obtain ⟨hw, hrows⟩ := fit_tup.mp hf
  cases hd with
  | @tup a xs _ hq hall =>
  have hl := hall.len
  refine iteF ⟨.ref a, rfl, a, rfl, ⟨_, hq⟩, fun D hD => lc_test (walk_tup (xs := xs)) (markOk n) hall (fun _ => rfl) (by omega) hD (fun H' s => same_sqT s hq) (fun i u r H1 Q' hr1 hdr s1 k => ?_) (fun H1 hD1 s1 => ?_)⟩
  · have hfr := hrows r (List.mem_of_getElem? hr1)
    refine ⟨u, rfl, u, r, "tuple", rfl, hdr, .inl rfl, _, rfl, ?_⟩
    by_cases hs2 : isT "tuple" r = true
    rotate_left
    · rw [Bool.eq_false_iff.mpr hs2]
      refine iteF (k false H1 (fun _ _ e => e) ?_)
      cases r with
      | tuple ts => exact absurd ((isT_tuple _).mpr ⟨ts, rfl⟩) hs2
      | _ => rfl
    obtain ⟨ss, rfl⟩ := (isT_tuple r).mp hs2
    rw [hs2]
    obtain ⟨hw2, hss⟩ := fit_tup.mp hfr
    cases hdr with
    | @tup b ys _ hq2 hall2 =>
    have hl2 := hall2.len
    refine iteT ⟨.ref b, rfl, b, ys, rfl, .inr hq2, rfl, _, rfl, ite2 (fun h2 => ?_) (fun h2 => ?_)⟩
    rotate_left
    · refine k false H1 (fun _ _ e => e) ?_
      have nl : ss.length ≠ 2 := fun e => h2 (decide_eq_true (by rw [hl2, e]; rfl))
      match ss, nl with
      | [], _ => rfl
      | [_], _ => rfl
      | [_, _], z => exact absurd rfl z
      | _ :: _ :: _ :: _, _ => rfl
    have l2 : ss.length = 2 := by
      have z := of_decide_eq_true h2
      injection z with z
      omega
    cases hall2 with
    | nil => cases l2
    | @cons v0 _ x0 _ d0 hall2 =>
    cases hall2 with
    | nil => cases l2
    | @cons v1 _ x1 _ d1 hall2 =>
    cases hall2 with
    | cons _ _ => simp at l2
    | nil =>
    have f1 : markOk n (.tuple [x0, x1]) = (isState n x0 && inkOk x1) := rfl
    refine ⟨.ref b, rfl, b, [v0, v1], 0, v0, rfl, rfl, hq2, rfl, .int (n : Int), rfl, v0, x0, n, rfl, d0, hss x0 (.head _), fun c H2 s2 e2 => ⟨c, rfl, ite2 (fun h3 => ?_) (fun h3 => ?_)⟩⟩
    · refine ⟨.ref b, rfl, b, [v0, v1], 1, v1, rfl, rfl, same_sqT s2 hq2, rfl, v1, x1, rfl, d1.same s2, hss x1 (.tail _ (.head _)), fun c2 H3 s3 e3 => k c2 H3 (Same.trans s2 s3) ?_⟩
      rw [f1, e2, e3, h3, Bool.true_and]
    · refine k false H2 s2 ?_
      rw [f1, e2, Bool.eq_false_iff.mpr h3, Bool.false_and]
  · have f0 : marksOk n (.tuple rows) = (rows.all (markOk n) && ascN (rows.map firstN)) := rfl
    refine ⟨.ref D, rfl, D, _, rfl, .inl (.inl hD1), _, rfl, ?_⟩
    rw [all_f]
    refine ite2 (fun h3 => ?_) (fun h3 => ?_)
    rotate_left
    · refine q false H1 s1 ?_
      rw [f0, Bool.eq_false_iff.mpr h3, Bool.false_and]
    have hall1 := hall.same s1
    refine ⟨.ref a, rfl, a, rfl, ⟨_, same_sqT s1 hq⟩, fun D2 hD2 => lc_fn (walk_tup (xs := xs)) (fun i => .int (firstN (atD rows i) : Int)) (fun _ => rfl) (by omega) hD2 (fun H' s => same_sqT s (same_sqT s1 hq)) (fun i u H2 Q2 hu s2 k => ?_) (fun H2 hD3 s2 => ?_)⟩
    · obtain ⟨d, hd, hdv⟩ := hall1.get hu
      have hmk := List.all_eq_true.mp h3 d (List.mem_of_getElem? hd)
      have e : atD rows i = d := by unfold atD; rw [List.getD_eq_getElem?_getD, hd]; rfl
      rw [e] at k
      obtain ⟨z, y, rfl, _, _⟩ := mark_shape hmk
      cases hdv with
      | @tup b ys _ hq2 hall2 =>
      cases hall2 with
      | @cons v0 vs _ _ d0 hall2 =>
      cases d0
      refine ⟨.ref b, rfl, b, _, 0, .int (z : Int), rfl, rfl, same_sqT s2 hq2, (show atI (V.int (z : Int) :: vs) ((0 : Nat) : Int) = _ from atI_nat rfl), k H2 (fun _ _ e => e)⟩
    · refine ⟨D2, rfl, .inl ⟨rows.map firstN, .inl (.inl ?_), by rw [List.length_map]; omega, fun H3 s3 => q _ H3 (Same.trans s1 (Same.trans s2 s3)) ?_⟩⟩
      · rw [hD3]
        congr 2
        rw [hl, List.map_map]
        exact range_map fun i x hx => by
          unfold atD
          rw [List.getD_eq_getElem?_getD, hx]
          rfl
      · rw [f0, h3, Bool.true_and]
end
end Fh
set_option Elab.async false
set_option linter.all false
set_option maxRecDepth 100000
set_option maxHeartbeats 2000000
namespace Fh
open PySem L2 TL
/-! ### a word's place -/
def symOk (S : Str) : PyData → Bool
  | .str z => decide (z.length = 1) && (tl z).all fun c => decide (c ∈ tl S)
  | _ => false
def placeOk (S : Str) (m n : Nat) : PyData → Bool
  | .tuple [a, b, c, d] => symOk S b && (isState m a && (isState n c && inkOk d))
  | _ => false
abbrev s_is_place : Stmt := top 14
abbrev sc_is_placeN : List Str := ["symbols", "row", "lefts", "rights", "left", "symbol", "right", "word"]
theorem sc_is_place : FnScope sc_is_placeN ["symbols", "row", "lefts", "rights"] (defScope s_is_place) := ⟨rfl, rfl, rfl, by decide +kernel, rfl, by decide +kernel, by decide +kernel⟩
def spPlace (K : PySem.W.Frag) : Sp := fun vs H Q _ => ∃ (S : Str) (v : V) (ds : List PyData) (m n : Nat), vs = [.str S, v, .int (m : Int), .int (n : Int)] ∧ S.length ≤ 900 ∧ Dv K H v (.tuple ds) ∧ ds.length = 4 ∧ Fit (.tuple ds) ∧ ∀ (c : Bool) H', Same H H' → placeOk S m n (.tuple ds) = c → Q (.bl c) H'
section
variable {P : Program} {w : World} {K : PySem.W.Frag} {mg : Str → Option Value} {base : Heap}
theorem ok_place {f : Addr} {fd : FuncData} (F : Fun K "is_place" "is_place" s_is_place f fd) (T : Bare mg) (C : Con K mg) (CS : Callee P w K mg base 2 "is_state" ["value", "many"] (spTestN K isState)) (CW : Callee P w K mg base 2 "is_word" ["value"] (spTest K inkOk)) :
    FnOk P w K mg base CX0 3 f fd ["symbols", "row", "lefts", "rights"] (spPlace K) := by
  refine F.ok sc_is_place (fun vs H Q E h => ?_) (fun cdv A outer s H vs Q E hr h => ?_)
  · obtain ⟨S, v, ds, m, n, rfl, _⟩ := h
    rfl
  obtain ⟨S, v, ds, m, n, rfl, hS, hd, h4, hf, q⟩ := h
  refine ⟨_, (pss_cons (ps_asg (pv 1) (pg_tup (by rfl) (pgs_cons (pg_name (i := 4) sc_is_place.nd rfl (Or.inl rfl)) (pgs_cons (pg_name (i := 5) sc_is_place.nd rfl (Or.inl rfl)) (pgs_cons (pg_name (i := 6) sc_is_place.nd rfl (Or.inl rfl)) (pgs_cons (pg_name (i := 7) sc_is_place.nd rfl (Or.inl rfl)) pgs_nil))))))
(pss_cons (ps_if (PW.pt (pw_or (pt_not (pt_val (pe_callB call_isD (by rfl) C.isi boot_isi (pa_cons (pv 5) (pa_cons (pe_bltn (v := .ty "str") (u := .type "str") (by rfl) T.str (by decide +kernel) rfl) pa_nil))))) (pw_or (pt_cmpR op_ne (pe_callB call_lenS (by rfl) T.len PySem.boot_len (pa_cons (pv 5) pa_nil)) pe_int (nomark _)) (pw_or1 (pt_cmpR op_notIn_sign (pv 5) (pv 0) (by rfl))))))
(pss_one (ps_ret pe_bl))
pss_nil)
(pss_one (ps_ret (pe_and (pe_call CS.ok (hr.mono (by decide)) rfl CS.mg CS.kp CS.b .nil pass0 (pa_cons (pv 4) (pa_cons (pv 2) pa_nil))) (pe_and (pe_call CS.ok (hr.mono (by decide)) rfl CS.mg CS.kp CS.b .nil pass0 (pa_cons (pv 6) (pa_cons (pv 3) pa_nil))) (pe_one (pe_call CW.ok (hr.mono (by decide)) rfl CW.mg CW.kp CW.b .nil pass0 (pa_cons (pv 7) pa_nil))))))))), ?_⟩
  obtain ⟨_, hss⟩ := fit_tup.mp hf
  match ds, h4 with
  | [a, b, c, d], _ =>
  cases hd with
  | @tup t xs _ hq hall =>
  cases hall with
  | @cons va _ _ _ da hall =>
  cases hall with
  | @cons vb _ _ _ db hall =>
  cases hall with
  | @cons vc _ _ _ dc hall =>
  cases hall with
  | @cons vd _ _ _ dd hall =>
  cases hall
  have f0 : placeOk S m n (.tuple [a, b, c, d]) = (symOk S b && (isState m a && (isState n c && inkOk d))) := rfl
  refine ⟨.ref t, rfl, t, [va, vb, vc, vd], rfl, hq, rfl, _, _, rfl, _, _, rfl, _, _, rfl, _, _, rfl, rfl, ?_⟩
  refine ⟨vb, rfl, vb, b, "str", rfl, db, .inr (.inl rfl), _, rfl, ?_⟩
  by_cases hs : isT "str" b = true
  rotate_left
  · rw [Bool.eq_false_iff.mpr hs]
    refine iteT (q false H (fun _ _ e => e) ?_)
    rw [f0]
    cases b with
    | str z => exact absurd ((isT_str _).mpr ⟨z, rfl⟩) hs
    | _ => rfl
  obtain ⟨z, rfl⟩ := (isT_str b).mp hs
  rw [hs]
  cases db with
  | str _ hz =>
  refine iteF ⟨.str z, rfl, z, rfl, len_k hz, rfl, _, rfl, ite2 (fun h1 => ?_) (fun h1 => ?_)⟩
  · refine q false H (fun _ _ e => e) ?_
    have nz : z.length ≠ 1 := fun e => by
      rw [e] at h1
      cases h1
    rw [f0, show symOk S (.str z) = (decide (z.length = 1) && (tl z).all fun c => decide (c ∈ tl S)) from rfl, decide_eq_false nz]
    rfl
  have z1 : z.length = 1 := by
    by_cases e : z.length = 1
    · exact e
    · exfalso
      refine h1 ?_
      rw [Bool.not_eq_true']
      exact decide_eq_false fun y => e (by injection y with y; omega)
  obtain ⟨cp⟩ := z
  obtain ⟨cs⟩ := cp
  match cs, z1 with
  | [x], _ =>
  have fs : symOk S (.str ⟨⟨[x]⟩⟩) = decide (x ∈ tl S) := by
    show (decide (1 = 1) && (decide (x ∈ tl S) && true)) = _
    rw [decide_eq_true rfl, Bool.true_and, Bool.and_true]
  refine ⟨_, rfl, .str S, rfl, x, S, rfl, rfl, _, rfl, ite2 (fun h2 => ?_) (fun h2 => ?_)⟩
  · refine q false H (fun _ _ e => e) ?_
    rw [f0, fs, (by simpa using h2 : decide (x ∈ tl S) = false), Bool.false_and]
  have h3 : decide (x ∈ tl S) = true := by simpa using h2
  refine ⟨va, rfl, .int (m : Int), rfl, va, a, m, rfl, da, hss a (.head _), fun k1 H1 s1 e1 => ⟨k1, rfl, ite2 (fun g1 => ?_) (fun g1 => ?_)⟩⟩
  rotate_left
  · refine q false H1 s1 ?_
    rw [f0, e1, Bool.eq_false_iff.mpr g1, Bool.false_and, Bool.and_false]
  refine ⟨vc, rfl, .int (n : Int), rfl, vc, c, n, rfl, dc.same s1, hss c (.tail _ (.tail _ (.head _))), fun k2 H2 s2 e2 => ⟨k2, rfl, ite2 (fun g2 => ?_) (fun g2 => ?_)⟩⟩
  rotate_left
  · refine q false H2 (Same.trans s1 s2) ?_
    rw [f0, e2, Bool.eq_false_iff.mpr g2, Bool.false_and, Bool.and_false, Bool.and_false]
  refine ⟨vd, rfl, vd, d, rfl, (dd.same s1).same s2, hss d (.tail _ (.tail _ (.tail _ (.head _)))), fun k3 H3 s3 e3 => q k3 H3 (Same.trans s1 (Same.trans s2 s3)) ?_⟩
  rw [f0, fs, h3, e1, e2, e3, g1, g2]
  rfl
end
end Fh
set_option Elab.async false
set_option linter.all false
set_option maxRecDepth 100000
set_option maxHeartbeats 2000000
namespace Fh
open PySem L2 TL
/-! ### words at symbols; the form of a writer -/
def triOf : PyData → Tri
  | .tuple (.int i :: .str z :: .int j :: _) => ⟨i.toNat, (tl z).headD 0, j.toNat⟩
  | _ => ⟨0, 0, 0⟩
def placesOk (S : Str) (m n : Nat) : PyData → Bool
  | .tuple rows => rows.all (placeOk S m n) && ascT (rows.map triOf)
  | _ => false
theorem state_shape {n : Nat} {a : PyData} (h : isState n a = true) : ∃ i : Nat, a = .int (i : Int) ∧ i < n := by
  cases a with
  | int i =>
    obtain ⟨g1, g2⟩ := Bool.and_eq_true_iff.mp (show (decide (0 ≤ i) && decide (i < (n : Int))) = true from h)
    have g1 := of_decide_eq_true g1
    have g2 := of_decide_eq_true g2
    exact ⟨i.toNat, by rw [Int.toNat_of_nonneg g1], by omega⟩
  | _ => cases h
theorem sym_shape {S : Str} {a : PyData} (h : symOk S a = true) : ∃ c : Nat, a = .str (sgn c) ∧ c ∈ tl S := by
  cases a with
  | str z =>
    obtain ⟨g1, g2⟩ := Bool.and_eq_true_iff.mp (show (decide (z.length = 1) && (tl z).all fun c => decide (c ∈ tl S)) = true from h)
    have g1 := of_decide_eq_true g1
    obtain ⟨cp⟩ := z
    obtain ⟨cs⟩ := cp
    match cs, g1 with
    | [x], _ => exact ⟨x, rfl, of_decide_eq_true (List.all_eq_true.mp g2 x (.head _))⟩
  | _ => cases h
theorem place_shape {S : Str} {m n : Nat} {d : PyData} (h : placeOk S m n d = true) : ∃ (i c j : Nat) (y : PyData), d = .tuple [.int (i : Int), .str (sgn c), .int (j : Int), y] ∧ i < m ∧ c ∈ tl S ∧ j < n ∧ inkOk y = true := by
  unfold placeOk at h
  split at h
  · rename_i a b c d
    obtain ⟨h1, h2⟩ := Bool.and_eq_true_iff.mp h
    obtain ⟨h2, h3⟩ := Bool.and_eq_true_iff.mp h2
    obtain ⟨h3, h4⟩ := Bool.and_eq_true_iff.mp h3
    obtain ⟨x, rfl, g1⟩ := sym_shape h1
    obtain ⟨i, rfl, g2⟩ := state_shape h2
    obtain ⟨j, rfl, g3⟩ := state_shape h3
    exact ⟨i, x, j, d, rfl, g2, g1, g3, h4⟩
  · cases h
theorem sl_tupB {X : Cx} {K : PySem.W.Frag} (hK : X.K = K) : SlR X (rSlT K) := by
  subst hK
  exact sl_tup
/-- entries of a list of references to tuples -/
theorem ents_of {K : PySem.W.Frag} {H : Hp} {f : PyData → Tri} : ∀ (ys : List V) (rows : List PyData), ys.length = rows.length → (∀ i y, ys[i]? = some y → ∃ b, y = .ref b ∧ SqT K H b ((f (atD rows i)).key.map kV)) →
    ∃ ks : List Ent, ys = (ks.map fun e => V.ref e.1) ∧ (∀ e ∈ ks, SqT K H e.1 (e.2.map kV)) ∧ ks.map Prod.snd = (rows.map f).map Tri.key
  | [], [], _, _ => ⟨[], rfl, fun e m => (nomatch m), rfl⟩
  | [], _ :: _, h, _ => by cases h
  | _ :: _, [], h, _ => by cases h
  | y :: ys, r :: rows, h, k => by
    obtain ⟨b, rfl, hb⟩ := k 0 y rfl
    obtain ⟨ks, e1, e2, e3⟩ := ents_of ys rows (by simpa using h) fun i y hy => k (i + 1) y hy
    refine ⟨(b, (f r).key) :: ks, by rw [e1]; rfl, fun e m => ?_, by rw [List.map_cons, e3]; rfl⟩
    rcases List.mem_cons.mp m with rfl | m
    · exact hb
    · exact e2 e m
theorem but_sqT {K : PySem.W.Frag} {H H' : Hp} {D b : Addr} {xs : List V} (e : But D H H') (hD : ∃ ys, H D = some (.lst ys)) (h : SqT K H b xs) : SqT K H' b xs := by
  obtain ⟨ys, hD⟩ := hD
  rcases h with (h | ⟨o, h⟩) | h
  · exact .inl (.inl (e _ _ h fun z => by
      rw [z, hD] at h
      cases h))
  · exact .inl (.inr ⟨o, e _ _ h fun z => by
      rw [z, hD] at h
      cases h⟩)
  · exact .inr h
abbrev s_is_words : Stmt := top 13
abbrev sc_is_wordsN : List Str := ["symbols", "value", "lefts", "rights", "forms", "row"]
theorem sc_is_words : FnScope sc_is_wordsN ["symbols", "value", "lefts", "rights"] (defScope s_is_words) := ⟨rfl, rfl, rfl, by decide +kernel, rfl, by decide +kernel, by decide +kernel⟩
abbrev Plain (S : Str) : Prop := S.length ≤ 900 ∧ ∀ c ∈ tl S, c < 128
def spPlaces (K : PySem.W.Frag) : Sp := fun vs H Q _ => ∃ (S : Str) (v : V) (d : PyData) (m n : Nat), vs = [.str S, v, .int (m : Int), .int (n : Int)] ∧ Plain S ∧ n ≤ 60 ∧ Dv K H v d ∧ Fit d ∧ ∀ (c : Bool) H', Same H H' → placesOk S m n d = c → Q (.bl c) H'
section
variable {P : Program} {w : World} {K : PySem.W.Frag} {mg : Str → Option Value} {base : Heap}
theorem ok_places {f : Addr} {fd : FuncData} (F : Fun K "is_words" "is_words" s_is_words f fd) (T : Bare mg) (C : Con K mg) (CP : Callee P w K mg base 3 "is_place" ["symbols", "row", "lefts", "rights"] (spPlace K))
    (CA : Callee P w K mg base 1 "is_ascending" ["keys"] (spAsc K)) : FnOk P w K mg base CX0 4 f fd ["symbols", "value", "lefts", "rights"] (spPlaces K) := by
  refine F.ok sc_is_words (fun vs H Q E h => ?_) (fun cdv A outer s H vs Q E hr h => ?_)
  · obtain ⟨S, v, d, m, n, rfl, _⟩ := h
    rfl
  obtain ⟨S, v, d, m, n, rfl, hS, hn, hd, hf, q⟩ := h
  refine ⟨_, (pss_cons (ps_if (pt_not (pt_val (pe_callB call_isD (by rfl) C.isi boot_isi (pa_cons (pv 1) (pa_cons (pe_bltn (v := .ty "tuple") (u := .type "tuple") (by rfl) T.tuple (by decide +kernel) rfl) pa_nil)))))
(pss_one (ps_ret pe_bl))
pss_nil)
(pss_cons (ps_setLc (i := 4) (own := [("row", 5)]) (g := gName 5) rfl sc_is_words.nd rfl rfl (sw_true rfl rfl rfl (by decide +kernel)) (pi_tup (pv 1)) (blkOk_by (N := sc_is_wordsN) (sc := defScope s_is_words) (by decide +kernel)) (fun _ _ _ _ _ => pg_name (i := 5) sc_is_words.nd rfl (Or.inl rfl)) (fun _ _ _ _ _ => pts_nil) (fun _ _ _ _ _ => (pe_and (pe_callB (call_isB (K := K) rfl) (by rfl) C.isi boot_isi (pa_cons (pv 5) (pa_cons (pe_bltn (v := .ty "tuple") (u := .type "tuple") (by rfl) T.tuple (by decide +kernel) rfl) pa_nil))) (pe_and (pe_cmpR op_eq (pe_callB (call_lenB (K := K) rfl) (by rfl) T.len PySem.boot_len (pa_cons (pv 5) pa_nil)) pe_int (nomark _)) (pe_one (pe_call CP.ok (hr.mono (by decide)) rfl CP.mg CP.kp CP.b .nil pass0 (pa_cons (pv 0) (pa_cons (pv 5) (pa_cons (pv 2) (pa_cons (pv 3) pa_nil))))))))))
(pss_one (ps_ret (pe_and (pe_all (K := K) rfl rfl (by rfl) C.all (pa_cons (pv 4) pa_nil)) (pe_one (pe_call CA.ok (hr.mono (by decide)) rfl CA.mg CA.kp CA.b .nil pass0 (pa_cons (pe_lc (own := [("row", 5)]) (g := gName 5) rfl sc_is_words.nd (pi_tup (pv 1)) (blkOk_by (N := sc_is_wordsN) (sc := defScope s_is_words) (by decide +kernel)) (fun _ _ _ _ _ => pg_name (i := 5) sc_is_words.nd rfl (Or.inl rfl)) (fun _ _ _ _ _ => pts_nil) (fun _ _ _ _ _ => (pe_slice (sl_tupB (K := K) rfl) (pv 5) po_none (po_some pe_int)))) pa_nil)))))))), ?_⟩
  refine ⟨v, rfl, v, d, "tuple", rfl, hd, .inl rfl, _, rfl, ?_⟩
  by_cases hs : isT "tuple" d = true
  rotate_left
  · rw [Bool.eq_false_iff.mpr hs]
    refine iteT (q false H (fun _ _ e => e) ?_)
    cases d with
    | tuple ts => exact absurd ((isT_tuple _).mpr ⟨ts, rfl⟩) hs
    | _ => rfl
  obtain ⟨rows, rfl⟩ := (isT_tuple d).mp hs
  rw [hs]
  obtain ⟨hw, hrows⟩ := fit_tup.mp hf
  cases hd with
  | @tup a xs _ hq hall =>
  have hl := hall.len
  refine iteF ⟨.ref a, rfl, a, rfl, ⟨_, hq⟩, fun D hD => lc_test (walk_tup (xs := xs)) (placeOk S m n) hall (fun _ => rfl) (by omega) hD (fun H' s => same_sqT s hq) (fun i u r H1 Q' hr1 hdr s1 k => ?_) (fun H1 hD1 s1 => ?_)⟩
  · have hfr := hrows r (List.mem_of_getElem? hr1)
    refine ⟨u, rfl, u, r, "tuple", rfl, hdr, .inl rfl, _, rfl, ?_⟩
    by_cases hs2 : isT "tuple" r = true
    rotate_left
    · rw [Bool.eq_false_iff.mpr hs2]
      refine iteF (k false H1 (fun _ _ e => e) ?_)
      cases r with
      | tuple ts => exact absurd ((isT_tuple _).mpr ⟨ts, rfl⟩) hs2
      | _ => rfl
    obtain ⟨ss, rfl⟩ := (isT_tuple r).mp hs2
    rw [hs2]
    obtain ⟨hw2, hss⟩ := fit_tup.mp hfr
    have hdr0 := hdr
    cases hdr with
    | @tup b ys _ hq2 hall2 =>
    have hl2 := hall2.len
    refine iteT ⟨.ref b, rfl, b, ys, rfl, .inr hq2, rfl, _, rfl, ite2 (fun h2 => ?_) (fun h2 => ?_)⟩
    rotate_left
    · refine k false H1 (fun _ _ e => e) ?_
      have nl : ss.length ≠ 4 := fun e => h2 (decide_eq_true (by rw [hl2, e]; rfl))
      match ss, nl with
      | [], _ => rfl
      | [_], _ => rfl
      | [_, _], _ => rfl
      | [_, _, _], _ => rfl
      | [_, _, _, _], z => exact absurd rfl z
      | _ :: _ :: _ :: _ :: _ :: _, _ => rfl
    have l4 : ss.length = 4 := by
      have z := of_decide_eq_true h2
      injection z with z
      omega
    exact ⟨.str S, rfl, .ref b, rfl, .int (m : Int), rfl, .int (n : Int), rfl, S, .ref b, ss, m, n, rfl, hS.1, hdr0, l4, hfr, k⟩
  · have f0 : placesOk S m n (.tuple rows) = (rows.all (placeOk S m n) && ascT (rows.map triOf)) := rfl
    refine ⟨.ref D, rfl, D, _, rfl, .inl (.inl hD1), _, rfl, ?_⟩
    rw [all_f]
    refine ite2 (fun h3 => ?_) (fun h3 => ?_)
    rotate_left
    · refine q false H1 s1 ?_
      rw [f0, Bool.eq_false_iff.mpr h3, Bool.false_and]
    have hall1 := hall.same s1
    refine ⟨.ref a, rfl, a, rfl, ⟨_, same_sqT s1 hq⟩, fun D2 hD2 => lc_each (walk_tup (xs := xs)) (fun i y H => ∃ b, y = .ref b ∧ SqT K H b ((triOf (atD rows i)).key.map kV)) (fun _ => rfl) (by omega) hD2 (fun H' s => same_sqT s (same_sqT s1 hq)) (fun i y H2 H3 _ hD b r => ?_) (fun i u H2 Q2 hu s2 hD k => ?_) (fun ys H2 hly r hD3 s2 => ?_)⟩
    · obtain ⟨b1, rfl, hb⟩ := r
      exact ⟨b1, rfl, but_sqT b hD hb⟩
    · obtain ⟨d, hd, hdv⟩ := hall1.get hu
      have hmk := List.all_eq_true.mp h3 d (List.mem_of_getElem? hd)
      have e : atD rows i = d := by unfold atD; rw [List.getD_eq_getElem?_getD, hd]; rfl
      rw [e] at k
      obtain ⟨i1, c, j, y, rfl, _, _, _, _⟩ := place_shape hmk
      cases hdv with
      | @tup b ys _ hq2 hall2 =>
      cases hall2 with
      | @cons v0 vs _ _ d0 hall2 =>
      cases hall2 with
      | @cons v1 vs _ _ d1 hall2 =>
      cases hall2 with
      | @cons v2 vs _ _ d2 hall2 =>
      cases hall2 with
      | @cons v3 vs _ _ d3 hall2 =>
      cases hall2
      cases d0
      cases d1
      cases d2
      refine ⟨.ref b, rfl, 3, rfl, b, _, rfl, same_sqT s2 hq2, (fun z => by simp [HT.sIx] at z), fun p hp => k (.ref p) _ (same_new hp _) ⟨p, rfl, ?_⟩⟩
      refine .inl (.inl ?_)
      rw [upd_same]
      rfl
    · obtain ⟨ks, rfl, hk, ek⟩ := ents_of ys rows (by omega) r
      refine ⟨D2, rfl, .inr ⟨ks, rows.map triOf, .inl (.inl hD3), hk, ek, fun τ m => ?_, ?_, fun H3 s3 => q _ H3 (Same.trans s1 (Same.trans s2 s3)) ?_⟩⟩
      · obtain ⟨d, hd, rfl⟩ := List.mem_map.mp m
        obtain ⟨i1, c, j, y, rfl, g1, g2, g3, _⟩ := place_shape (List.all_eq_true.mp h3 d hd)
        exact ⟨hS.2 c g2, by show ((j : Int)).toNat < 64; omega⟩
      · rw [List.length_map] at hly
        omega
      · rw [f0, h3, Bool.true_and]
end
end Fh
set_option Elab.async false
set_option linter.all false
set_option maxRecDepth 100000
set_option maxHeartbeats 2000000
namespace Fh
open PySem PySem.Spec PyProof.Rows L2 TL
/-! ### how large data are -/
mutual
def nodes : PyData → Nat
  | .list xs => 1 + nodesAll xs
  | .tuple xs => 1 + nodesAll xs
  | .dict kvs => 1 + nodesKv kvs
  | _ => 1
def nodesAll : List PyData → Nat
  | [] => 0
  | x :: xs => nodes x + nodesAll xs
def nodesKv : List (PyData × PyData) → Nat
  | [] => 0
  | (_, x) :: xs => 3 + nodes x + nodesKv xs
end
theorem nodes_tup (ds : List PyData) : nodes (.tuple ds) = 1 + nodesAll ds := by simp only [nodes]
theorem nodes_lst (ds : List PyData) : nodes (.list ds) = 1 + nodesAll ds := by simp only [nodes]
theorem nodes_dc1 (k d : PyData) : nodes (.dict [(k, d)]) = 4 + nodes d := by simp only [nodes, nodesKv]; omega
theorem nodes_dct : nodes (.dict []) = 1 := by simp only [nodes, nodesKv]
theorem nodes_nil : nodesAll [] = 0 := by simp only [nodesAll]
theorem nodes_cons (d : PyData) (ds : List PyData) : nodesAll (d :: ds) = nodes d + nodesAll ds := by simp only [nodesAll]
theorem nodes_pos (d : PyData) : 1 ≤ nodes d := by
  cases d <;> simp only [nodes] <;> omega
theorem nodes_append : ∀ (a b : List PyData), nodesAll (a ++ b) = nodesAll a + nodesAll b
  | [], b => by rw [List.nil_append, nodes_nil, Nat.zero_add]
  | x :: a, b => by
    rw [List.cons_append, nodes_cons, nodes_cons, nodes_append a b]
    omega
theorem nodes_rev : ∀ (a : List PyData), nodesAll a.reverse = nodesAll a
  | [] => rfl
  | x :: a => by
    rw [List.reverse_cons, nodes_append, nodes_rev a, nodes_cons, nodes_cons, nodes_nil]
    omega
theorem nodes_cut (k : Nat) (ds : List PyData) : nodesAll (ds.take k) + nodesAll (ds.drop k) = nodesAll ds := by
  rw [← nodes_append, List.take_append_drop]
theorem nodes_at {ds : List PyData} {k : Nat} {d : PyData} (h : ds[k]? = some d) : nodesAll (ds.take k) + nodes d + nodesAll (ds.drop (k + 1)) = nodesAll ds := by
  have h1 := nodes_cut k ds
  obtain ⟨hk, rfl⟩ := List.getElem?_eq_some_iff.mp h
  rw [List.drop_eq_getElem_cons hk, nodes_cons] at h1
  omega
def big : Nat := 1000000000000000000000000000000
def isLf (s : Nat) : PyData → Bool
  | .none => true
  | .bool _ => true
  | .int i => decide (i.natAbs ≤ big + s)
  | .str z => decide (z.length ≤ s) && (tl z).all fun c => decide (c < 128)
  | _ => false
inductive Ta (w s : Nat) : Nat → PyData → Prop
  | leaf {M : Nat} {d : PyData} (h : isLf s d = true) : Ta w s M d
  | tup {M : Nat} {ds : List PyData} (h : ∀ d ∈ ds, Ta w s M d) (l : ds.length ≤ w) : Ta w s (M + 1) (.tuple ds)
  | lst {M : Nat} {ds : List PyData} (h : ∀ d ∈ ds, Ta w s M d) (l : ds.length ≤ w) : Ta w s (M + 1) (.list ds)
  | dct {M : Nat} : Ta w s (M + 1) (.dict [])
  | dc1 {M : Nat} {d : PyData} (h : Ta w s M d) : Ta w s (M + 1) (.dict [(.str "a", d)])
theorem isLf_mono {s s' : Nat} {d : PyData} (h : isLf s d = true) (l : s ≤ s') : isLf s' d = true := by
  cases d with
  | int i =>
    have h : i.natAbs ≤ big + s := of_decide_eq_true h
    exact decide_eq_true (by omega : i.natAbs ≤ big + s')
  | str z =>
    obtain ⟨h1, h2⟩ := Bool.and_eq_true_iff.mp h
    have h1 := of_decide_eq_true h1
    exact Bool.and_eq_true_iff.mpr ⟨decide_eq_true (by omega), h2⟩
  | none => rfl
  | bool b => rfl
  | _ => cases h
theorem Ta.mono {w s M : Nat} {d : PyData} (h : Ta w s M d) : ∀ {w' s' M' : Nat}, w ≤ w' → s ≤ s' → M ≤ M' → Ta w' s' M' d := by
  induction h with
  | leaf h => exact fun _ l _ => .leaf (isLf_mono h l)
  | tup h l0 ih =>
    intro w' s' M' a b l
    obtain ⟨m, rfl⟩ : ∃ m, M' = m + 1 := ⟨M' - 1, by omega⟩
    exact .tup (fun d hd => ih d hd a b (by omega)) (by omega)
  | lst h l0 ih =>
    intro w' s' M' a b l
    obtain ⟨m, rfl⟩ : ∃ m, M' = m + 1 := ⟨M' - 1, by omega⟩
    exact .lst (fun d hd => ih d hd a b (by omega)) (by omega)
  | dct =>
    intro w' s' M' a b l
    obtain ⟨m, rfl⟩ : ∃ m, M' = m + 1 := ⟨M' - 1, by omega⟩
    exact .dct
  | dc1 h ih =>
    intro w' s' M' a b l
    obtain ⟨m, rfl⟩ : ∃ m, M' = m + 1 := ⟨M' - 1, by omega⟩
    exact .dc1 (ih a b (by omega))
theorem Ta.items {w s M : Nat} {ds : List PyData} (h : Ta w s M (.tuple ds)) : ∃ m, M = m + 1 ∧ ds.length ≤ w ∧ ∀ d ∈ ds, Ta w s m d := by
  cases h with
  | leaf h => cases h
  | tup h l => exact ⟨_, rfl, l, h⟩
theorem Ta.fit {w s M : Nat} {d : PyData} (h : Ta w s M d) (hw : w ≤ 60) (hs : s ≤ 900) : Fit d := by
  induction h with
  | @leaf M d h =>
    cases d with
    | none => rfl
    | bool b => rfl
    | int i => rfl
    | str z =>
      obtain ⟨h1, h2⟩ := Bool.and_eq_true_iff.mp h
      have h1 := of_decide_eq_true h1
      exact fit_str.mpr (by omega)
    | _ => cases h
  | tup h l ih => exact fit_tup.mpr ⟨by omega, ih⟩
  | lst h l ih => exact fit_lst.mpr ⟨by omega, ih⟩
  | dct => rfl
  | dc1 h ih => rfl
structure Shy (c M : Nat) (d : PyData) : Prop where
  lv : d.leavesShort 40 = true
  sh : d.showable = true
  dp : d.depth ≤ M
  wt : d.weight + 1 ≤ c * nodes d
theorem shy_all {c M : Nat} : ∀ {ds : List PyData}, (∀ d ∈ ds, Shy c M d) → PyData.leavesShortAll 40 ds = true ∧ PyData.showableAll ds = true ∧ PyData.depthAll ds ≤ M ∧ PyData.weightAll ds ≤ c * nodesAll ds
  | [], _ => ⟨rfl, rfl, Nat.zero_le _, Nat.zero_le _⟩
  | d :: ds, h => by
    obtain ⟨a1, a2, a3, a4⟩ := h d (.head _)
    obtain ⟨b1, b2, b3, b4⟩ := shy_all fun x m => h x (.tail _ m)
    refine ⟨?_, ?_, ?_, ?_⟩
    · simp only [PyData.leavesShortAll, a1, b1, Bool.and_self]
    · simp only [PyData.showableAll, a2, b2, Bool.and_self]
    · simp only [PyData.depthAll]
      omega
    · simp only [PyData.weightAll, nodesAll]
      rw [Nat.mul_add]
      omega
theorem Ta.shy {w s M : Nat} {d : PyData} (h : Ta w s M d) (hs : s ≤ 900) : Shy (s + 110) M d := by
  induction h with
  | @leaf M d h =>
    cases d with
    | none => exact ⟨rfl, rfl, Nat.zero_le _, by simp only [PyData.weight, nodes]; omega⟩
    | bool b => exact ⟨rfl, rfl, Nat.zero_le _, by simp only [PyData.weight, nodes]; omega⟩
    | int i =>
      have h : i.natAbs ≤ big + s := of_decide_eq_true h
      have hb : i.natAbs < 2 ^ 100 := Nat.lt_of_le_of_lt h (by
        have : big + 900 < 2 ^ 100 := by decide
        omega)
      have hl : i.natAbs.log2 < 100 := by
        by_cases z : i.natAbs = 0
        · rw [z]; decide
        · rw [Nat.log2_lt z]
          exact hb
      refine ⟨?_, ?_, Nat.zero_le _, ?_⟩
      · refine decide_eq_true ?_
        have e := int_text_length_le10 (a := i) (k := 31) (by decide) (by
          have : big + 900 < 10 ^ 31 := by decide
          omega)
        show (Str.ofString (toString i)).length ≤ 40
        rw [PySem.ofString_length]
        omega
      · simp only [PyData.showable]
        exact decide_eq_true (by omega)
      · simp only [PyData.weight, nodes]
        split <;> omega
    | str z =>
      obtain ⟨h1, h2⟩ := Bool.and_eq_true_iff.mp h
      have h1 := of_decide_eq_true h1
      refine ⟨?_, rfl, Nat.zero_le _, ?_⟩
      · simp only [PyData.leavesShort]
        refine List.all_eq_true.mpr fun c m => decide_eq_true ?_
        have := of_decide_eq_true (List.all_eq_true.mp h2 c m)
        exact Nat.lt_of_lt_of_le this (by decide)
      · simp only [PyData.weight, nodes]
        have h1 : z.cps.size ≤ s := h1
        omega
    | _ => cases h
  | @tup M ds h l ih =>
    obtain ⟨b1, b2, b3, b4⟩ := shy_all ih
    refine ⟨by simp only [PyData.leavesShort]; exact b1, by simp only [PyData.showable]; exact b2, by simp only [PyData.depth]; omega, ?_⟩
    simp only [PyData.weight, nodes]
    rw [Nat.mul_add]
    omega
  | @lst M ds h l ih =>
    obtain ⟨b1, b2, b3, b4⟩ := shy_all ih
    refine ⟨by simp only [PyData.leavesShort]; exact b1, by simp only [PyData.showable]; exact b2, by simp only [PyData.depth]; omega, ?_⟩
    simp only [PyData.weight, nodes]
    rw [Nat.mul_add]
    omega
  | dct => exact ⟨rfl, rfl, by simp only [PyData.depth, PyData.depthKv]; omega, by simp only [PyData.weight, PyData.weightKv, nodes, nodesKv]; omega⟩
  | @dc1 M d h ih =>
    obtain ⟨a1, a2, a3, a4⟩ := ih
    refine ⟨?_, ?_, by simp only [PyData.depth, PyData.depthKv]; omega, ?_⟩
    · simp only [PyData.leavesShort, PyData.leavesShortKv, a1, Bool.and_true]
      decide
    · simp only [PyData.showable, PyData.showableKv, a2, Bool.and_true]
    · simp only [PyData.weight, PyData.weightKv, nodes, nodesKv]
      rw [Nat.mul_add, Nat.mul_add, Nat.mul_add]
      have : ("a" : Str).cps.size = 1 := rfl
      omega
/-- bounded data: so wide, texts so long, so deep, so many nodes -/
structure Ms (w s M g : Nat) (d : PyData) : Prop where
  ta : Ta w s M d
  sz : nodes d ≤ g
theorem Ms.mono {w s M g w' s' M' g' : Nat} {d : PyData} (h : Ms w s M g d) (a : w ≤ w') (b : s ≤ s') (c : M ≤ M') (e : g ≤ g') : Ms w' s' M' g' d := ⟨h.ta.mono a b c, Nat.le_trans h.sz e⟩
theorem Ms.dok {w s M g : Nat} {d : PyData} (h : Ms w s M g d) (hs : s ≤ 900) (hM : M ≤ 40) (hg : (s + 110) * g ≤ 300000) : Dok 13000000 40 d ∧ 13000000 ≤ sizeLine := by
  obtain ⟨a1, a2, a3, a4⟩ := h.ta.shy hs
  refine ⟨⟨a2, by omega, ?_⟩, by rw [sizeLine_eq]; decide⟩
  have z := PyData.shown_le 40 (by decide) d a1
  have z2 : (s + 110) * nodes d ≤ (s + 110) * g := Nat.mul_le_mul_left _ h.sz
  omega
theorem Ms.tup {w s M g : Nat} {ds : List PyData} (h : ∀ d ∈ ds, Ta w s M d) (lw : ds.length ≤ w) (l : 1 + nodesAll ds ≤ g) : Ms w s (M + 1) g (.tuple ds) := ⟨.tup h lw, by rw [nodes_tup]; exact l⟩
theorem Ms.lst {w s M g : Nat} {ds : List PyData} (h : ∀ d ∈ ds, Ta w s M d) (lw : ds.length ≤ w) (l : 1 + nodesAll ds ≤ g) : Ms w s (M + 1) g (.list ds) := ⟨.lst h lw, by rw [nodes_lst]; exact l⟩
end Fh
set_option Elab.async false
set_option linter.all false
set_option maxRecDepth 100000
set_option maxHeartbeats 2000000
namespace Fh
open PySem PySem.Spec PyProof.Rows L2
/-! ### == with an empty tuple, != with an empty list, < of two keys, lists that are data -/
section
variable {X : Cx}
def rT0 (K : PySem.W.Frag) (g : Bool → Bool) : R2 := fun x y H Q => ∃ (a b : Addr) (xs : List V), x = .ref a ∧ y = .ref b ∧ SqT K H a xs ∧ SqT K H b [] ∧ Q (.bl (g xs.isEmpty)) H
def rL0 (K : PySem.W.Frag) : R2 := fun x y H Q => ∃ (a b : Addr) (xs : List V), x = .ref a ∧ y = .ref b ∧ SqL K H a xs ∧ SqL K H b [] ∧ Q (.bl (!xs.isEmpty)) H
theorem none_left (n : Nat) (k : Bool) (h : k = decide (n = 0)) (e : Nat → Bool) : ((List.range (min n 0)).all e && k) = decide (n = 0) := by
  rw [Nat.min_zero, h]
  rfl
theorem empty_is {α β : Type} {xs : List α} {its : List β} (h : xs.length = its.length) : xs.isEmpty = decide (its.length = 0) := by
  cases xs with
  | nil =>
    rw [← h]
    rfl
  | cons x xs =>
    rw [← h]
    rfl
theorem op_eqT0 (hu : X.A.units < cLine) : OpR X (compareOp .Eq) (rT0 X.K id) := by
  intro pins s σ H x y v u Q I rx ry h
  obtain ⟨a, b, xs, rfl, rfl, ha, hb, q⟩ := h
  cases rx
  cases ry
  obtain ⟨its, r1, p1, _⟩ := I.tuple ha
  obtain ⟨its2, r2, p2, _⟩ := I.tuple hb
  cases r2
  refine SeqAt.eq_tupleAt (e := fun _ => true) p1 p2 hu (fun j h1 h2 => absurd h2 (by simp)) ⟨.bl _, H, I, ?_, q⟩
  rw [empty_is r1.length]
  show Value.bool _ = Value.bool _
  congr 1
  cases its with
  | nil => rfl
  | cons _ _ => simp
theorem op_neT0 (hu : X.A.units < cLine) : OpR X (compareOp .NotEq) (rT0 X.K not) := by
  intro pins s σ H x y v u Q I rx ry h
  obtain ⟨a, b, xs, rfl, rfl, ha, hb, q⟩ := h
  cases rx
  cases ry
  obtain ⟨its, r1, p1, _⟩ := I.tuple ha
  obtain ⟨its2, r2, p2, _⟩ := I.tuple hb
  cases r2
  refine SeqAt.RcNeAt.tuples (e := fun _ => true) p1 p2 hu (fun j h1 h2 => absurd h2 (by simp)) X.prog X.w X.xe (EP X pins σ Q) ⟨.bl _, H, I, ?_, q⟩
  rw [empty_is r1.length]
  show Value.bool _ = Value.bool _
  congr 1
  cases its with
  | nil => rfl
  | cons _ _ => simp
theorem op_neL0 (hu : X.A.units < cLine) : OpR X (compareOp .NotEq) (rL0 X.K) := by
  intro pins s σ H x y v u Q I rx ry h
  obtain ⟨a, b, xs, rfl, rfl, ha, hb, q⟩ := h
  cases rx
  cases ry
  obtain ⟨its, r1, p1, _⟩ := I.list ha
  obtain ⟨its2, r2, p2, _⟩ := I.list hb
  cases r2
  cases r1 with
  | nil => exact SeqAt.RcNeAt.lists (e := fun _ => true) p1.isList p2.isList rfl hu (fun j h1 h2 => absurd h2 (by simp)) X.prog X.w X.xe (EP X pins σ Q) ⟨.bl _, H, I, rfl, q⟩
  | cons r t => exact SeqAt.RcNeAt.lists_lengths p1.isList p2.isList (by simp) hu X.prog X.w X.xe (EP X pins σ Q) ⟨.bl _, H, I, rfl, q⟩
def rLtTri (K : PySem.W.Frag) : R2 := fun x y H Q => ∃ (a b : Addr) (τ υ : Tri), x = .ref a ∧ y = .ref b ∧ SqT K H a (τ.key.map kV) ∧ SqT K H b (υ.key.map kV) ∧ τ.Ok ∧ υ.Ok ∧ Q (.bl (decide (τ.rk < υ.rk))) H
def eT (τ υ : Tri) : Nat → Bool
  | 0 => ((τ.i : Int) == (υ.i : Int))
  | 1 => (sgn τ.c == sgn υ.c)
  | _ => ((τ.j : Int) == (υ.j : Int))
def lT (τ υ : Tri) : Nat → Bool
  | 0 => decide ((τ.i : Int) < (υ.i : Int))
  | 1 => decide ((sgn τ.c).cps.toList < (sgn υ.c).cps.toList)
  | _ => decide ((τ.j : Int) < (υ.j : Int))
theorem sgn_lt (c c' : Nat) : ([c] < [c']) ↔ c < c' := by
  constructor
  · intro h
    cases h with
    | rel h => exact h
    | cons h => cases h
  · exact fun h => .rel h
theorem lex_rk {τ υ : Tri} (a : τ.Ok) (b : υ.Ok) : Ob.lexAt (eT τ υ) (lT τ υ) (decide (3 < 3)) 0 (min 3 3) = decide (τ.rk < υ.rk) := by
  obtain ⟨i, c, j⟩ := τ
  obtain ⟨i', c', j'⟩ := υ
  obtain ⟨a1, a2⟩ := a
  obtain ⟨b1, b2⟩ := b
  dsimp only at a1 a2 b1 b2
  show (if ((i : Int) == (i' : Int)) = true then (if (sgn c == sgn c') = true then (if ((j : Int) == (j' : Int)) = true then decide (3 < 3) else decide ((j : Int) < (j' : Int))) else decide ((sgn c).cps.toList < (sgn c').cps.toList)) else decide ((i : Int) < (i' : Int))) = decide ((i : Int) * 8192 + (c : Int) * 64 + (j : Int) < (i' : Int) * 8192 + (c' : Int) * 64 + (j' : Int))
  have y : ((sgn c).cps.toList < (sgn c').cps.toList) ↔ c < c' := by
    exact sgn_lt c c'
  have z : (sgn c == sgn c') = decide (c = c') := by
    by_cases e : c = c'
    · rw [e, decide_eq_true rfl]
      exact beq_self_eq_true _
    · rw [decide_eq_false e]
      exact beq_eq_false_iff_ne.mpr fun z => e (sgn_inj z)
  have z1 : ∀ m n : Nat, ((m : Int) == (n : Int)) = decide (m = n) := fun m n => by
    by_cases e : m = n
    · rw [e, decide_eq_true rfl]
      exact beq_self_eq_true _
    · rw [decide_eq_false e]
      exact beq_eq_false_iff_ne.mpr fun z => e (by omega)
  rw [z, z1, z1]
  by_cases e1 : i = i'
  · rw [decide_eq_true e1, if_pos rfl]
    by_cases e2 : c = c'
    · rw [decide_eq_true e2, if_pos rfl]
      by_cases e3 : j = j'
      · rw [decide_eq_true e3, if_pos rfl]
        exact decide_eq_decide.mpr ⟨fun h => absurd h (by decide), fun h => by omega⟩
      · rw [decide_eq_false e3, if_neg Bool.false_ne_true]
        exact decide_eq_decide.mpr ⟨fun h => by omega, fun h => by omega⟩
    · rw [decide_eq_false e2, if_neg Bool.false_ne_true]
      refine decide_eq_decide.mpr (y.trans ⟨fun h => by omega, fun h => by omega⟩)
  · rw [decide_eq_false e1, if_neg Bool.false_ne_true]
    exact decide_eq_decide.mpr ⟨fun h => by omega, fun h => by omega⟩
theorem op_ltTri (hu : X.A.units < cLine) : OpR X (compareOp .Lt) (rLtTri X.K) := by
  intro pins s σ H x y v u Q I rx ry h
  obtain ⟨a, b, τ, υ, rfl, rfl, ha, hb, o1, o2, q⟩ := h
  cases rx
  cases ry
  obtain ⟨a', o, n, t1, t2, t3, ea, ho, hc, hd⟩ := Has.raw (⟨a, rfl, at_of I ha⟩ : Has X.prog X.w s.heap (.ref a) τ)
  obtain ⟨b', p, m, u1, u2, u3, eb, hp, hc2, hd2⟩ := Has.raw (⟨b, rfl, at_of I hb⟩ : Has X.prog X.w s.heap (.ref b) υ)
  cases ea
  cases eb
  have R := Ob.RcOp.tuples_lt (A := X.A) (s := s) (e := eT τ υ) (r := lT τ υ) ⟨o, ho, hc, n, hd⟩ ⟨p, hp, hc2, m, hd2⟩ hu (fun j h1 h2 => by
    match j, h1 with
    | 0, _ => exact SeqAt.EqAt.int_int _ _ _ _
    | 1, _ => exact SeqAt.EqAt.str_str _ _ _ _
    | 2, _ => exact SeqAt.EqAt.int_int _ _ _ _
    | j + 3, h1 => exact absurd h1 (by simp)) (fun j h1 h2 _ => by
    match j, h1 with
    | 0, _ => exact Ob.RcOp.lt_int _ _ _ _
    | 1, _ => exact fun _ _ _ _ h => PyProof.Rows.lt_str h
    | 2, _ => exact Ob.RcOp.lt_int _ _ _ _
    | j + 3, h1 => exact absurd h1 (by simp))
  have z : wpAny (model X.prog X.w) X.A (compareOp .Lt (.ref a) (.ref b)) (EP X pins σ Q) X.xe s := R X.prog X.w X.xe (EP X pins σ Q) ⟨.bl _, H, I, by
    show Value.bool _ = Value.bool _
    congr 1
    exact lex_rk o1 o2, q⟩
  exact z
/-- a list written out, as data -/
def tLstN (t : TA) : TE := fun σ H Q => t σ H fun xs H1 => xs.length ≤ sizeLine ∧ ∀ p, H1 p = none → p ≠ sysModules → Q (.ref p) (upd H1 p (.lst xs))
theorem pe_lstN {es : List Expr} {t : TA} {pos : Pos} (h : PA X es t) : PE X (.List es pos) (tLstN t) := by
  refine ⟨fun pins s σ H Q I hq => ?_⟩
  refine wpAny_List_spliced (thn (h.run pos pins s σ H _ I hq) fun us s1 ⟨xs, H1, I1, r, z, q⟩ => ⟨by rw [← r.length]; exact z, ?_⟩)
  have hf : H1 s1.heap.objs.size = none := I1.hok.fresh (Nat.le_refl _)
  refine ⟨.ref s1.heap.objs.size, upd H1 s1.heap.objs.size (.lst xs), I1.laid (t' := s1.toks) (fun b u e => Heap.get?_push_of_some _ e) (Nat.le_refl _) ?_, rfl, q _ hf (fun e => absurd I1.big (by rw [← e]; exact Nat.lt_irrefl _))⟩
  exact ⟨z, us, 0, r, Heap.get?_push_size _ rfl⟩
def rListN (K : PySem.W.Frag) : List V → Hp → VK → Prop := fun xs H Q => ∃ p ys, xs = [.ref p] ∧ SqT K H p ys ∧ ∀ l, H l = none → l ≠ sysModules → Q (.ref l) (upd H l (.lst ys))
theorem call_listN : CallR X (.type "list") (rListN X.K) := by
  intro pins s σ H xs us Q I r h
  obtain ⟨p, ys, rfl, hq, q⟩ := h
  obtain ⟨u, rfl, rx⟩ := r.one
  cases rx
  obtain ⟨its, r', pl, hz⟩ := I.tuple hq
  have hlen := r'.length
  obtain ⟨o, ho, hc, n, hd⟩ := pl
  refine call_list_seq p (.inr rfl) ho hc hd (fun h' c' kp e => ?_) (by simp only [List.size_toArray] <;> omega)
  exact ⟨.ref s.heap.objs.size, _, I.laid (t' := s.toks) kp (Nat.le_refl _) (show ObjOk X.prog X.w _ h' _ (.lst ys) from ⟨hz, its, c', r', e⟩), rfl, q _ (I.hok.fresh (Nat.le_refl _)) (fun e => absurd I.big (by rw [← e]; exact Nat.lt_irrefl _))⟩
end
end Fh
set_option Elab.async false
set_option linter.all false
set_option maxRecDepth 100000
set_option maxHeartbeats 2000000
namespace Fh
open PySem L2 TL
/-! ### the law's own look -/
def adj : List Int → Bool
  | x :: y :: l => decide (x < y) && adj (y :: l)
  | _ => true
theorem adj_pw : ∀ ks : List Int, adj ks = decide (ks.Pairwise (· < ·))
  | [] => rfl
  | [x] => by
    show true = _
    exact (decide_eq_true (List.pairwise_singleton _ _)).symm
  | x :: y :: l => by
    show (decide (x < y) && adj (y :: l)) = _
    rw [adj_pw (y :: l)]
    by_cases h : x < y
    · rw [decide_eq_true h, Bool.true_and]
      refine decide_eq_decide.mpr ⟨fun p => List.pairwise_cons.mpr ⟨fun z m => ?_, p⟩, fun p => (List.pairwise_cons.mp p).2⟩
      rcases List.mem_cons.mp m with rfl | m
      · exact h
      · have := (List.pairwise_cons.mp p).1 z m
        omega
    · rw [decide_eq_false h, Bool.false_and]
      exact (decide_eq_false fun p => h ((List.pairwise_cons.mp p).1 y (.head _))).symm
def nth (ks : List Int) (i : Nat) : Int := ks.getD i 0
theorem adj_at : ∀ ks : List Int, ((List.range (ks.length - 1)).all fun i => decide (nth ks i < nth ks (i + 1))) = adj ks
  | [] => rfl
  | [x] => rfl
  | x :: y :: l => by
    have ih := adj_at (y :: l)
    show ((List.range (l.length + 1)).all _) = (decide (x < y) && adj (y :: l))
    rw [List.range_succ_eq_map, List.all_cons, List.all_map, ← ih]
    rfl
theorem walk_zipT {K : PySem.W.Frag} {a b : Addr} {xs ys : List L2.V} {n : Nat} (hn : n = min xs.length ys.length) : Walk (RZ.ItzT K a b) n (fun H => SqT K H a xs ∧ SqT K H b ys) (YPair (fun i => xs[i]?) (fun i => ys[i]?)) := by
  subst hn
  refine ⟨fun i _ hi q => ?_, fun _ q => ⟨xs, ys, q.1, q.2, by omega⟩, fun i H v H' _ q y => ?_⟩
  · have h1 : i < xs.length := by omega
    have h2 : i < ys.length := by omega
    exact ⟨xs, ys, xs[i], ys[i], q.1, q.2, by simp [h1], by simp [h2]⟩
  · obtain ⟨T, x, z, h1, h2, h3, h4, h5⟩ := y
    exact ⟨T, x, z, h1, h2, h3, h4 xs q.1, h5 ys q.2⟩
def rSlB (K : PySem.W.Frag) : V → Option Int → Option Int → Hp → VK → Prop := fun x lo hi H Q => ∃ a xs, x = .ref a ∧ SqT K H a xs ∧ lo = some 1 ∧ hi = none ∧ ∀ b H', Same H H' → SqT K H' b (xs.drop 1) → Q (.ref b) H'
/-- all but the first -/
theorem sl_tail {X : Cx} : SlR X (rSlB X.K) := by
  intro pins s σ H x v vl vu lo hi sl Q I rx hs pl pu h
  obtain ⟨a, xs, rfl, hx, rfl, rfl, q⟩ := h
  refine sl_tupA pins s σ H _ v vl vu _ _ sl Q I rx hs pl pu ⟨a, xs, rfl, hx, fun hw => ?_, fun hw p hp => ?_⟩
  · have e : xs = [] := by
      have := hw.1
      rw [show (1 : Int) = ((1 : Nat) : Int) from rfl, HT.sIx_nat] at this
      exact List.eq_nil_of_length_eq_zero (by omega)
    subst e
    exact q a H (fun _ _ e => e) hx
  · refine q p _ (same_new hp _) (.inl (.inl ?_))
    have e : cutV xs (some 1) none = xs.drop 1 := by
      unfold cutV
      rw [show (1 : Int) = ((1 : Nat) : Int) from rfl, HT.sIx_nat]
      show (xs.drop (min 1 xs.length)).take (xs.length - min 1 xs.length) = _
      cases xs with
      | nil => rfl
      | cons x xs =>
        rw [Nat.min_eq_left (by simp)]
        exact List.take_of_length_le (by simp)
    rw [← e]
    exact upd_same
/-- a comprehension over neighbours -/
theorem lc_next {K : PySem.W.Frag} {a b D : Addr} {xs : List V} {s t : Nat} {te : TE} {vs : List Nat} {σ : L2.St} {H1 : Hp} {Qd : Hp → Prop} (f : Nat → Bool)
    (hw : ∀ u v, wipe (((wipe σ vs).set s (some u)).set t (some v)) vs = wipe σ vs) (hn : xs.length ≤ 10000) (hD : H1 D = none) (ha : SqT K H1 a xs) (hb : SqT K H1 b (xs.drop 1))
    (he : ∀ (i : Nat) (u v : V) (H : Hp) (Q : VK), xs[i]? = some u → xs[i + 1]? = some v → Same H1 H → (∀ H', Same H H' → Q (.bl (f i)) H') → te (((wipe σ vs).set s (some u)).set t (some v)) H Q)
    (hd : ∀ H, H D = some (.lst (((List.range (xs.length - 1)).map f).map V.bl)) → Same H1 H → Qd H) :
    ∃ W : Nat → Nat → Hp → Prop, (∃ m, W 0 m (upd H1 D (.lst []))) ∧ ∀ i m H, W i m H →
      ((RZ.ItzT K a b).stop i H ∧ Qd H) ∨ ((RZ.ItzT K a b).go i H ∧ ∃ Nx : Hp → Prop, (∀ H', Nx H' → ∃ m', m' < m ∧ W (i + 1) m' H') ∧ ∀ x H', (RZ.ItzT K a b).yld i H x H' → gTup K 2 (gCons (gName s) (gCons (gName t) gNil)) x (wipe σ vs) H' fun σ2 H2 => wipe σ2 vs = wipe σ vs ∧ tYes σ2 H2 fun b H3 =>
        if b = true then te σ2 H3 fun y H4 => ∃ acc, H4 D = some (.lst acc) ∧ acc.length < sizeLine ∧ Nx (upd H4 D (.lst (acc ++ [y]))) else Nx H3) := by
  refine lc_it (walk_zipT (xs := xs) (ys := xs.drop 1) (n := xs.length - 1) (by rw [List.length_drop]; omega)) (fun i H => H D = some (.lst (((List.range i).map f).map V.bl)) ∧ Same H1 H) ⟨upd_same, same_new hD _⟩ (fun i H hi p => ⟨same_sqT p.2 ha, same_sqT p.2 hb⟩) (fun i x H H' hi p y => ?_) (fun H p => hd H p.1 p.2)
  obtain ⟨g1, g2⟩ := p
  obtain ⟨Tt, xv, yv, rfl, hT, rfl, hxv, hyv⟩ := y
  have sT := same_new hT (.tup [xv, yv])
  have g3 := sT _ _ g1
  have g4 := Same.trans g2 sT
  refine ⟨Tt, _, rfl, .inl (.inl upd_same), rfl, _, _, rfl, _, _, rfl, rfl, hw _ _, ?_⟩
  simp only [tYes, ↓reduceIte]
  generalize upd H Tt (.tup [xv, yv]) = H3 at g3 g4 ⊢
  have hyv : (xs.drop 1)[i]? = some yv := hyv
  refine he i xv yv H3 _ hxv (by rw [List.getElem?_drop] at hyv; rw [Nat.add_comm]; exact hyv) g4 fun H4 s4 => ⟨_, s4 _ _ g3, ?_, ?_, fun p ob hp => ?_⟩
  · rw [List.length_map, List.length_map, List.length_range]
    exact Nat.lt_of_lt_of_le (by omega : i < 10001) (by rw [sizeLine_eq]; decide)
  · rw [upd_same, List.range_succ, List.map_append, List.map_append]
    rfl
  · rw [upd_ne (ne_of_none hp hD)]
    exact s4 _ _ (g4 _ _ hp)
theorem alpha_is : tl alpha = (List.range 26).map (· + 97) := by decide +kernel
theorem ink_sign (c : Nat) : ((!decide ([c] < [97])) && (!decide ([122] < [c]))) = decide (c ∈ tl alpha) := by
  rw [alpha_is]
  have a : ([c] < [97]) ↔ c < 97 := sgn_lt c 97
  have b : ([122] < [c]) ↔ 122 < c := sgn_lt 122 c
  by_cases h : 97 ≤ c ∧ c ≤ 122
  · rw [decide_eq_false (fun z => by have := a.mp z; omega), decide_eq_false (fun z => by have := b.mp z; omega)]
    exact (decide_eq_true (List.mem_map.mpr ⟨c - 97, List.mem_range.mpr (by omega), by omega⟩)).symm
  · rw [show decide (c ∈ (List.range 26).map (· + 97)) = false from decide_eq_false fun z => by
      obtain ⟨i, hi, rfl⟩ := List.mem_map.mp z
      have := List.mem_range.mp hi
      exact h ⟨by omega, by omega⟩]
    by_cases h1 : c < 97
    · rw [decide_eq_true (a.mpr h1)]
      rfl
    · rw [decide_eq_true (b.mpr (by omega))]
      exact Bool.and_false _
abbrev s__law_is_number : Stmt := top 40
abbrev sc__law_is_numberN : List Str := ["_law_thing", "_law_upto"]
theorem sc__law_is_number : FnScope sc__law_is_numberN ["_law_thing", "_law_upto"] (defScope s__law_is_number) := ⟨rfl, rfl, rfl, by decide +kernel, rfl, by decide +kernel, by decide +kernel⟩
abbrev s__law_is_ink : Stmt := top 41
abbrev sc__law_is_inkN : List Str := ["_law_thing", "_law_sign"]
theorem sc__law_is_ink : FnScope sc__law_is_inkN ["_law_thing"] (defScope s__law_is_ink) := ⟨rfl, rfl, rfl, by decide +kernel, rfl, by decide +kernel, by decide +kernel⟩
abbrev s__law_are_steps : Stmt := top 42
abbrev sc__law_are_stepsN : List Str := ["_law_thing", "_law_many", "_law_row", "_law_one"]
theorem sc__law_are_steps : FnScope sc__law_are_stepsN ["_law_thing", "_law_many"] (defScope s__law_are_steps) := ⟨rfl, rfl, rfl, by decide +kernel, rfl, by decide +kernel, by decide +kernel⟩
abbrev scStep : Scope := { kind := .function, names := [(".0", .local), ("_law_row", .local), ("len", .globalImplicit), ("all", .globalImplicit), ("_law_many", .cell), ("_law_thing", .cell)], isGenerator := false, isCoroutine := false }
section
variable {P : Program} {w : World} {K : PySem.W.Frag} {mg : Str → Option Value} {base : Heap}
theorem ok_lnum {f : Addr} {fd : FuncData} (F : Fun K "_law_is_number" "_law_is_number" s__law_is_number f fd) (T : Bare mg) (C : Con K mg) : FnOk P w K mg base CX0 1 f fd ["_law_thing", "_law_upto"] (spTestN K isState) := by
  refine F.ok sc__law_is_number (fun vs H Q E h => ?_) (fun cdv A outer st H vs Q E hr h => ?_)
  · obtain ⟨v, d, n, rfl, _⟩ := h
    rfl
  obtain ⟨v, d, n, rfl, hd, hf, q⟩ := h
  refine ⟨_, (pss_one (ps_ret (pe_and (pe_callB call_isD (by rfl) C.isi boot_isi (pa_cons (pv 0) (pa_cons (pe_bltn (v := .ty "int") (u := .type "int") (by rfl) T.int (by decide +kernel) rfl) pa_nil))) (pe_and (pe_not (pe_callB call_isD (by rfl) C.isi boot_isi (pa_cons (pv 0) (pa_cons (pe_bltn (v := .ty "bool") (u := .type "bool") (by rfl) C.bool (by decide +kernel) rfl) pa_nil)))) (pe_one (pe_chain op_le op_lt pe_int (pv 0) (pv 1))))))), ?_⟩
  refine ⟨v, rfl, v, d, "int", rfl, hd, .inr (.inr (.inl rfl)), _, rfl, ite2 (fun h1 => ?_) (fun h1 => ?_)⟩
  rotate_left
  · refine q _ H (fun _ _ e => e) ?_
    cases d with
    | int i => exact absurd ((isT_num (.int i)).mpr ⟨i, rfl⟩).1 h1
    | _ => rfl
  refine ⟨v, rfl, v, d, "bool", rfl, hd, .inr (.inr (.inr rfl)), _, rfl, _, rfl, ite2 (fun h2 => ?_) (fun h2 => ?_)⟩
  rotate_left
  · refine q _ H (fun _ _ e => e) ?_
    cases d with
    | int i =>
      have := ((isT_num (.int i)).mpr ⟨i, rfl⟩).2
      rw [this] at h2
      exact absurd rfl h2
    | _ => rfl
  obtain ⟨i, rfl⟩ := (isT_num d).mp ⟨h1, by simpa using h2⟩
  cases hd
  refine ⟨_, rfl, 0, i, rfl, rfl, _, rfl, ite2 (fun h3 => ⟨_, rfl, i, n, rfl, rfl, q _ H (fun _ _ e => e) ?_⟩) (fun h3 => q _ H (fun _ _ e => e) ?_)⟩
  · show (decide (0 ≤ i) && decide (i < (n : Int))) = _
    rw [h3, Bool.true_and]
  · show (decide (0 ≤ i) && decide (i < (n : Int))) = _
    rw [Bool.eq_false_iff.mpr h3, Bool.false_and]
theorem ok_lawink {f : Addr} {fd : FuncData} (F : Fun K "_law_is_ink" "_law_is_ink" s__law_is_ink f fd) (T : Bare mg) (C : Con K mg) : FnOk P w K mg base CX0 1 f fd ["_law_thing"] (spTest K inkOk) := by
  refine F.ok sc__law_is_ink (fun vs H Q E h => ?_) (fun cdv A outer st H vs Q E hr h => ?_)
  · obtain ⟨v, d, rfl, _⟩ := h
    rfl
  obtain ⟨v, d, rfl, hd, hf, q⟩ := h
  refine ⟨_, (pss_one (ps_ret (pe_and (pe_callB call_isD (by rfl) C.isi boot_isi (pa_cons (pv 0) (pa_cons (pe_bltn (v := .ty "str") (u := .type "str") (by rfl) T.str (by decide +kernel) rfl) pa_nil))) (pe_and (pe_cmpR op_ne (pv 0) pe_str (nomark _)) (pe_one (pe_all (K := K) rfl rfl (by rfl) C.all (pa_cons (pe_lc (own := [("_law_sign", 1)]) (g := gName 1) rfl sc__law_is_ink.nd (pi_str (pv 0)) (blkOk_by (N := sc__law_is_inkN) (sc := defScope s__law_is_ink) (by decide +kernel)) (fun _ _ _ _ _ => pg_name (i := 1) sc__law_is_ink.nd rfl (Or.inl rfl)) (fun _ _ _ _ _ => pts_nil) (fun _ _ _ _ _ => (pe_chain op_le_str op_le_str pe_str (pv 1) pe_str))) pa_nil))))))), ?_⟩
  refine ⟨v, rfl, v, d, "str", rfl, hd, .inr (.inl rfl), _, rfl, ?_⟩
  by_cases hs : isT "str" d = true
  rotate_left
  · rw [Bool.eq_false_iff.mpr hs]
    refine iteF (q false H (fun _ _ e => e) ?_)
    cases d with
    | str z => exact absurd ((isT_str _).mpr ⟨z, rfl⟩) hs
    | _ => rfl
  obtain ⟨z, rfl⟩ := (isT_str d).mp hs
  rw [hs]
  have hz := fit_str.mp hf
  cases hd
  refine iteT ⟨_, rfl, rfl, _, rfl, ?_⟩
  have hne : decide (V.str z = V.str "") = decide (z = "") := by
    by_cases e : z = ""
    · rw [e]; exact (decide_eq_true rfl).trans (decide_eq_true rfl).symm
    · rw [decide_eq_false e]
      exact decide_eq_false fun h => e (by injection h)
  rw [hne]
  refine ite2 (fun h1 => ⟨_, rfl, z, rfl, fun D hD => lc_signs z (fun c => (!decide ([c] < [97])) && (!decide ([122] < [c]))) (fun _ => rfl) (by omega) (fun c H' Q' k => ⟨_, rfl, "a", _, rfl, rfl, _, rfl, ?_⟩) ?_⟩) (fun h1 => q _ H (fun _ _ e => e) ?_)
  · have k' : ∀ b : Bool, ((!decide ([c] < [97])) && (!decide ([122] < [c]))) = b → Q' (.bl b) H' := fun b e => e ▸ k
    refine ite2 (fun h3 => ⟨_, "z", rfl, rfl, k' _ ?_⟩) (fun h3 => k' _ ?_)
    · have h3 : (!decide ([c] < [97])) = true := h3
      rw [h3]
      rfl
    · have h3 : ¬ (!decide ([c] < [97])) = true := h3
      have e : (!decide ([c] < [97])) = false := Bool.eq_false_iff.mpr h3
      rw [e]
      rfl
  · refine ⟨D, _, rfl, .inl (.inl upd_same), q _ _ (same_new hD _) ?_⟩
    show (decide (z ≠ "") && ofLetters z) = _
    have : z ≠ "" := fun e => by
      rw [decide_eq_true e] at h1
      cases h1
    rw [decide_eq_true this, Bool.true_and]
    rw [List.all_map]
    unfold ofLetters
    congr 1
    funext c
    exact (ink_sign c).symm
  · show (decide (z ≠ "") && ofLetters z) = _
    have : z = "" := by
      by_cases e : z = ""
      · exact e
      · rw [decide_eq_false e] at h1
        exact absurd rfl h1
    rw [decide_eq_false (fun h => h this), Bool.false_and]
theorem ok_lsteps {f : Addr} {fd : FuncData} (F : Fun K "_law_are_steps" "_law_are_steps" s__law_are_steps f fd) (T : Bare mg) (C : Con K mg) (CN : Callee P w K mg base 1 "_law_is_number" ["_law_thing", "_law_upto"] (spTestN K isState)) : FnOk P w K mg base CX0 2 f fd ["_law_thing", "_law_many"] (spTestN K movesOk) := by
  refine F.ok sc__law_are_steps (fun vs H Q E h => ?_) (fun cdv A outer st H vs Q E hr h => ?_)
  · obtain ⟨v, d, n, rfl, _⟩ := h
    rfl
  obtain ⟨v, d, n, rfl, hd, hf, q⟩ := h
  refine ⟨_, (pss_cons (ps_if (PW.pt (pw_or (pt_not (pt_val (pe_callB call_isD (by rfl) C.isi boot_isi (pa_cons (pv 0) (pa_cons (pe_bltn (v := .ty "tuple") (u := .type "tuple") (by rfl) T.tuple (by decide +kernel) rfl) pa_nil))))) (pw_or (pt_cmpR (op_eqT0 (Nat.lt_of_le_of_lt (Nat.le_add_right _ 64) hr.units)) (pv 0) (pe_tup pa_nil) (nomark _)) (pw_or1 (pt_not (pt_val (pe_all (K := K) rfl rfl (by rfl) C.all (pa_cons (pe_lc (own := [("_law_row", 2)]) (g := gName 2) rfl sc__law_are_steps.nd (pi_tup (pv 0)) (blkOk_by (N := sc__law_are_stepsN) (sc := defScope s__law_are_steps) (by decide +kernel)) (fun _ _ _ _ _ => pg_name (i := 2) sc__law_are_steps.nd rfl (Or.inl rfl)) (fun _ _ _ _ _ => pts_nil) (fun _ _ _ _ _ => (pe_callB (call_isB (K := K) rfl) (by rfl) C.isi boot_isi (pa_cons (pv 2) (pa_cons (pe_bltn (v := .ty "tuple") (u := .type "tuple") (by rfl) T.tuple (by decide +kernel) rfl) pa_nil))))) pa_nil))))))))
(pss_one (ps_ret pe_bl))
pss_nil)
(pss_one (ps_ret (pe_all (K := K) rfl rfl (by rfl) C.all (pa_cons (pe_lc (own := [("_law_row", 2)]) (g := gName 2) rfl sc__law_are_steps.nd (pi_tup (pv 0)) (blkOk_by (N := sc__law_are_stepsN) (sc := defScope s__law_are_steps) (by decide +kernel)) (fun _ _ _ _ _ => pg_name (i := 2) sc__law_are_steps.nd rfl (Or.inl rfl)) (fun _ _ _ _ _ => pts_nil) (fun _ _ _ _ _ => (pe_and (pe_cmpR op_eq (pe_callB (call_lenB (K := K) rfl) (by rfl) T.len PySem.boot_len (pa_cons (pv 2) pa_nil)) (pv 1) (nomark _)) (pe_one (pe_all (K := K) rfl rfl (by rfl) C.all (pa_cons (pe_lc (own := [("_law_one", 3)]) (g := gName 3) rfl sc__law_are_steps.nd (pi_tupB (K := K) rfl (pv 2)) (blkOk_by (N := sc__law_are_stepsN) (sc := scStep) (by decide +kernel)) (fun _ _ _ _ _ => pg_name (i := 3) sc__law_are_steps.nd rfl (Or.inl rfl)) (fun _ _ _ _ _ => pts_nil) (fun _ _ _ _ _ => (pe_call CN.ok (hr.mono (by decide)) rfl CN.mg CN.kp CN.b .nil pass0 (pa_cons (pv 3) (pa_cons (pe_callB (call_lenB (K := K) rfl) (by rfl) T.len PySem.boot_len (pa_cons (pv 0) pa_nil)) pa_nil))))) pa_nil)))))) pa_nil))))), ?_⟩
  refine ⟨v, rfl, v, d, "tuple", rfl, hd, .inl rfl, _, rfl, ?_⟩
  by_cases hs : isT "tuple" d = true
  rotate_left
  · rw [Bool.eq_false_iff.mpr hs]
    refine iteT (q false H (fun _ _ e => e) ?_)
    cases d with
    | tuple ts => exact absurd ((isT_tuple _).mpr ⟨ts, rfl⟩) hs
    | _ => rfl
  obtain ⟨rows, rfl⟩ := (isT_tuple d).mp hs
  rw [hs]
  obtain ⟨hw, hrows⟩ := fit_tup.mp hf
  cases hd with
  | @tup a xs _ hq hall =>
  have hl := hall.len
  have he : xs.isEmpty = rows.isEmpty := by
    cases xs with
    | nil =>
      cases rows with
      | nil => rfl
      | cons _ _ => simp at hl
    | cons _ _ =>
      cases rows with
      | nil => simp at hl
      | cons _ _ => rfl
  refine iteF ⟨.ref a, rfl, small (by decide), fun r hr0 => ⟨a, r, xs, rfl, rfl, same_sqT (same_new hr0 _) hq, .inl (.inl upd_same), _, rfl, ?_⟩⟩
  have s0 : Same H (upd H r (.tup [])) := same_new hr0 _
  have f0 : movesOk n (.tuple rows) = (!rows.isEmpty && rows.all (rowOk n rows.length)) := rfl
  generalize upd H r (.tup []) = H0 at s0 ⊢
  rw [he]
  refine ite2 (fun h => ?_) (fun h => ?_)
  · refine q false H0 s0 ?_
    have h : rows.isEmpty = true := h
    rw [f0, h]
    rfl
  have hne : rows.isEmpty = false := Bool.eq_false_iff.mpr h
  have hall0 := hall.same s0
  have hq0 := same_sqT s0 hq
  refine ⟨.ref a, rfl, a, rfl, ⟨_, hq0⟩, fun D hD => lc_test (walk_tup (xs := xs)) (isT "tuple") hall0 (fun _ => rfl) (by omega) hD (fun H' s => same_sqT s hq0) (fun i u r H1 Q' hr1 hdr s1 k => ?_) (fun H1 hD1 s1 => ?_)⟩
  · exact ⟨u, rfl, u, r, "tuple", rfl, hdr, .inl rfl, k _ H1 (fun _ _ e => e) rfl⟩
  refine ⟨D, _, rfl, .inl (.inl hD1), _, rfl, ?_⟩
  rw [all_f]
  have s01 := Same.trans s0 s1
  refine ite2 (fun h3 => ?_) (fun h3 => ?_)
  · refine q false H1 s01 ?_
    rw [f0, hne]
    have : ¬ rows.all (isT "tuple") = true := by
      have h3 : (!rows.all (isT "tuple")) = true := h3
      rw [Bool.not_eq_true'] at h3
      rw [h3]
      exact Bool.false_ne_true
    refine Bool.eq_false_iff.mpr fun z => this (List.all_eq_true.mpr fun r m => ?_)
    have := List.all_eq_true.mp z r m
    cases r with
    | tuple ss => exact (isT_tuple _).mpr ⟨ss, rfl⟩
    | _ => cases this
  have h4 : rows.all (isT "tuple") = true := by
    have h3 : ¬ (!rows.all (isT "tuple")) = true := h3
    simpa using h3
  have hall1 := hall.same s01
  have hq1 := same_sqT s01 hq
  refine ⟨.ref a, rfl, a, rfl, ⟨_, hq1⟩, fun D2 hD2 => lc_test (walk_tup (xs := xs)) (rowOk n rows.length) hall1 (fun _ => rfl) (by omega) hD2 (fun H' s => same_sqT s hq1) (fun i u r H2 Q' hr1 hdr s2 k => ?_) (fun H2 hD3 s2 => ?_)⟩
  · have hfr := hrows r (List.mem_of_getElem? hr1)
    obtain ⟨ss, rfl⟩ := (isT_tuple r).mp (List.all_eq_true.mp h4 r (List.mem_of_getElem? hr1))
    obtain ⟨hw2, hss⟩ := fit_tup.mp hfr
    cases hdr with
    | @tup b ys _ hq2 hall2 =>
    have hl2 := hall2.len
    have hdec : decide (V.int (ys.length : Int) = V.int (n : Int)) = decide (ss.length = n) := by
      rw [hl2]
      exact decide_eq_decide.mpr ⟨fun h => by injection h with h; omega, fun h => by rw [h]⟩
    have f1 : rowOk n rows.length (.tuple ss) = (decide (ss.length = n) && ss.all (isState rows.length)) := rfl
    refine ⟨.ref b, rfl, b, ys, rfl, .inr hq2, .int (n : Int), rfl, rfl, _, rfl, ?_⟩
    rw [hdec]
    refine ite2 (fun h5 => ?_) (fun h5 => ?_)
    rotate_left
    · refine k _ H2 (fun _ _ e => e) ?_
      rw [f1, Bool.eq_false_iff.mpr h5, Bool.false_and]
    refine ⟨.ref b, rfl, b, rfl, ⟨_, hq2⟩, fun D4 hD4 => lc_test (walk_tup (xs := ys)) (isState rows.length) hall2 (fun _ => rfl) (by omega) hD4 (fun H' s => same_sqT s hq2) (fun j u2 x H3 Q2 hx hdx s3 k3 => ?_) (fun H3 hD5 s3 => ?_)⟩
    · refine ⟨u2, rfl, .ref a, rfl, a, xs, rfl, .inr (same_sqT s3 (same_sqT s2 hq1)), u2, x, rows.length, ?_, hdx, hss x (List.mem_of_getElem? hx), k3⟩
      rw [hl]
      rfl
    · refine ⟨D4, _, rfl, .inl (.inl hD5), ?_⟩
      refine k _ H3 s3 ?_
      rw [f1, h5, Bool.true_and, all_f]
  · refine ⟨D2, _, rfl, .inl (.inl hD3), ?_⟩
    refine q _ H2 (Same.trans s01 s2) ?_
    rw [f0, hne, all_f]
    rfl
end
end Fh
set_option Elab.async false
set_option linter.all false
set_option maxRecDepth 100000
set_option maxHeartbeats 4000000
namespace Fh
open PySem L2 TL
/-! ### marks and places by the law's own look -/
theorem adj_n (ns : List Nat) : adj (ns.map fun (n : Nat) => (n : Int)) = ascN ns := by
  rw [adj_pw]
  exact decide_eq_decide.mpr List.pairwise_map
theorem adj_t (τs : List Tri) : adj (τs.map Tri.rk) = ascT τs := by
  rw [adj_pw]
  exact decide_eq_decide.mpr List.pairwise_map
theorem nth_map {α : Type} {l : List α} {f : α → Int} {i : Nat} {a : α} (h : l[i]? = some a) : nth (l.map f) i = f a := by
  unfold nth
  rw [List.getD_eq_getElem?_getD, List.getElem?_map, h]
  rfl
def two : PyData → Bool
  | .tuple [_, _] => true
  | _ => false
theorem mark_two {n : Nat} {d : PyData} (h : markOk n d = true) : two d = true := by
  obtain ⟨z, y, rfl, _⟩ := mark_shape h
  rfl
theorem two_shape {d : PyData} (h : two d = true) : ∃ x y, d = .tuple [x, y] := by
  unfold two at h
  split at h
  · exact ⟨_, _, rfl⟩
  · cases h
abbrev s__law_are_said : Stmt := top 43
abbrev sc__law_are_saidN : List Str := ["_law_thing", "_law_upto", "_law_row", "_law_one", "_law_other"]
theorem sc__law_are_said : FnScope sc__law_are_saidN ["_law_thing", "_law_upto"] (defScope s__law_are_said) := ⟨rfl, rfl, rfl, by decide +kernel, rfl, by decide +kernel, by decide +kernel⟩
abbrev s__law_is_row : Stmt := top 44
abbrev sc__law_is_rowN : List Str := ["_law_symbols", "_law_thing", "_law_many_lefts", "_law_many_rights"]
theorem sc__law_is_row : FnScope sc__law_is_rowN ["_law_symbols", "_law_thing", "_law_many_lefts", "_law_many_rights"] (defScope s__law_is_row) := ⟨rfl, rfl, rfl, by decide +kernel, rfl, by decide +kernel, by decide +kernel⟩
def spRow (K : PySem.W.Frag) : Sp := fun vs H Q _ => ∃ (S : Str) (v : V) (d : PyData) (m n : Nat), vs = [.str S, v, .int (m : Int), .int (n : Int)] ∧ S.length ≤ 900 ∧ Dv K H v d ∧ Fit d ∧ ∀ (c : Bool) H', Same H H' → placeOk S m n d = c → Q (.bl c) H'
section
variable {P : Program} {w : World} {K : PySem.W.Frag} {mg : Str → Option Value} {base : Heap}
theorem ok_lsaid {f : Addr} {fd : FuncData} (F : Fun K "_law_are_said" "_law_are_said" s__law_are_said f fd) (T : Bare mg) (C : Con K mg) (CN : Callee P w K mg base 1 "_law_is_number" ["_law_thing", "_law_upto"] (spTestN K isState)) (CI : Callee P w K mg base 1 "_law_is_ink" ["_law_thing"] (spTest K inkOk)) : FnOk P w K mg base CX0 2 f fd ["_law_thing", "_law_upto"] (spTestN K marksOk) := by
  refine F.ok sc__law_are_said (fun vs H Q E h => ?_) (fun cdv A outer st H vs Q E hr h => ?_)
  · obtain ⟨v, d, n, rfl, _⟩ := h
    rfl
  obtain ⟨v, d, n, rfl, hd, hf, q⟩ := h
  refine ⟨_, (pss_cons (ps_if (PW.pt (pw_or (pt_not (pt_val (pe_callB call_isD (by rfl) C.isi boot_isi (pa_cons (pv 0) (pa_cons (pe_bltn (v := .ty "tuple") (u := .type "tuple") (by rfl) T.tuple (by decide +kernel) rfl) pa_nil))))) (pw_or1 (pt_not (pt_val (pe_all (K := K) rfl rfl (by rfl) C.all (pa_cons (pe_lc (own := [("_law_row", 2)]) (g := gName 2) rfl sc__law_are_said.nd (pi_tup (pv 0)) (blkOk_by (N := sc__law_are_saidN) (sc := defScope s__law_are_said) (by decide +kernel)) (fun _ _ _ _ _ => pg_name (i := 2) sc__law_are_said.nd rfl (Or.inl rfl)) (fun _ _ _ _ _ => pts_nil) (fun _ _ _ _ _ => (pe_and (pe_callB (call_isB (K := K) rfl) (by rfl) C.isi boot_isi (pa_cons (pv 2) (pa_cons (pe_bltn (v := .ty "tuple") (u := .type "tuple") (by rfl) T.tuple (by decide +kernel) rfl) pa_nil))) (pe_one (pe_cmpR op_eq (pe_callB (call_lenB (K := K) rfl) (by rfl) T.len PySem.boot_len (pa_cons (pv 2) pa_nil)) pe_int (nomark _)))))) pa_nil)))))))
(pss_one (ps_ret pe_bl))
pss_nil)
(pss_cons (ps_if (pt_not (pt_val (pe_all (K := K) rfl rfl (by rfl) C.all (pa_cons (pe_lc (own := [("_law_row", 2)]) (g := gName 2) rfl sc__law_are_said.nd (pi_tup (pv 0)) (blkOk_by (N := sc__law_are_saidN) (sc := defScope s__law_are_said) (by decide +kernel)) (fun _ _ _ _ _ => pg_name (i := 2) sc__law_are_said.nd rfl (Or.inl rfl)) (fun _ _ _ _ _ => pts_nil) (fun _ _ _ _ _ => (pe_and (pe_call CN.ok (hr.mono (by decide)) rfl CN.mg CN.kp CN.b .nil pass0 (pa_cons (pe_ix (ix_tupB (K := K) rfl) (pv 2) pe_int (fun _ _ => rfl)) (pa_cons (pv 1) pa_nil))) (pe_one (pe_call CI.ok (hr.mono (by decide)) rfl CI.mg CI.kp CI.b .nil pass0 (pa_cons (pe_ix (ix_tupB (K := K) rfl) (pv 2) pe_int (fun _ _ => rfl)) pa_nil)))))) pa_nil))))
(pss_one (ps_ret pe_bl))
pss_nil)
(pss_one (ps_ret (pe_all (K := K) rfl rfl (by rfl) C.all (pa_cons (pe_lc (own := [("_law_one", 3), ("_law_other", 4)]) (g := gTup K 2 (gCons (gName 3) (gCons (gName 4) gNil))) rfl sc__law_are_said.nd (RZ.pi_zipA (by rfl) C.zip (pa_cons (pv 0) (pa_cons (pe_slice sl_tail (pv 0) (po_some pe_int) po_none) pa_nil))) (blkOk_by (N := sc__law_are_saidN) (sc := defScope s__law_are_said) (by decide +kernel)) (fun _ _ _ _ _ => pg_tup (by rfl) (pgs_cons (pg_name (i := 3) sc__law_are_said.nd rfl (Or.inl rfl)) (pgs_cons (pg_name (i := 4) sc__law_are_said.nd rfl (Or.inl rfl)) pgs_nil))) (fun _ _ _ _ _ => pts_nil) (fun _ _ _ _ _ => (pe_cmpR op_lt (pe_ix (ix_tupB (K := K) rfl) (pv 3) pe_int (fun _ _ => rfl)) (pe_ix (ix_tupB (K := K) rfl) (pv 4) pe_int (fun _ _ => rfl)) (nomark _)))) pa_nil)))))), ?_⟩
  refine ⟨v, rfl, v, d, "tuple", rfl, hd, .inl rfl, _, rfl, ?_⟩
  by_cases hs : isT "tuple" d = true
  rotate_left
  · rw [Bool.eq_false_iff.mpr hs]
    refine iteT (q false H (fun _ _ e => e) ?_)
    cases d with
    | tuple ts => exact absurd ((isT_tuple _).mpr ⟨ts, rfl⟩) hs
    | _ => rfl
  obtain ⟨rows, rfl⟩ := (isT_tuple d).mp hs
  rw [hs]
  obtain ⟨hw, hrows⟩ := fit_tup.mp hf
  cases hd with
  | @tup a xs _ hq hall =>
  have hl := hall.len
  have f0 : marksOk n (.tuple rows) = (rows.all (markOk n) && ascN (rows.map firstN)) := rfl
  refine iteF ⟨.ref a, rfl, a, rfl, ⟨_, hq⟩, fun D hD => lc_test (walk_tup (xs := xs)) two hall (fun _ => rfl) (by omega) hD (fun H' s => same_sqT s hq) (fun i u r H1 Q' hr1 hdr s1 k => ?_) (fun H1 hD1 s1 => ?_)⟩
  · refine ⟨u, rfl, u, r, "tuple", rfl, hdr, .inl rfl, _, rfl, ?_⟩
    by_cases hs2 : isT "tuple" r = true
    rotate_left
    · rw [Bool.eq_false_iff.mpr hs2]
      refine iteF (k false H1 (fun _ _ e => e) ?_)
      cases r with
      | tuple ts => exact absurd ((isT_tuple _).mpr ⟨ts, rfl⟩) hs2
      | _ => rfl
    obtain ⟨ss, rfl⟩ := (isT_tuple r).mp hs2
    rw [hs2]
    cases hdr with
    | @tup b ys _ hq2 hall2 =>
    have hl2 := hall2.len
    refine iteT ⟨.ref b, rfl, b, ys, rfl, .inr hq2, rfl, k _ H1 (fun _ _ e => e) ?_⟩
    have hdec : decide (V.int (ys.length : Int) = V.int 2) = decide (ss.length = 2) := by
      rw [hl2]
      exact decide_eq_decide.mpr ⟨fun h => by injection h with h; omega, fun h => by rw [h]; rfl⟩
    refine Eq.trans ?_ hdec.symm
    match ss with
    | [] => rfl
    | [_] => rfl
    | [_, _] => rfl
    | _ :: _ :: _ :: l => exact (decide_eq_false (by simp)).symm
  refine ⟨D, _, rfl, .inl (.inl hD1), _, rfl, ?_⟩
  rw [all_f]
  refine ite2 (fun h3 => ?_) (fun h3 => ?_)
  · refine q false H1 s1 ?_
    have h3 : (!rows.all two) = true := h3
    rw [Bool.not_eq_true'] at h3
    have : rows.all (markOk n) = false := Bool.eq_false_iff.mpr fun z => Bool.eq_false_iff.mp h3 (List.all_eq_true.mpr fun r m => mark_two (List.all_eq_true.mp z r m))
    rw [f0, this, Bool.false_and]
  have h4 : rows.all two = true := by
    have h3 : ¬ (!rows.all two) = true := h3
    simpa using h3
  have hall1 := hall.same s1
  have hq1 := same_sqT s1 hq
  refine ⟨.ref a, rfl, a, rfl, ⟨_, hq1⟩, fun D2 hD2 => lc_test (walk_tup (xs := xs)) (markOk n) hall1 (fun _ => rfl) (by omega) hD2 (fun H' s => same_sqT s hq1) (fun i u r H2 Q' hr1 hdr s2 k => ?_) (fun H2 hD3 s2 => ?_)⟩
  · have hfr := hrows r (List.mem_of_getElem? hr1)
    obtain ⟨x0, x1, rfl⟩ := two_shape (List.all_eq_true.mp h4 r (List.mem_of_getElem? hr1))
    obtain ⟨hw2, hss⟩ := fit_tup.mp hfr
    cases hdr with
    | @tup b ys _ hq2 hall2 =>
    cases hall2 with
    | @cons v0 _ _ _ d0 hall2 =>
    cases hall2 with
    | @cons v1 _ _ _ d1 hall2 =>
    cases hall2
    have f1 : markOk n (.tuple [x0, x1]) = (isState n x0 && inkOk x1) := rfl
    refine ⟨.ref b, rfl, b, [v0, v1], 0, v0, rfl, rfl, hq2, rfl, .int (n : Int), rfl, v0, x0, n, rfl, d0, hss x0 (.head _), fun c H3 s3 e3 => ⟨c, rfl, ite2 (fun h5 => ?_) (fun h5 => ?_)⟩⟩
    · refine ⟨.ref b, rfl, b, [v0, v1], 1, v1, rfl, rfl, same_sqT s3 hq2, rfl, v1, x1, rfl, d1.same s3, hss x1 (.tail _ (.head _)), fun c2 H4 s4 e4 => k c2 H4 (Same.trans s3 s4) ?_⟩
      rw [f1, e3, e4, h5, Bool.true_and]
    · refine k _ H3 s3 ?_
      rw [f1, e3, Bool.eq_false_iff.mpr h5, Bool.false_and]
  refine ⟨D2, _, rfl, .inl (.inl hD3), _, rfl, ?_⟩
  rw [all_f]
  have s12 := Same.trans s1 s2
  refine ite2 (fun h5 => ?_) (fun h5 => ?_)
  · refine q false H2 s12 ?_
    have h5 : (!rows.all (markOk n)) = true := h5
    rw [Bool.not_eq_true'] at h5
    rw [f0, h5, Bool.false_and]
  have h6 : rows.all (markOk n) = true := by
    have h5 : ¬ (!rows.all (markOk n)) = true := h5
    simpa using h5
  have hall2 := hall.same s12
  have hq2 := same_sqT s12 hq
  have at_ : ∀ {H3 : Hp} {i : Nat} {u : V}, Same H2 H3 → xs[i]? = some u → ∃ (b : Addr) (ys : List V) (z : Nat), u = .ref b ∧ SqT K H3 b (.int (z : Int) :: ys) ∧ nth (rows.map fun d => (firstN d : Int)) i = z := fun {H3 i u} s3 hu => by
    obtain ⟨d, hd, hdv⟩ := hall2.get hu
    obtain ⟨z, y, rfl, _, _⟩ := mark_shape (List.all_eq_true.mp h6 d (List.mem_of_getElem? hd))
    cases hdv with
    | @tup b ys _ hq3 hall3 =>
    cases hall3 with
    | @cons v0 vs _ _ d0 hall3 =>
    cases d0
    exact ⟨b, vs, z, rfl, same_sqT s3 hq3, nth_map hd⟩
  refine ⟨.ref a, rfl, .ref a, rfl, 1, rfl, a, xs, rfl, hq2, rfl, rfl, fun b H3 s3 hb => ⟨a, b, xs, xs.drop 1, rfl, .inr ⟨same_sqT s3 hq2, hb, fun D4 hD4 => lc_next (fun i => decide (nth (rows.map fun d => (firstN d : Int)) i < nth (rows.map fun d => (firstN d : Int)) (i + 1))) (fun _ _ => rfl) (by omega) hD4 (same_sqT s3 hq2) hb (fun i u u' H4 Q' hu hu' s4 k => ?_) (fun H4 hD5 s4 => ?_)⟩⟩⟩
  · obtain ⟨b1, ys1, z1, rfl, q1, e1⟩ := at_ (Same.trans s3 s4) hu
    obtain ⟨b2, ys2, z2, rfl, q2, e2⟩ := at_ (Same.trans s3 s4) hu'
    have k' := k H4 (fun _ _ e => e)
    rw [e1, e2] at k'
    exact ⟨.ref b1, rfl, b1, _, 0, .int (z1 : Int), rfl, rfl, q1, atI_nat (j := 0) rfl, .ref b2, rfl, b2, _, 0, .int (z2 : Int), rfl, rfl, q2, atI_nat (j := 0) rfl, z1, z2, rfl, rfl, k'⟩
  · refine ⟨D4, _, rfl, .inl (.inl hD5), q _ H4 (Same.trans s12 (Same.trans s3 s4)) ?_⟩
    rw [f0, h6, Bool.true_and, ← adj_n, ← adj_at, List.map_map, List.all_map]
    rw [List.length_map, hl]
    rfl
theorem ok_lrow {f : Addr} {fd : FuncData} (F : Fun K "_law_is_row" "_law_is_row" s__law_is_row f fd) (T : Bare mg) (C : Con K mg) (CN : Callee P w K mg base 1 "_law_is_number" ["_law_thing", "_law_upto"] (spTestN K isState)) (CI : Callee P w K mg base 1 "_law_is_ink" ["_law_thing"] (spTest K inkOk)) : FnOk P w K mg base CX0 2 f fd ["_law_symbols", "_law_thing", "_law_many_lefts", "_law_many_rights"] (spRow K) := by
  refine F.ok sc__law_is_row (fun vs H Q E h => ?_) (fun cdv A outer st H vs Q E hr h => ?_)
  · obtain ⟨S, v, d, m, n, rfl, _⟩ := h
    rfl
  obtain ⟨S, v, d, m, n, rfl, hS, hd, hf, q⟩ := h
  refine ⟨_, (pss_cons (ps_if (PW.pt (pw_or (pt_not (pt_val (pe_callB call_isD (by rfl) C.isi boot_isi (pa_cons (pv 1) (pa_cons (pe_bltn (v := .ty "tuple") (u := .type "tuple") (by rfl) T.tuple (by decide +kernel) rfl) pa_nil))))) (pw_or (pt_cmpR op_ne (pe_callB call_len_seq (by rfl) T.len PySem.boot_len (pa_cons (pv 1) pa_nil)) pe_int (nomark _)) (pw_or1 (pt_not (pt_val (pe_callB call_isD (by rfl) C.isi boot_isi (pa_cons (pe_ix ix_tup (pv 1) pe_int (fun _ _ => rfl)) (pa_cons (pe_bltn (v := .ty "str") (u := .type "str") (by rfl) T.str (by decide +kernel) rfl) pa_nil)))))))))
(pss_one (ps_ret pe_bl))
pss_nil)
(pss_cons (ps_if (PW.pt (pw_or (pt_not (pt_val (pe_call CN.ok hr rfl CN.mg CN.kp CN.b .nil pass0 (pa_cons (pe_ix ix_tup (pv 1) pe_int (fun _ _ => rfl)) (pa_cons (pv 2) pa_nil))))) (pw_or1 (pt_not (pt_val (pe_call CN.ok hr rfl CN.mg CN.kp CN.b .nil pass0 (pa_cons (pe_ix ix_tup (pv 1) pe_int (fun _ _ => rfl)) (pa_cons (pv 3) pa_nil))))))))
(pss_one (ps_ret pe_bl))
pss_nil)
(pss_one (ps_ret (pe_and (pe_cmpR op_eq (pe_callB call_lenS (by rfl) T.len PySem.boot_len (pa_cons (pe_ix ix_tup (pv 1) pe_int (fun _ _ => rfl)) pa_nil)) pe_int (nomark _)) (pe_and (pe_cmpR op_in_sign (pe_ix ix_tup (pv 1) pe_int (fun _ _ => rfl)) (pv 0) (by rfl)) (pe_one (pe_call CI.ok hr rfl CI.mg CI.kp CI.b .nil pass0 (pa_cons (pe_ix ix_tup (pv 1) pe_int (fun _ _ => rfl)) pa_nil))))))))), ?_⟩
  refine ⟨v, rfl, v, d, "tuple", rfl, hd, .inl rfl, _, rfl, ?_⟩
  by_cases hs : isT "tuple" d = true
  rotate_left
  · rw [Bool.eq_false_iff.mpr hs]
    refine iteT (q false H (fun _ _ e => e) ?_)
    cases d with
    | tuple ts => exact absurd ((isT_tuple _).mpr ⟨ts, rfl⟩) hs
    | _ => rfl
  obtain ⟨ds, rfl⟩ := (isT_tuple d).mp hs
  rw [hs]
  obtain ⟨_, hss⟩ := fit_tup.mp hf
  cases hd with
  | @tup t xs _ hq hall =>
  have hl := hall.len
  refine iteF ⟨.ref t, rfl, t, xs, rfl, .inr hq, rfl, _, rfl, ite2 (fun h2 => ?_) (fun h2 => ?_)⟩
  · refine q false H (fun _ _ e => e) ?_
    have nl : ds.length ≠ 4 := fun e => by
      rw [hl, e] at h2
      cases h2
    match ds, nl with
    | [], _ => rfl
    | [_], _ => rfl
    | [_, _], _ => rfl
    | [_, _, _], _ => rfl
    | [_, _, _, _], z => exact absurd rfl z
    | _ :: _ :: _ :: _ :: _ :: _, _ => rfl
  have h4 : ds.length = 4 := by
    by_cases e : xs.length = 4
    · omega
    · exfalso
      refine h2 ?_
      rw [Bool.not_eq_true']
      exact decide_eq_false fun y => e (by injection y with y; omega)
  match ds, h4 with
  | [a, b, c, d], _ =>
  cases hall with
  | @cons va _ _ _ da hall =>
  cases hall with
  | @cons vb _ _ _ db hall =>
  cases hall with
  | @cons vc _ _ _ dc hall =>
  cases hall with
  | @cons vd _ _ _ dd hall =>
  cases hall
  have f0 : placeOk S m n (.tuple [a, b, c, d]) = (symOk S b && (isState m a && (isState n c && inkOk d))) := rfl
  refine ⟨.ref t, rfl, t, [va, vb, vc, vd], 1, vb, rfl, rfl, hq, rfl, vb, b, "str", rfl, db, .inr (.inl rfl), _, rfl, ?_⟩
  by_cases hs : isT "str" b = true
  rotate_left
  · rw [Bool.eq_false_iff.mpr hs]
    refine iteT (q false H (fun _ _ e => e) ?_)
    rw [f0]
    cases b with
    | str z => exact absurd ((isT_str _).mpr ⟨z, rfl⟩) hs
    | _ => rfl
  obtain ⟨z, rfl⟩ := (isT_str b).mp hs
  rw [hs]
  cases db with
  | str _ hz =>
  refine iteF ⟨.ref t, rfl, t, [va, .str z, vc, vd], 0, va, rfl, rfl, hq, rfl, .int (m : Int), rfl, va, a, m, rfl, da, hss a (.head _), fun k1 H1 s1 e1 => ⟨k1, rfl, ite2 (fun g1 => ?_) (fun g1 => ?_)⟩⟩
  · refine q false H1 s1 ?_
    have g1 : (!k1) = true := g1
    rw [Bool.not_eq_true'] at g1
    rw [f0, e1, g1, Bool.false_and, Bool.and_false]
  have g1 : k1 = true := by
    have g1 : ¬ (!k1) = true := g1
    simpa using g1
  refine ⟨.ref t, rfl, t, [va, .str z, vc, vd], 2, vc, rfl, rfl, same_sqT s1 hq, rfl, .int (n : Int), rfl, vc, c, n, rfl, dc.same s1, hss c (.tail _ (.tail _ (.head _))), fun k2 H2 s2 e2 => ⟨k2, rfl, ite2 (fun g2 => ?_) (fun g2 => ?_)⟩⟩
  · refine q false H2 (Same.trans s1 s2) ?_
    have g2 : (!k2) = true := g2
    rw [Bool.not_eq_true'] at g2
    rw [f0, e2, g2, Bool.false_and, Bool.and_false, Bool.and_false]
  have g2 : k2 = true := by
    have g2 : ¬ (!k2) = true := g2
    simpa using g2
  have s12 := Same.trans s1 s2
  have hq2 := same_sqT s12 hq
  refine ⟨.ref t, rfl, t, [va, .str z, vc, vd], 1, .str z, rfl, rfl, hq2, rfl, z, rfl, len_k hz, rfl, _, rfl, ?_⟩
  have hdec : decide (V.int (z.length : Int) = V.int 1) = decide (z.length = 1) := decide_eq_decide.mpr ⟨fun h => by injection h with h; omega, fun h => by rw [h]; rfl⟩
  rw [hdec]
  refine ite2 (fun h1 => ?_) (fun h1 => ?_)
  rotate_left
  · refine q _ H2 s12 ?_
    rw [f0, show symOk S (.str z) = (decide (z.length = 1) && (tl z).all fun c => decide (c ∈ tl S)) from rfl, Bool.eq_false_iff.mpr h1]
    rfl
  have z1 : z.length = 1 := of_decide_eq_true h1
  obtain ⟨cp⟩ := z
  obtain ⟨cs⟩ := cp
  match cs, z1 with
  | [x], _ =>
  have fs : symOk S (.str ⟨⟨[x]⟩⟩) = decide (x ∈ tl S) := by
    show (decide (1 = 1) && (decide (x ∈ tl S) && true)) = _
    rw [decide_eq_true rfl, Bool.true_and, Bool.and_true]
  refine ⟨.ref t, rfl, t, [va, .str ⟨⟨[x]⟩⟩, vc, vd], 1, _, rfl, rfl, hq2, rfl, .str S, rfl, x, S, rfl, rfl, _, rfl, ite2 (fun h2 => ?_) (fun h2 => ?_)⟩
  rotate_left
  · refine q _ H2 s12 ?_
    rw [f0, fs]
    have h2 : ¬ decide (x ∈ tl S) = true := h2
    rw [Bool.eq_false_iff.mpr h2, Bool.false_and]
  have h3 : decide (x ∈ tl S) = true := h2
  refine ⟨.ref t, rfl, t, [va, .str ⟨⟨[x]⟩⟩, vc, vd], 3, vd, rfl, rfl, hq2, rfl, vd, d, rfl, dd.same s12, hss d (.tail _ (.tail _ (.tail _ (.head _)))), fun k3 H3 s3 e3 => q k3 H3 (Same.trans s12 s3) ?_⟩
  rw [f0, fs, h3, e1, e2, e3, g1, g2]
  rfl
end
end Fh
set_option Elab.async false
set_option linter.all false
set_option maxRecDepth 100000
set_option maxHeartbeats 4000000
namespace Fh
open PySem L2 TL
/-! ### the form of a writer, by the program -/
def lenD : PyData → Nat
  | .tuple ds => ds.length
  | _ => 0
def formOk (S : Str) : PyData → Bool
  | .tuple [l, r, f, w, e] => movesOk S.length l && (movesOk S.length r && (marksOk (lenD r) f && (marksOk (lenD l) e && placesOk S (lenD l) (lenD r) w)))
  | _ => false
theorem form_len {S : Str} {ds : List PyData} (h : ds.length ≠ 5) : formOk S (.tuple ds) = false := by
  match ds, h with
  | [], _ => rfl
  | [_], _ => rfl
  | [_, _], _ => rfl
  | [_, _, _], _ => rfl
  | [_, _, _, _], _ => rfl
  | [_, _, _, _, _], z => exact absurd rfl z
  | _ :: _ :: _ :: _ :: _ :: _ :: _, _ => rfl
theorem moves_tup {k : Nat} {d : PyData} (h : movesOk k d = true) : ∃ rows, d = .tuple rows := by
  cases d with
  | tuple rows => exact ⟨rows, rfl⟩
  | _ => cases h
theorem dv_tup {K : PySem.W.Frag} {H : Hp} {v : V} {ds : List PyData} (h : Dv K H v (.tuple ds)) : ∃ a xs, v = .ref a ∧ SqT K H a xs ∧ xs.length = ds.length ∧ DvAll K H xs ds := by
  cases h with
  | @tup a xs _ hq hall => exact ⟨a, xs, rfl, hq, hall.len, hall⟩
theorem dv_five {K : PySem.W.Frag} {H : Hp} {v : V} {a b c d e : PyData} (h : Dv K H v (.tuple [a, b, c, d, e])) : ∃ t va vb vc vd ve, v = .ref t ∧ SqT K H t [va, vb, vc, vd, ve] ∧ Dv K H va a ∧ Dv K H vb b ∧ Dv K H vc c ∧ Dv K H vd d ∧ Dv K H ve e := by
  cases h with
  | @tup t xs _ hq hall =>
  cases hall with
  | @cons va _ _ _ da hall =>
  cases hall with
  | @cons vb _ _ _ db hall =>
  cases hall with
  | @cons vc _ _ _ dc hall =>
  cases hall with
  | @cons vd _ _ _ dd hall =>
  cases hall with
  | @cons ve _ _ _ de hall =>
  cases hall
  exact ⟨t, va, vb, vc, vd, ve, rfl, hq, da, db, dc, dd, de⟩
theorem not_true {c : Bool} (h : (!c) = true) : c = false := by rwa [Bool.not_eq_true'] at h
theorem not_not {c : Bool} (h : ¬ (!c) = true) : c = true := by simpa using h
abbrev s_has_form : Stmt := top 8
abbrev sc_has_formN : List Str := ["symbols", "value", "lefts", "rights", "first", "words", "last"]
theorem sc_has_form : FnScope sc_has_formN ["symbols", "value"] (defScope s_has_form) := ⟨rfl, rfl, rfl, by decide +kernel, rfl, by decide +kernel, by decide +kernel⟩
abbrev s_is_writer : Stmt := top 17
abbrev sc_is_writerN : List Str := ["program", "value"]
theorem sc_is_writer : FnScope sc_is_writerN ["program", "value"] (defScope s_is_writer) := ⟨rfl, rfl, rfl, by decide +kernel, rfl, by decide +kernel, by decide +kernel⟩
def spForm (K : PySem.W.Frag) : Sp := fun vs H Q _ => ∃ (S : Str) (v : V) (d : PyData), vs = [.str S, v] ∧ Plain S ∧ Dv K H v d ∧ Fit d ∧ ∀ (c : Bool) H', Same H H' → formOk S d = c → Q (.bl c) H'
/-- a program of such symbols -/
def Eng (CP : Addr) (H : Hp) (g : Addr) (S : Str) : Prop := ∃ (dx : Addr) (z : Str) (c q t : Addr) (fi : Int) (r : Addr), H g = some (.ins CP dx (gl z S c q t fi r))
def spWriter (K : PySem.W.Frag) (CP : Addr) : Sp := fun vs H Q _ => ∃ (a : Addr) (S : Str) (v : V) (d : PyData), vs = [.ref a, v] ∧ Eng CP H a S ∧ Plain S ∧ Dv K H v d ∧ Fit d ∧ ∀ (c : Bool) H', Same H H' → formOk S d = c → Q (.bl c) H'
section
variable {P : Program} {w : World} {K : PySem.W.Frag} {mg : Str → Option Value} {base : Heap}
theorem ok_form {f : Addr} {fd : FuncData} (F : Fun K "has_form" "has_form" s_has_form f fd) (T : Bare mg) (C : Con K mg) (CM : Callee P w K mg base 3 "is_moves" ["symbols", "value"] (spMoves K)) (CK : Callee P w K mg base 3 "is_marks" ["value", "many"] (spTestN K marksOk))
    (CW : Callee P w K mg base 4 "is_words" ["symbols", "value", "lefts", "rights"] (spPlaces K)) : FnOk P w K mg base CX0 5 f fd ["symbols", "value"] (spForm K) := by
  refine F.ok sc_has_form (fun vs H Q E h => ?_) (fun cdv A outer st H vs Q E hr h => ?_)
  · obtain ⟨S, v, d, rfl, _⟩ := h
    rfl
  obtain ⟨S, v, d, rfl, hS, hd, hf, q⟩ := h
  refine ⟨_, (pss_cons (ps_if (PW.pt (pw_or (pt_not (pt_val (pe_callB call_isD (by rfl) C.isi boot_isi (pa_cons (pv 1) (pa_cons (pe_bltn (v := .ty "tuple") (u := .type "tuple") (by rfl) T.tuple (by decide +kernel) rfl) pa_nil))))) (pw_or1 (pt_cmpR op_ne (pe_callB call_len_seq (by rfl) T.len PySem.boot_len (pa_cons (pv 1) pa_nil)) pe_int (nomark _)))))
(pss_one (ps_ret pe_bl))
pss_nil)
(pss_cons (ps_asg (pv 1) (pg_tup (by rfl) (pgs_cons (pg_name (i := 2) sc_has_form.nd rfl (Or.inl rfl)) (pgs_cons (pg_name (i := 3) sc_has_form.nd rfl (Or.inl rfl)) (pgs_cons (pg_name (i := 4) sc_has_form.nd rfl (Or.inl rfl)) (pgs_cons (pg_name (i := 5) sc_has_form.nd rfl (Or.inl rfl)) (pgs_cons (pg_name (i := 6) sc_has_form.nd rfl (Or.inl rfl)) pgs_nil)))))))
(pss_cons (ps_if (PW.pt (pw_or (pt_not (pt_val (pe_call CM.ok (hr.mono (by decide)) rfl CM.mg CM.kp CM.b .nil pass0 (pa_cons (pv 0) (pa_cons (pv 2) pa_nil))))) (pw_or1 (pt_not (pt_val (pe_call CM.ok (hr.mono (by decide)) rfl CM.mg CM.kp CM.b .nil pass0 (pa_cons (pv 0) (pa_cons (pv 3) pa_nil))))))))
(pss_one (ps_ret pe_bl))
pss_nil)
(pss_cons (ps_if (PW.pt (pw_or (pt_not (pt_val (pe_call CK.ok (hr.mono (by decide)) rfl CK.mg CK.kp CK.b .nil pass0 (pa_cons (pv 4) (pa_cons (pe_callB call_len_seq (by rfl) T.len PySem.boot_len (pa_cons (pv 3) pa_nil)) pa_nil))))) (pw_or1 (pt_not (pt_val (pe_call CK.ok (hr.mono (by decide)) rfl CK.mg CK.kp CK.b .nil pass0 (pa_cons (pv 6) (pa_cons (pe_callB call_len_seq (by rfl) T.len PySem.boot_len (pa_cons (pv 2) pa_nil)) pa_nil))))))))
(pss_one (ps_ret pe_bl))
pss_nil)
(pss_one (ps_ret (pe_call CW.ok (hr.mono (by decide)) rfl CW.mg CW.kp CW.b .nil pass0 (pa_cons (pv 0) (pa_cons (pv 5) (pa_cons (pe_callB call_len_seq (by rfl) T.len PySem.boot_len (pa_cons (pv 2) pa_nil)) (pa_cons (pe_callB call_len_seq (by rfl) T.len PySem.boot_len (pa_cons (pv 3) pa_nil)) pa_nil))))))))))), ?_⟩
  refine ⟨v, rfl, v, d, "tuple", rfl, hd, .inl rfl, _, rfl, ?_⟩
  by_cases hs : isT "tuple" d = true
  rotate_left
  · rw [Bool.eq_false_iff.mpr hs]
    refine iteT (q false H (fun _ _ e => e) ?_)
    cases d with
    | tuple ts => exact absurd ((isT_tuple _).mpr ⟨ts, rfl⟩) hs
    | _ => rfl
  obtain ⟨ds, rfl⟩ := (isT_tuple d).mp hs
  rw [hs]
  obtain ⟨_, hss⟩ := fit_tup.mp hf
  obtain ⟨t, xs, rfl, hq, hl, hall⟩ := dv_tup hd
  refine iteF ⟨.ref t, rfl, t, xs, rfl, .inr hq, rfl, _, rfl, ite2 (fun h2 => ?_) (fun h2 => ?_)⟩
  · refine q false H (fun _ _ e => e) (form_len fun e => ?_)
    rw [hl, e] at h2
    cases h2
  have h5 : ds.length = 5 := by
    by_cases e : xs.length = 5
    · omega
    · exfalso
      refine h2 ?_
      rw [Bool.not_eq_true']
      exact decide_eq_false fun y => e (by injection y with y; omega)
  match ds, h5 with
  | [l, r, fi, wo, la], _ =>
  clear hl hall xs hq h2
  obtain ⟨t', vl, vr, vf, vw, ve, et, hq, dl, dr, df, dw, de⟩ := dv_five hd
  cases et
  have f0 : formOk S (.tuple [l, r, fi, wo, la]) = (movesOk S.length l && (movesOk S.length r && (marksOk (lenD r) fi && (marksOk (lenD l) la && placesOk S (lenD l) (lenD r) wo)))) := rfl
  have gl' := hss l (.head _)
  have gr := hss r (.tail _ (.head _))
  have gf := hss fi (.tail _ (.tail _ (.head _)))
  have gw := hss wo (.tail _ (.tail _ (.tail _ (.head _))))
  have ge := hss la (.tail _ (.tail _ (.tail _ (.tail _ (.head _)))))
  refine ⟨.ref t, rfl, t, [vl, vr, vf, vw, ve], rfl, hq, rfl, _, _, rfl, _, _, rfl, _, _, rfl, _, _, rfl, _, _, rfl, rfl, ?_⟩
  refine ⟨.str S, rfl, vl, rfl, S, vl, l, rfl, hS.1, dl, gl', fun c1 H1 s1 e1 => ⟨c1, rfl, ite2 (fun g => ?_) (fun g => ?_)⟩⟩
  · refine q false H1 s1 ?_
    rw [f0, e1, not_true g, Bool.false_and]
  have g1 := not_not g
  clear g
  refine ⟨.str S, rfl, vr, rfl, S, vr, r, rfl, hS.1, dr.same s1, gr, fun c2 H2 s2 e2 => ⟨c2, rfl, ite2 (fun g => ?_) (fun g => ?_)⟩⟩
  · refine q false H2 (Same.trans s1 s2) ?_
    rw [f0, e2, not_true g, Bool.false_and, Bool.and_false]
  have g2 := not_not g
  clear g
  have s12 := Same.trans s1 s2
  rw [g1] at e1
  rw [g2] at e2
  obtain ⟨rl, rfl⟩ := moves_tup e1
  obtain ⟨rr, rfl⟩ := moves_tup e2
  obtain ⟨al, xl, rfl, ql, ll, _⟩ := dv_tup dl
  obtain ⟨ar, xr, rfl, qr, lr, _⟩ := dv_tup dr
  have wr := (fit_tup.mp gr).1
  refine ⟨vf, rfl, .ref ar, rfl, ar, xr, rfl, .inr (same_sqT s12 qr), vf, fi, rr.length, by rw [lr]; rfl, df.same s12, gf, fun c3 H3 s3 e3 => ⟨c3, rfl, ite2 (fun g => ?_) (fun g => ?_)⟩⟩
  · refine q false H3 (Same.trans s12 s3) ?_
    rw [f0, show lenD (.tuple rr) = rr.length from rfl, e3, not_true g, Bool.false_and, Bool.and_false, Bool.and_false]
  have g3 := not_not g
  clear g
  have s13 := Same.trans s12 s3
  refine ⟨ve, rfl, .ref al, rfl, al, xl, rfl, .inr (same_sqT s13 ql), ve, la, rl.length, by rw [ll]; rfl, de.same s13, ge, fun c4 H4 s4 e4 => ⟨c4, rfl, ite2 (fun g => ?_) (fun g => ?_)⟩⟩
  · refine q false H4 (Same.trans s13 s4) ?_
    rw [f0, show lenD (.tuple rl) = rl.length from rfl, e4, not_true g, Bool.false_and, Bool.and_false, Bool.and_false, Bool.and_false]
  have g4 := not_not g
  clear g
  have s14 := Same.trans s13 s4
  refine ⟨.str S, rfl, vw, rfl, .ref al, rfl, al, xl, rfl, .inr (same_sqT s14 ql), .ref ar, rfl, ar, xr, rfl, .inr (same_sqT s14 qr), S, vw, wo, rl.length, rr.length, by rw [ll, lr]; rfl, hS, wr, dw.same s14, gw, fun c5 H5 s5 e5 => q c5 H5 (Same.trans s14 s5) ?_⟩
  rw [f0, show lenD (.tuple rl) = rl.length from rfl, show lenD (.tuple rr) = rr.length from rfl, e1, e2, e3, e4, e5, g3, g4]
  rfl
theorem ok_writer {f CP : Addr} {fd : FuncData} (F : Fun K "is_writer" "is_writer" s_is_writer f fd) (TG : GTxt K CP) (CF : Callee P w K mg base 5 "has_form" ["symbols", "value"] (spForm K)) : FnOk P w K mg base CX0 6 f fd ["program", "value"] (spWriter K CP) := by
  refine F.ok sc_is_writer (fun vs H Q E h => ?_) (fun cdv A outer st H vs Q E hr h => ?_)
  · obtain ⟨a, S, v, d, rfl, _⟩ := h
    rfl
  obtain ⟨a, S, v, d, rfl, hp, hS, hd, hf, q⟩ := h
  refine ⟨_, (pss_one (ps_ret (pe_call CF.ok hr rfl CF.mg CF.kp CF.b .nil pass0 (pa_cons (pe_fld (pv 0) rfl) (pa_cons (pv 1) pa_nil))))), ?_⟩
  obtain ⟨dx, z, c, q0, t, fi, r, ha⟩ := hp
  exact ⟨.ref a, rfl, a, CP, dx, _, _, rfl, ha, TG.cl, TG.nSymbols, rfl, v, rfl, S, v, d, rfl, hS, hd, hf, q⟩
end
end Fh
set_option Elab.async false
set_option linter.all false
set_option maxRecDepth 100000
set_option maxHeartbeats 1500000
namespace Fh
open PySem L2 TL
/-! ### the form of a writer, by the law -/
theorem op_ltTriB {X : Cx} {K : PySem.W.Frag} (hK : X.K = K) (hu : X.A.units < cLine) : OpR X (compareOp .Lt) (rLtTri K) := by
  subst hK
  exact op_ltTri hu
abbrev s__law_is_writer : Stmt := top 45
abbrev sc__law_is_writerN : List Str := ["_law_symbols", "_law_thing", "_law_lefts", "_law_rights", "_law_first", "_law_words", "_law_last", "_law_row", "_law_one", "_law_other"]
theorem sc__law_is_writer : FnScope sc__law_is_writerN ["_law_symbols", "_law_thing"] (defScope s__law_is_writer) := ⟨rfl, rfl, rfl, by decide +kernel, rfl, by decide +kernel, by decide +kernel⟩
theorem cut3 (a b c d : V) : cutV [a, b, c, d] none (some 3) = [a, b, c] := rfl
theorem tri_is (i c j : Nat) (y : PyData) : triOf (.tuple [.int (i : Int), .str (sgn c), .int (j : Int), y]) = ⟨i, c, j⟩ := rfl
theorem row_at {K : PySem.W.Frag} {H : Hp} {S : Str} {m n i : Nat} {xw : List V} {rows : List PyData} {u : V} (hall : DvAll K H xw rows) (g : ∀ d ∈ rows, placeOk S m n d = true) (hS : ∀ c ∈ tl S, c < 128) (wr : n ≤ 60) (hu : xw[i]? = some u) :
    ∃ (b : Addr) (v0 v1 v2 v3 : V) (τ : Tri), u = .ref b ∧ SqT K H b [v0, v1, v2, v3] ∧ τ.Ok ∧ [v0, v1, v2] = τ.key.map kV ∧ nth (rows.map fun d => (triOf d).rk) i = τ.rk := by
  obtain ⟨d, hd, hdv⟩ := hall.get hu
  obtain ⟨i1, c, j, y, rfl, z1, z2, z3, _⟩ := place_shape (g d (List.mem_of_getElem? hd))
  have e := tri_is i1 c j y
  have k := nth_map (f := fun d => (triOf d).rk) hd
  rw [e] at k
  cases hdv with
  | @tup b ys _ hq3 hall3 =>
  cases hall3 with
  | @cons v0 _ _ _ d0 hall3 =>
  cases hall3 with
  | @cons v1 _ _ _ d1 hall3 =>
  cases hall3 with
  | @cons v2 _ _ _ d2 hall3 =>
  cases hall3 with
  | @cons v3 _ _ _ d3 hall3 =>
  cases hall3
  cases d0
  cases d1
  cases d2
  refine ⟨b, _, _, _, v3, ⟨i1, c, j⟩, rfl, hq3, ⟨hS c z2, ?_⟩, rfl, k⟩
  show j < 64
  omega
section
variable {P : Program} {w : World} {K : PySem.W.Frag} {mg : Str → Option Value} {base : Heap}
theorem ok_lwriter {f : Addr} {fd : FuncData} (F : Fun K "_law_is_writer" "_law_is_writer" s__law_is_writer f fd) (T : Bare mg) (C : Con K mg) (CM : Callee P w K mg base 2 "_law_are_steps" ["_law_thing", "_law_many"] (spTestN K movesOk)) (CK : Callee P w K mg base 2 "_law_are_said" ["_law_thing", "_law_upto"] (spTestN K marksOk))
    (CR : Callee P w K mg base 2 "_law_is_row" ["_law_symbols", "_law_thing", "_law_many_lefts", "_law_many_rights"] (spRow K)) : FnOk P w K mg base CX0 3 f fd ["_law_symbols", "_law_thing"] (spForm K) := by
  refine F.ok sc__law_is_writer (fun vs H Q E h => ?_) (fun cdv A outer st H vs Q E hr h => ?_)
  · obtain ⟨S, v, d, rfl, _⟩ := h
    rfl
  obtain ⟨S, v, d, rfl, hS, hd, hf, q⟩ := h
  refine ⟨_, (pss_cons (ps_if (PW.pt (pw_or (pt_not (pt_val (pe_callB call_isD (by rfl) C.isi boot_isi (pa_cons (pv 1) (pa_cons (pe_bltn (v := .ty "tuple") (u := .type "tuple") (by rfl) T.tuple (by decide +kernel) rfl) pa_nil))))) (pw_or1 (pt_cmpR op_ne (pe_callB call_len_seq (by rfl) T.len PySem.boot_len (pa_cons (pv 1) pa_nil)) pe_int (nomark _)))))
(pss_one (ps_ret pe_bl))
pss_nil)
(pss_cons (ps_asg (pv 1) (pg_tup (by rfl) (pgs_cons (pg_name (i := 2) sc__law_is_writer.nd rfl (Or.inr rfl)) (pgs_cons (pg_name (i := 3) sc__law_is_writer.nd rfl (Or.inr rfl)) (pgs_cons (pg_name (i := 4) sc__law_is_writer.nd rfl (Or.inl rfl)) (pgs_cons (pg_name (i := 5) sc__law_is_writer.nd rfl (Or.inl rfl)) (pgs_cons (pg_name (i := 6) sc__law_is_writer.nd rfl (Or.inl rfl)) pgs_nil)))))))
(pss_cons (ps_if (PW.pt (pw_or (pt_not (pt_val (pe_call CM.ok (hr.mono (by decide)) rfl CM.mg CM.kp CM.b .nil pass0 (pa_cons (pv 2) (pa_cons (pe_callB call_lenS (by rfl) T.len PySem.boot_len (pa_cons (pv 0) pa_nil)) pa_nil))))) (pw_or1 (pt_not (pt_val (pe_call CM.ok (hr.mono (by decide)) rfl CM.mg CM.kp CM.b .nil pass0 (pa_cons (pv 3) (pa_cons (pe_callB call_lenS (by rfl) T.len PySem.boot_len (pa_cons (pv 0) pa_nil)) pa_nil))))))))
(pss_one (ps_ret pe_bl))
pss_nil)
(pss_cons (ps_if (PW.pt (pw_or (pt_not (pt_val (pe_call CK.ok (hr.mono (by decide)) rfl CK.mg CK.kp CK.b .nil pass0 (pa_cons (pv 4) (pa_cons (pe_callB call_len_seq (by rfl) T.len PySem.boot_len (pa_cons (pv 3) pa_nil)) pa_nil))))) (pw_or (pt_not (pt_val (pe_call CK.ok (hr.mono (by decide)) rfl CK.mg CK.kp CK.b .nil pass0 (pa_cons (pv 6) (pa_cons (pe_callB call_len_seq (by rfl) T.len PySem.boot_len (pa_cons (pv 2) pa_nil)) pa_nil))))) (pw_or1 (pt_not (pt_val (pe_callB call_isD (by rfl) C.isi boot_isi (pa_cons (pv 5) (pa_cons (pe_bltn (v := .ty "tuple") (u := .type "tuple") (by rfl) T.tuple (by decide +kernel) rfl) pa_nil)))))))))
(pss_one (ps_ret pe_bl))
pss_nil)
(pss_cons (ps_if (pt_not (pt_val (pe_all (K := K) rfl rfl (by rfl) C.all (pa_cons (pe_lc (own := [("_law_row", 7)]) (g := gName 7) rfl sc__law_is_writer.nd (pi_tup (pv 5)) (blkOk_by (N := sc__law_is_writerN) (sc := defScope s__law_is_writer) (by decide +kernel)) (fun _ _ _ _ _ => pg_name (i := 7) sc__law_is_writer.nd rfl (Or.inl rfl)) (fun _ _ _ _ _ => pts_nil) (fun _ _ _ _ _ => (pe_call CR.ok (hr.mono (by decide)) rfl CR.mg CR.kp CR.b .nil pass0 (pa_cons (pv 0) (pa_cons (pv 7) (pa_cons (pe_callB (call_lenB (K := K) rfl) (by rfl) T.len PySem.boot_len (pa_cons (pv 2) pa_nil)) (pa_cons (pe_callB (call_lenB (K := K) rfl) (by rfl) T.len PySem.boot_len (pa_cons (pv 3) pa_nil)) pa_nil))))))) pa_nil))))
(pss_one (ps_ret pe_bl))
pss_nil)
(pss_one (ps_ret (pe_all (K := K) rfl rfl (by rfl) C.all (pa_cons (pe_lc (own := [("_law_one", 8), ("_law_other", 9)]) (g := gTup K 2 (gCons (gName 8) (gCons (gName 9) gNil))) rfl sc__law_is_writer.nd (RZ.pi_zipA (by rfl) C.zip (pa_cons (pv 5) (pa_cons (pe_slice sl_tail (pv 5) (po_some pe_int) po_none) pa_nil))) (blkOk_by (N := sc__law_is_writerN) (sc := defScope s__law_is_writer) (by decide +kernel)) (fun _ _ _ _ _ => pg_tup (by rfl) (pgs_cons (pg_name (i := 8) sc__law_is_writer.nd rfl (Or.inl rfl)) (pgs_cons (pg_name (i := 9) sc__law_is_writer.nd rfl (Or.inl rfl)) pgs_nil))) (fun _ _ _ _ _ => pts_nil) (fun _ _ _ _ _ => (pe_cmpR (op_ltTriB (K := K) rfl (Nat.lt_of_le_of_lt (Nat.le_add_right _ 64) hr.units)) (pe_slice (sl_tupB (K := K) rfl) (pv 8) po_none (po_some pe_int)) (pe_slice (sl_tupB (K := K) rfl) (pv 9) po_none (po_some pe_int)) (nomark _)))) pa_nil))))))))), ?_⟩
  refine ⟨v, rfl, v, d, "tuple", rfl, hd, .inl rfl, _, rfl, ?_⟩
  by_cases hs : isT "tuple" d = true
  rotate_left
  · rw [Bool.eq_false_iff.mpr hs]
    refine iteT (q false H (fun _ _ e => e) ?_)
    cases d with
    | tuple ts => exact absurd ((isT_tuple _).mpr ⟨ts, rfl⟩) hs
    | _ => rfl
  obtain ⟨ds, rfl⟩ := (isT_tuple d).mp hs
  rw [hs]
  obtain ⟨_, hss⟩ := fit_tup.mp hf
  obtain ⟨t, xs, rfl, hq, hl, hall⟩ := dv_tup hd
  refine iteF ⟨.ref t, rfl, t, xs, rfl, .inr hq, rfl, _, rfl, ite2 (fun h2 => ?_) (fun h2 => ?_)⟩
  · refine q false H (fun _ _ e => e) (form_len fun e => ?_)
    rw [hl, e] at h2
    cases h2
  have h5 : ds.length = 5 := by
    by_cases e : xs.length = 5
    · omega
    · exfalso
      refine h2 ?_
      rw [Bool.not_eq_true']
      exact decide_eq_false fun y => e (by injection y with y; omega)
  match ds, h5 with
  | [l, r, fi, wo, la], _ =>
  clear hl hall xs hq h2
  obtain ⟨t', vl, vr, vf, vw, ve, et, hq, dl, dr, df, dw, de⟩ := dv_five hd
  cases et
  have f0 : formOk S (.tuple [l, r, fi, wo, la]) = (movesOk S.length l && (movesOk S.length r && (marksOk (lenD r) fi && (marksOk (lenD l) la && placesOk S (lenD l) (lenD r) wo)))) := rfl
  have gl' := hss l (.head _)
  have gr := hss r (.tail _ (.head _))
  have gf := hss fi (.tail _ (.tail _ (.head _)))
  have gw := hss wo (.tail _ (.tail _ (.tail _ (.head _))))
  have ge := hss la (.tail _ (.tail _ (.tail _ (.tail _ (.head _)))))
  have kS : S.length ≤ sizeLine := small (Nat.le_trans hS.1 (by decide))
  refine ⟨.ref t, rfl, t, [vl, vr, vf, vw, ve], rfl, hq, rfl, _, _, rfl, _, _, rfl, _, _, rfl, _, _, rfl, _, _, rfl, rfl, ?_⟩
  refine ⟨vl, rfl, .str S, rfl, S, rfl, kS, vl, l, S.length, rfl, dl, gl', fun c1 H1 s1 e1 => ⟨c1, rfl, ite2 (fun g => ?_) (fun g => ?_)⟩⟩
  · refine q false H1 s1 ?_
    rw [f0, e1, not_true g, Bool.false_and]
  have g1 := not_not g
  clear g
  refine ⟨vr, rfl, .str S, rfl, S, rfl, kS, vr, r, S.length, rfl, dr.same s1, gr, fun c2 H2 s2 e2 => ⟨c2, rfl, ite2 (fun g => ?_) (fun g => ?_)⟩⟩
  · refine q false H2 (Same.trans s1 s2) ?_
    rw [f0, e2, not_true g, Bool.false_and, Bool.and_false]
  have g2 := not_not g
  clear g
  have s12 := Same.trans s1 s2
  rw [g1] at e1
  rw [g2] at e2
  obtain ⟨rl, rfl⟩ := moves_tup e1
  obtain ⟨rr, rfl⟩ := moves_tup e2
  obtain ⟨al, xl, rfl, ql, ll, _⟩ := dv_tup dl
  obtain ⟨ar, xr, rfl, qr, lr, _⟩ := dv_tup dr
  have wr := (fit_tup.mp gr).1
  refine ⟨vf, rfl, .ref ar, rfl, ar, xr, rfl, .inr (same_sqT s12 qr), vf, fi, rr.length, by rw [lr]; rfl, df.same s12, gf, fun c3 H3 s3 e3 => ⟨c3, rfl, ite2 (fun g => ?_) (fun g => ?_)⟩⟩
  · refine q false H3 (Same.trans s12 s3) ?_
    rw [f0, show lenD (.tuple rr) = rr.length from rfl, e3, not_true g, Bool.false_and, Bool.and_false, Bool.and_false]
  have g3 := not_not g
  clear g
  have s13 := Same.trans s12 s3
  refine ⟨ve, rfl, .ref al, rfl, al, xl, rfl, .inr (same_sqT s13 ql), ve, la, rl.length, by rw [ll]; rfl, de.same s13, ge, fun c4 H4 s4 e4 => ⟨c4, rfl, ite2 (fun g => ?_) (fun g => ?_)⟩⟩
  · refine q false H4 (Same.trans s13 s4) ?_
    rw [f0, show lenD (.tuple rl) = rl.length from rfl, e4, not_true g, Bool.false_and, Bool.and_false, Bool.and_false, Bool.and_false]
  have g4 := not_not g
  clear g
  have s14 := Same.trans s13 s4
  rw [g3] at e3
  rw [g4] at e4
  have f1 : formOk S (.tuple [.tuple rl, .tuple rr, fi, wo, la]) = placesOk S rl.length rr.length wo := by
    rw [f0, show lenD (.tuple rl) = rl.length from rfl, show lenD (.tuple rr) = rr.length from rfl, e1, e2, e3, e4]
    rfl
  have dw4 := dw.same s14
  refine ⟨vw, rfl, vw, wo, "tuple", rfl, dw4, .inl rfl, _, rfl, ?_⟩
  by_cases hs2 : isT "tuple" wo = true
  rotate_left
  · rw [Bool.eq_false_iff.mpr hs2]
    refine iteT (q false H4 s14 ?_)
    rw [f1]
    cases wo with
    | tuple ts => exact absurd ((isT_tuple _).mpr ⟨ts, rfl⟩) hs2
    | _ => rfl
  obtain ⟨rows, rfl⟩ := (isT_tuple wo).mp hs2
  rw [hs2]
  obtain ⟨hw, hrows⟩ := fit_tup.mp gw
  obtain ⟨aw, xw, rfl, qw, lw, hall⟩ := dv_tup dw4
  have f2 : placesOk S rl.length rr.length (.tuple rows) = (rows.all (placeOk S rl.length rr.length) && ascT (rows.map triOf)) := rfl
  refine iteF ⟨.ref aw, rfl, aw, rfl, ⟨_, qw⟩, fun D hD => lc_test (walk_tup (xs := xw)) (placeOk S rl.length rr.length) hall (fun _ => rfl) (by omega) hD (fun H' s => same_sqT s qw) (fun i u r H5 Q' hr1 hdr s5 k => ?_) (fun H5 hD5 s5 => ?_)⟩
  · have s15 := Same.trans s14 s5
    exact ⟨.str S, rfl, u, rfl, .ref al, rfl, al, xl, rfl, .inr (same_sqT s15 ql), .ref ar, rfl, ar, xr, rfl, .inr (same_sqT s15 qr), S, u, r, rl.length, rr.length, by rw [ll, lr]; rfl, hS.1, hdr, hrows r (List.mem_of_getElem? hr1), k⟩
  have s15 := Same.trans s14 s5
  refine ⟨D, _, rfl, .inl (.inl hD5), _, rfl, ?_⟩
  rw [all_f]
  refine ite2 (fun g => ?_) (fun g => ?_)
  · refine q false H5 s15 ?_
    have g := not_true g
    rw [f1, f2, g, Bool.false_and]
  have g5 := not_not g
  clear g
  have hall5 := hall.same s5
  have qw5 := same_sqT s5 qw
  have at_ : ∀ {H6 : Hp} {i : Nat} {u : V}, Same H5 H6 → xw[i]? = some u → ∃ (b : Addr) (v0 v1 v2 v3 : V) (τ : Tri), u = .ref b ∧ SqT K H6 b [v0, v1, v2, v3] ∧ τ.Ok ∧ [v0, v1, v2] = τ.key.map kV ∧ nth (rows.map fun d => (triOf d).rk) i = τ.rk := fun {H6 i u} s6 hu => row_at (hall5.same s6) (fun d hd => List.all_eq_true.mp g5 d hd) hS.2 wr hu
  refine ⟨.ref aw, rfl, .ref aw, rfl, 1, rfl, aw, xw, rfl, qw5, rfl, rfl, fun b H6 s6 hb => ⟨aw, b, xw, xw.drop 1, rfl, .inr ⟨same_sqT s6 qw5, hb, fun D4 hD4 => lc_next (fun i => decide (nth (rows.map fun d => (triOf d).rk) i < nth (rows.map fun d => (triOf d).rk) (i + 1))) (fun _ _ => rfl) (by omega) hD4 (same_sqT s6 qw5) hb (fun i u u' H7 Q' hu hu' s7 k => ?_) (fun H7 hD7 s7 => ?_)⟩⟩⟩
  · obtain ⟨b1, a1, a2, a3, a4, τ, rfl, q1, o1, k1, e1⟩ := at_ (Same.trans s6 s7) hu
    obtain ⟨b2, c1, c2, c3, c4, υ, rfl, q2, o2, k2, e2⟩ := at_ (Same.trans s6 s7) hu'
    refine ⟨.ref b1, rfl, 3, rfl, b1, _, rfl, q1, (fun z => by simp [HT.sIx] at z), fun p hp => ⟨.ref b2, rfl, 3, rfl, b2, _, rfl, same_sqT (same_new hp _) q2, (fun z => by simp [HT.sIx] at z), fun p2 hp2 => ?_⟩⟩
    have sn := Same.trans (same_new hp (.tup (cutV [a1, a2, a3, a4] none (some 3)))) (same_new hp2 (.tup (cutV [c1, c2, c3, c4] none (some 3))))
    refine ⟨p, p2, τ, υ, rfl, rfl, .inl (.inl (same_new hp2 _ _ _ ?_)), .inl (.inl ?_), o1, o2, ?_⟩
    · rw [upd_same, cut3, k1]
    · rw [upd_same, cut3, k2]
    · have k' := k _ sn
      rw [e1, e2] at k'
      exact k'
  · refine ⟨D4, _, rfl, .inl (.inl hD7), q _ H7 (Same.trans s15 (Same.trans s6 s7)) ?_⟩
    rw [f1, f2, g5, Bool.true_and, ← adj_t, ← adj_at, List.map_map, List.all_map]
    rw [List.length_map, lw]
    rfl
end
end Fh
set_option Elab.async false
set_option linter.all false
set_option maxRecDepth 100000
set_option maxHeartbeats 2000000
/-! ### a tuple turned about -/
namespace HT
open PySem PySem.Spec PyProof.Rows
section
variable {prog : Program} {w : World} {A : Around} {E : Value → Shared → Prop} {s : Shared}
theorem adjust_rev (n : Nat) : Builtin.Slice.sliceAdjust none none (-1) (n : Int) = ((n : Int) - 1, -1) := by
  unfold Builtin.Slice.sliceAdjust
  simp
theorem places_rev (n : Nat) : Builtin.Slice.slicePlaces ((n : Int) - 1) (-1) (-1) = n := by
  unfold Builtin.Slice.slicePlaces
  rw [if_neg (by decide)]
  by_cases h : (n : Int) - 1 > -1
  · rw [if_pos h, show (-(-1) : Int) = 1 by decide, Int.ediv_one]
    omega
  · rw [if_neg h]
    omega
theorem fm_congr {α β : Type} {f g : α → Option β} : ∀ {l : List α}, (∀ x ∈ l, f x = g x) → l.filterMap f = l.filterMap g
  | [], _ => rfl
  | a :: l, h => by
    rw [List.filterMap_cons, List.filterMap_cons, h a List.mem_cons_self, fm_congr fun x hx => h x (List.mem_cons_of_mem _ hx)]
theorem pick_rev (xs : Array Value) : ((List.range xs.size).filterMap fun (m : Nat) => xs[(((xs.size : Int) - 1) + (m : Int) * (-1)).toNat]?).toArray = xs.toList.reverse.toArray := by
  have e : (List.range xs.size).filterMap (fun (m : Nat) => xs[(((xs.size : Int) - 1) + (m : Int) * (-1)).toNat]?) = ((List.range xs.size).map fun k => xs.size - 1 - k).filterMap (xs[·]?) := by
    rw [List.filterMap_map]
    refine fm_congr fun m hm => ?_
    have := List.mem_range.mp hm
    have e : (((xs.size : Int) - 1) + (m : Int) * (-1)).toNat = xs.size - 1 - m := by omega
    rw [e]
    rfl
  rw [e, PySem.W.krv_range, List.filterMap_reverse, PySem.W.krv_all]
theorem sliceApplied_rev {sl : Addr} {vl vu vs : Value} {n : Nat} {Q : Int × Int × Nat → Shared → Prop} (hs : s.heap.IsSliceOf sl vl vu vs) (pl : IsPart vl none) (pu : IsPart vu none) (ps : IsPart vs (some (-1)))
    (h : Q ((n : Int) - 1, -1, n) s) : wpAny (model prog w) A (Builtin.Slice.sliceApplied (.ref sl) (pure (n : Int))) Q E s := by
  obtain ⟨os, hos, hcs, hds⟩ := id hs
  unfold Builtin.Slice.sliceApplied Builtin.Slice.sliceFields
  refine wpAny_bind (wpAny_bind (wpAny_field hos hds (x := vl) rfl (wpAny_bind (wpAny_field hos hds (x := vu) rfl (wpAny_bind (wpAny_field hos hds (x := vs) rfl (wpAny_pure ?_)))))))
  refine wpAny_bind (slicePart_ ps ?_)
  show wpAny _ _ (if ((-1 : Int) == 0) = true then _ else _) _ _ s
  rw [if_neg (by decide)]
  refine wpAny_bind (slicePart_ pl (wpAny_bind (slicePart_ pu (wpAny_bind (wpAny_pure ?_)))))
  show wpAny _ _ (match Builtin.Slice.sliceAdjust none none (-1) (n : Int) with | (lo, hi) => pure (lo, (-1 : Int), Builtin.Slice.slicePlaces lo hi (-1))) _ _ s
  rw [adjust_rev n]
  show wpAny _ _ (pure ((n : Int) - 1, (-1 : Int), Builtin.Slice.slicePlaces ((n : Int) - 1) (-1) (-1))) _ _ s
  rw [places_rev]
  exact wpAny_pure h
theorem getItem_tuple_rev {t sl : Addr} {items : Array Value} {vl vu vs : Value} {Q : Value → Shared → Prop} (ht : IsTup s.heap t items) (hs : s.heap.IsSliceOf sl vl vu vs) (pl : IsPart vl none) (pu : IsPart vu none) (ps : IsPart vs (some (-1)))
    (h : Q (.ref s.heap.objs.size) { s with heap := s.heap.push { cls := .type "tuple", data := .seq items.toList.reverse.toArray } })
    (hsz : items.size ≤ sizeLine) : wpAny (model prog w) A (getItem (.ref t) (.ref sl)) Q E s := by
  have htake : sizeOk (.seq items.toList.reverse.toArray) := by
    show items.toList.reverse.toArray.size ≤ sizeLine
    rw [List.size_toArray, List.length_reverse, Array.length_toList]
    exact hsz
  obtain ⟨os, hos, hcs, hds⟩ := id hs
  have hTs : s.TypeIs (.ref sl) "slice" := ⟨os, hos, hcs⟩
  unfold getItem
  try with_reducible refine wpAny_holding ?_
  first | refine wpAny_bind (wpAny_pure ?_) | skip
  refine wpAny_bind (wpAny_sequenceKey ht.typeIs (by decide) ?_)
  refine wpAny_bind (wpAny_callSpecial?_slot (name := Str.ofString "__getitem__") ht.typeIs PyProof.Rows.slot_tuple_getitem
    (wpAny_call_entry PyProof.Rows.slot_tuple_getitem ht.typeIs entry_tuple_getitem ?_ (args_tuple_getitem _ _)))
  show wpAny _ _ (Builtin.Tuple.tupleItemsOf (.ref t) >>= _) _ _ s
  refine wpAny_bind (tupleItemsOf_ ht ?_)
  refine wpAny_bind (wpAny_typeOf hTs ?_)
  rw [if_pos (by decide)]
  refine wpAny_bind (sliceApplied_rev hs pl pu ps ?_)
  have hno : ¬ ((((items.size : Int) - 1) == 0 && (-1 : Int) == 1 && items.size == items.size) = true) := by
    intro q
    rw [Bool.and_eq_true, Bool.and_eq_true] at q
    exact absurd q.1.2 (by decide)
  show wpAny _ _ (if (((items.size : Int) - 1) == 0 && (-1 : Int) == 1 && items.size == items.size) = true then _ else _) _ _ s
  rw [if_neg hno, pick_rev]
  first
    | exact wpAny_bind (m := Builtin.Tuple.tupleExact _) (wpAny_newObj_type (wpAny_pure ⟨_, rfl, wpAny_pure h⟩) htake)
    | exact wpAny_bind (m := Builtin.Tuple.tupleExact _) (wpAny_newObj_type (wpAny_bind (wpAny_pure (wpAny_pure ⟨_, rfl, wpAny_pure h⟩))) htake)
    | exact wpAny_bind (wpAny_bind (m := Builtin.Tuple.tupleExact _) (wpAny_newObj_type (wpAny_pure (wpAny_pure ⟨_, rfl, wpAny_pure h⟩)) htake))
    | exact wpAny_bind (wpAny_bind (m := Builtin.Tuple.tupleExact _) (wpAny_newObj_type (wpAny_pure ⟨_, rfl, wpAny_pure h⟩) htake))
end
end HT
namespace Fh
open PySem L2
/-! ### the heap without the pot -/
def hid (l : List Addr) (H : Hp) : Hp := fun b => if b ∈ l then none else H b
theorem hid_get {l : List Addr} {H : Hp} {b : Addr} {o : HO} : hid l H b = some o ↔ b ∉ l ∧ H b = some o := by
  unfold hid
  by_cases h : b ∈ l
  · rw [if_pos h]
    exact ⟨fun z => (by cases z), fun z => absurd h z.1⟩
  · rw [if_neg h]
    exact ⟨fun z => ⟨h, z⟩, fun z => z.2⟩
theorem hid_same {l : List Addr} {H : Hp} : Same (hid l H) H := fun b o h => (hid_get.mp h).2
theorem But.hid {p : Addr} {H H' : Hp} {l : List Addr} (e : But p H H') (hp : p ∈ l) : Same (hid l H) (hid l H') := fun b o h => by
  obtain ⟨n, h⟩ := hid_get.mp h
  exact hid_get.mpr ⟨n, e b o h fun z => n (z ▸ hp)⟩
theorem Same.hid {H H' : Hp} {l : List Addr} (e : Same H H') : Same (hid l H) (hid l H') := fun b o h => by
  obtain ⟨n, h⟩ := hid_get.mp h
  exact hid_get.mpr ⟨n, e b o h⟩
theorem Pot.is {H : Hp} {p : Addr} {n : Nat} (h : Pot H p n) : ∃ ys, H p = some (.lst ys) := by
  obtain ⟨o, b, c, e, _⟩ := h
  exact ⟨_, e⟩
theorem hid_new {H : Hp} {p q : Addr} {o : HO} {n : Nat} (hp : Pot H p n) (hq : H q = none) : hid [p] (upd H q o) q = some o := by
  obtain ⟨u, hp⟩ := hp.is
  exact hid_get.mpr ⟨fun z => ne_of_none hp hq (List.mem_singleton.mp z).symm, upd_same⟩
theorem Pot.new {H : Hp} {p q : Addr} {n : Nat} (h : Pot H p n) (hq : H q = none) (o : HO) : Pot (upd H q o) p n := h.same (same_new hq o)
theorem Pot.ne {H : Hp} {p q : Addr} {n : Nat} (h : Pot H p n) (hq : H q = none) : q ≠ p := by
  obtain ⟨u, hp⟩ := h.is
  exact fun z => ne_of_none hp hq z.symm
theorem same_but {p : Addr} {H H1 H2 : Hp} (a : Same H H1) (b : But p H1 H2) : But p H H2 := (But.of_same a).trans b
theorem one_le : (1 : Nat) ≤ 1000 := by decide
section
open PySem PySem.Spec PyProof.Rows L2
variable {X : Cx}
def tRevT (K : PySem.W.Frag) (te : TE) : TE := fun σ H Q => te σ H fun x H1 => ∃ a xs, x = .ref a ∧ SqT K H1 a xs ∧ ∀ p, H1 p = none → Q (.ref p) (upd H1 p (.tup xs.reverse))
theorem pe_revT {e : Expr} {te : TE} {k : Nat} {p1 p2 p3 pos : PySem.Pos} (he : PE X e te) : PE X (.Subscript e (.Slice none none (some (.UnaryOp .USub (.Constant (.int 1) k p1) p2)) p3) pos) (tRevT X.K te) := by
  refine ⟨fun pins s σ H Q I h => ?_⟩
  refine Subscript_ (thn (he.run pins s σ H _ I h) fun v s1 ⟨x, H1, I1, r1, q1⟩ => ?_)
  obtain ⟨a, xs, ex, hx, q⟩ := q1
  subst ex
  cases r1
  have hst : PO X (some (.UnaryOp .USub (.Constant (.int 1) k p1) p2)) (tPart (tUn (rU fun i => .int (-i)) (tC (.int 1)))) := po_some (pe_un un_neg pe_int)
  refine wpAny_Slice (thn (po_none.run pins s1 σ H1 (fun o H2 => o = none ∧ H2 = H1) I1 ⟨rfl, rfl⟩) fun vl s2 ⟨l, H2, I2, pl, el, e2⟩ => ?_)
  subst el e2
  refine thn (po_none.run pins s2 σ H2 (fun o H3 => o = none ∧ H3 = H2) I2 ⟨rfl, rfl⟩) fun vu s3 ⟨u, H3, I3, pu, eu, e3⟩ => ?_
  subst eu e3
  refine thn (hst.run pins s3 σ H3 (fun o H4 => o = some (-1) ∧ H4 = H3) I3 ⟨1, rfl, -1, rfl, rfl, rfl⟩) fun vs s4 ⟨o, H4, I4, ps, eo, e4⟩ => ?_
  subst eo e4
  have I5 : Inv X pins σ H4 { s4 with heap := s4.heap.push { cls := .type "slice", data := .fields #[vl, vu, vs] } } := I4.kept (t' := s4.toks) fun b ob q => Heap.get?_push_of_some _ q
  obtain ⟨its, r, ht, hz⟩ := I5.tuple hx
  have hlen := r.length
  show wpAny (model X.prog X.w) X.A (subscriptTail e (.Slice none none (some (.UnaryOp .USub (.Constant (.int 1) k p1) p2)) p3) (.ref a) (.ref s4.heap.objs.size)) (EP X pins σ Q) X.xe { s4 with heap := s4.heap.push { cls := .type "slice", data := .fields #[vl, vu, vs] } }
  refine tail_any (ops := [.ref a, .ref s4.heap.objs.size]) ht.typeIs (PyProof.Rows.slot_tuple_getitem.lookup) ?_ (by with_unfolding_all rfl)
  refine HT.getItem_tuple_rev ht (Heap.IsSliceOf.new _ vl vu vs) pl pu ps ?_ (by rw [List.size_toArray]; omega)
  refine ⟨.ref _, _, I5.laid (t' := s4.toks) (o := .tup xs.reverse) (fun b ob q => Heap.get?_push_of_some _ q) (Nat.le_refl _) ?_, rfl, q _ (I5.hok.fresh (Nat.le_refl _))⟩
  exact ⟨by rw [List.length_reverse]; exact hz, _, r.reverse, IsTup.new _ _⟩
end
/-! ### expressions that cut tuples and put them together, the pot hidden -/
structure Vw where
  ds : List PyData
  k : Nat
  w : PyData
abbrev Ro := List (Nat × (Vw → PyData))
def Kn (K : PySem.W.Frag) (ρ : Ro) (p : Addr) (ε : Vw) (σ : L2.St) (H : Hp) : Prop := ∀ r ∈ ρ, ∃ v, σ[r.1]? = some (some v) ∧ Dv K (hid [p] H) v (r.2 ε)
theorem Kn.same {K : PySem.W.Frag} {ρ : Ro} {p : Addr} {ε : Vw} {σ : L2.St} {H H' : Hp} (s : Same (hid [p] H) (hid [p] H')) (h : Kn K ρ p ε σ H) : Kn K ρ p ε σ H' := fun r m => (h r m).imp fun _ z => ⟨z.1, z.2.same s⟩
structure KnP (K : PySem.W.Frag) (ρ : Ro) (p : Addr) (n : Nat) (ε : Vw) (σ : L2.St) (H : Hp) : Prop where
  pot : Pot H p n
  few : ε.ds.length ≤ 1000
  kn : Kn K ρ p ε σ H
theorem KnP.same {K : PySem.W.Frag} {ρ : Ro} {p : Addr} {n : Nat} {ε : Vw} {σ : L2.St} {H H' : Hp} (s : Same H H') (h : KnP K ρ p n ε σ H) : KnP K ρ p n ε σ H' := ⟨h.pot.same s, h.few, h.kn.same (Same.hid s)⟩
def tX (K : PySem.W.Frag) (ρ : Ro) (f : Vw → PyData) : TE := fun σ H Q => ∃ (p : Addr) (n : Nat) (ε : Vw), KnP K ρ p n ε σ H ∧ ∀ v H', Same H H' → Dv K (hid [p] H') v (f ε) → Q v H'
def tXs (K : PySem.W.Frag) (ρ : Ro) (f : Vw → List PyData) : TA := fun σ H Q => ∃ (p : Addr) (n : Nat) (ε : Vw), KnP K ρ p n ε σ H ∧ ∀ vs H', Same H H' → DvAll K (hid [p] H') vs (f ε) → Q vs H'
def tXo (K : PySem.W.Frag) (ρ : Ro) (g : Vw → Option Nat) : TO := fun σ H Q => ∃ (p : Addr) (n : Nat) (ε : Vw), KnP K ρ p n ε σ H ∧ Q ((g ε).map fun (j : Nat) => (j : Int)) H
/-- the items from lo to hi -/
def cutD (ds : List PyData) (lo hi : Option Nat) : List PyData := (ds.take (hi.getD ds.length)).drop (lo.getD 0)
theorem cutV_is {α : Type} (xs : List α) (lo hi : Nat) : (xs.drop (min lo xs.length)).take (min hi xs.length - min lo xs.length) = (xs.take hi).drop lo := by
  rw [List.drop_take]
  by_cases h : lo ≤ xs.length
  · rw [Nat.min_eq_left h]
    by_cases h2 : hi ≤ xs.length
    · rw [Nat.min_eq_left h2]
    · rw [Nat.min_eq_right (by omega), List.take_of_length_le (by rw [List.length_drop]; exact Nat.le_refl _), List.take_of_length_le (by rw [List.length_drop]; omega)]
  · rw [List.drop_of_length_le (by omega), List.drop_of_length_le (by omega), List.take_nil, List.take_nil]
theorem cutV_nat (xs : List L2.V) (lo hi : Option Nat) : cutV xs (lo.map fun (j : Nat) => (j : Int)) (hi.map fun (j : Nat) => (j : Int)) = (xs.take (hi.getD xs.length)).drop (lo.getD 0) := by
  have a : ∀ (o : Option Nat) (d n : Nat), d ≤ n → HT.sIx n d (o.map fun (j : Nat) => (j : Int)) = min (o.getD d) n := fun o d n h => by
    cases o with
    | none => show d = min d n; omega
    | some k => exact HT.sIx_nat n d k
  unfold cutV
  rw [a lo 0 _ (Nat.zero_le _), a hi _ _ (Nat.le_refl _)]
  exact cutV_is xs _ _
theorem DvAll.cut {K : PySem.W.Frag} {H : Hp} {vs : List L2.V} {ds : List PyData} (h : DvAll K H vs ds) (lo hi : Option Nat) : DvAll K H (cutV vs (lo.map fun (j : Nat) => (j : Int)) (hi.map fun (j : Nat) => (j : Int))) (cutD ds lo hi) := by
  rw [cutV_nat]
  unfold cutD
  rw [h.len]
  exact (h.take _).drop _
theorem cut_whole {α : Type} (xs : List α) (lo hi : Option Nat) (h : HT.sIx xs.length 0 (lo.map fun (j : Nat) => (j : Int)) = 0 ∧ HT.sIx xs.length xs.length (hi.map fun (j : Nat) => (j : Int)) = xs.length) : (xs.take (hi.getD xs.length)).drop (lo.getD 0) = xs := by
  obtain ⟨h1, h2⟩ := h
  have e2 : xs.take (hi.getD xs.length) = xs := by
    cases hi with
    | none => exact List.take_length
    | some k =>
      rw [show (some k).map (fun (j : Nat) => (j : Int)) = some (k : Int) from rfl, HT.sIx_nat] at h2
      exact List.take_of_length_le (by show xs.length ≤ k; omega)
  rw [e2]
  cases lo with
  | none => rfl
  | some k =>
    rw [show (some k).map (fun (j : Nat) => (j : Int)) = some (k : Int) from rfl, HT.sIx_nat] at h1
    show xs.drop k = xs
    by_cases hk : k = 0
    · rw [hk]; rfl
    · have : xs = [] := List.eq_nil_of_length_eq_zero (by omega)
      rw [this, List.drop_nil]
theorem DvAll.reverse {K : PySem.W.Frag} {H : Hp} : ∀ {vs : List L2.V} {ds : List PyData}, DvAll K H vs ds → DvAll K H vs.reverse ds.reverse
  | _, _, .nil => .nil
  | _, _, .cons h g => by
    rw [List.reverse_cons, List.reverse_cons]
    exact (DvAll.reverse g).append (.cons h .nil)
theorem pe_weak {X : Cx} {e : Expr} {t t' : TE} (i : ∀ σ H Q, t' σ H Q → t σ H Q) (h : PE X e t) : PE X e t' := ⟨fun pins s σ H Q I q => h.run pins s σ H Q I (i _ _ _ q)⟩
theorem paf_weak {X : Cx} {es : List Expr} {t t' : TA} (i : ∀ σ H Q, t' σ H Q → t σ H Q) (h : PA X es t) : PA X es t' := ⟨fun pos pins s σ H Q I q => h.run pos pins s σ H Q I (i _ _ _ q)⟩
theorem po_weak {X : Cx} {e : Option Expr} {t t' : TO} (i : ∀ σ H Q, t' σ H Q → t σ H Q) (h : PO X e t) : PO X e t' := ⟨fun pins s σ H Q I q => h.run pins s σ H Q I (i _ _ _ q)⟩
theorem dv_new {K : PySem.W.Frag} {H : Hp} {p q : Addr} {n : Nat} {xs : List L2.V} {ds : List PyData} (hp : Pot H p n) (hq : H q = none) (h : DvAll K (hid [p] H) xs ds) : Dv K (hid [p] (upd H q (.tup xs))) (.ref q) (.tuple ds) := .tup (.inl (.inl (hid_new hp hq))) (h.same (Same.hid (same_new hq _)))
theorem dv_newL {K : PySem.W.Frag} {H : Hp} {p q : Addr} {n : Nat} {xs : List L2.V} {ds : List PyData} (hp : Pot H p n) (hq : H q = none) (n : q ≠ sysModules) (h : DvAll K (hid [p] H) xs ds) : Dv K (hid [p] (upd H q (.lst xs))) (.ref q) (.list ds) := .lst (hid_new hp hq) n (h.same (Same.hid (same_new hq _)))
section
variable {X : Cx} {ρ : Ro} {e a b : Expr} {es : List Expr} {f g : Vw → PyData} {F G : Vw → List PyData} {pos : PySem.Pos}
theorem px_of {v : L2.V} {d : PyData} (hd : ∀ H, Dv X.K H v d) (h : PE X e (tC v)) : PE X e (tX X.K ρ fun _ => d) := pe_weak (fun _ H _ q => by
  obtain ⟨p, n, ε, kn, q⟩ := q
  exact q v H (fun _ _ e => e) (hd _)) h
theorem px_var {x : Str} {i : Nat} (m : (i, f) ∈ ρ) (h : PE X (.Name x pos) (tVar i)) : PE X (.Name x pos) (tX X.K ρ f) := pe_weak (fun σ H Q q => by
  obtain ⟨p, n, ε, kn, q⟩ := q
  obtain ⟨v, h1, h2⟩ := kn.kn _ m
  exact ⟨v, h1, q v H (fun _ _ e => e) h2⟩) h
theorem px_nil : PA X [] (tXs X.K ρ fun _ => []) := paf_weak (fun σ H Q q => by
  obtain ⟨p, n, ε, kn, q⟩ := q
  exact q [] H (fun _ _ e => e) .nil) pa_nil
theorem px_cons (h : PE X e (tX X.K ρ f)) (t : PA X es (tXs X.K ρ F)) (hs : starEach (e :: es) X.env = (false, eval e X.env) :: starEach es X.env := by rfl) : PA X (e :: es) (tXs X.K ρ fun ε => f ε :: F ε) :=
  paf_weak (fun σ H Q q => by
    obtain ⟨p, n, ε, kn, q⟩ := q
    exact ⟨p, n, ε, kn, fun v H1 s1 h1 => ⟨p, n, ε, kn.same s1, fun vs H2 s2 h2 => q _ H2 (Same.trans s1 s2) (.cons (h1.same (Same.hid s2)) h2)⟩⟩) (pa_cons h t hs)
theorem px_tup {x1} (t : PA X es (tXs X.K ρ F)) (hl : ∀ ε, (F ε).length ≤ 1000 := by intro _; decide) : PE X (.Tuple es x1 pos) (tX X.K ρ fun ε => .tuple (F ε)) :=
  pe_weak (fun σ H Q q => by
    obtain ⟨p, n, ε, kn, q⟩ := q
    exact ⟨p, n, ε, kn, fun vs H1 s1 h1 => ⟨small (by rw [h1.len]; exact hl ε), fun r hr => q _ _ (Same.trans s1 (same_new hr _)) (dv_new (kn.same s1).pot hr h1)⟩⟩) (pe_tup t)
theorem px_slice {lo hi : Option Expr} {p2} {g1 g2 : Vw → Option Nat} (he : PE X e (tX X.K ρ fun ε => .tuple (F ε))) (hlo : PO X lo (tXo X.K ρ g1)) (hhi : PO X hi (tXo X.K ρ g2)) : PE X (.Subscript e (.Slice lo hi none p2) pos) (tX X.K ρ fun ε => .tuple (cutD (F ε) (g1 ε) (g2 ε))) :=
  pe_weak (fun σ H Q q => by
    obtain ⟨p, n, ε, kn, q⟩ := q
    refine ⟨p, n, ε, kn, fun v H1 s1 h1 => ⟨p, n, ε, kn.same s1, p, n, ε, kn.same s1, ?_⟩⟩
    cases h1 with
    | @tup a xs _ hq hall =>
    refine ⟨a, xs, rfl, same_sqT hid_same hq, fun hw => ?_, fun hw r hr => ?_⟩
    · have e1 : cutD (F ε) (g1 ε) (g2 ε) = F ε := by
        rw [hall.len] at hw
        exact cut_whole (F ε) _ _ hw
      have q : ∀ v H', Same H H' → Dv X.K (hid [p] H') v (.tuple (cutD (F ε) (g1 ε) (g2 ε))) → Q v H' := q
      rw [e1] at q
      exact q _ H1 s1 (.tup hq hall)
    · exact q _ _ (Same.trans s1 (same_new hr _)) (dv_new (kn.same s1).pot hr (hall.cut _ _))) (pe_slice sl_tupA he hlo hhi)
theorem px_rev {k : Nat} {p1 p2 p3 : PySem.Pos} (he : PE X e (tX X.K ρ fun ε => .tuple (F ε))) : PE X (.Subscript e (.Slice none none (some (.UnaryOp .USub (.Constant (.int 1) k p1) p2)) p3) pos) (tX X.K ρ fun ε => .tuple (F ε).reverse) :=
  pe_weak (fun σ H Q q => by
    obtain ⟨p, n, ε, kn, q⟩ := q
    refine ⟨p, n, ε, kn, fun v H1 s1 h1 => ?_⟩
    cases h1 with
    | @tup a xs _ hq hall => exact ⟨a, xs, rfl, same_sqT hid_same hq, fun r hr => q _ _ (Same.trans s1 (same_new hr _)) (dv_new (kn.same s1).pot hr hall.reverse)⟩) (pe_revT he)
theorem px_cat (hl : ∀ ε : Vw, ε.ds.length ≤ 1000 → (F ε).length + (G ε).length ≤ 10000) (ha : PE X a (tX X.K ρ fun ε => .tuple (F ε))) (hb : PE X b (tX X.K ρ fun ε => .tuple (G ε))) : PE X (.BinOp a .Add b pos) (tX X.K ρ fun ε => .tuple (F ε ++ G ε)) :=
  pe_weak (fun σ H Q q => by
    obtain ⟨p, n, ε, kn, q⟩ := q
    refine ⟨p, n, ε, kn, fun v H1 s1 h1 => ⟨p, n, ε, kn.same s1, fun v2 H2 s2 h2 => ?_⟩⟩
    have s12 := Same.trans s1 s2
    have hlen := hl ε kn.few
    cases h1.same (Same.hid s2) with
    | @tup l xs _ hq hall =>
    cases h2 with
    | @tup l2 ys _ hq2 hall2 =>
    have e1 := hall.len
    have e2 := hall2.len
    refine ⟨l, l2, xs, ys, rfl, rfl, same_sqT hid_same hq, same_sqT hid_same hq2, (by rw [sizeLine_eq]; omega), fun z => ?_, fun _ z => ?_, fun _ _ r hr => ?_⟩
    · refine q (.ref l2) H2 s12 (.tup hq2 ?_)
      have : F ε = [] := List.eq_nil_of_length_eq_zero (by rw [← e1, z]; rfl)
      show DvAll _ _ _ (F ε ++ G ε)
      rw [this]
      exact hall2
    · refine q (.ref l) H2 s12 (.tup hq ?_)
      have : G ε = [] := List.eq_nil_of_length_eq_zero (by rw [← e2, z]; rfl)
      show DvAll _ _ _ (F ε ++ G ε)
      rw [this, List.append_nil]
      exact hall
    · exact q _ _ (Same.trans s12 (same_new hr _)) (dv_new (kn.same s12).pot hr (hall.append hall2))) (pe_op op_catA ha hb)
theorem px_list {p0 : PySem.Pos} (hg : Gl X "list") (hm : X.mg "list" = none) (he : PE X e (tX X.K ρ fun ε => .tuple (F ε))) (hs : starEach [e] X.env = (false, eval e X.env) :: starEach [] X.env := by rfl) : PE X (.Call (.Name "list" p0) [e] [] pos) (tX X.K ρ fun ε => .list (F ε)) :=
  pe_weak (fun σ H Q q => by
    obtain ⟨p, n, ε, kn, q⟩ := q
    refine ⟨p, n, ε, kn, fun v H1 s1 h1 => ?_⟩
    cases h1 with
    | @tup a xs _ hq hall => exact ⟨a, xs, rfl, same_sqT hid_same hq, fun r hr nr => q _ _ (Same.trans s1 (same_new hr _)) (dv_newL (kn.same s1).pot hr nr hall)⟩) (pe_callTy call_listN hg hm (by decide +kernel) (pa_cons he pa_nil hs) (by decide) (by decide) hs)
theorem px_lst (t : PA X es (tXs X.K ρ F)) (hl : ∀ ε, (F ε).length ≤ 1000 := by intro _; decide) : PE X (.List es pos) (tX X.K ρ fun ε => .list (F ε)) :=
  pe_weak (fun σ H Q q => by
    obtain ⟨p, n, ε, kn, q⟩ := q
    exact ⟨p, n, ε, kn, fun vs H1 s1 h1 => ⟨small (by rw [h1.len]; exact hl ε), fun r hr nr => q _ _ (Same.trans s1 (same_new hr _)) (dv_newL (kn.same s1).pot hr nr h1)⟩⟩) (pe_lstN t)
theorem px_dct : PE X (.Dict [] [] pos) (tX X.K ρ fun _ => .dict []) :=
  pe_weak (fun σ H Q q r hr => by
    obtain ⟨p, n, ε, kn, q⟩ := q
    exact q _ _ (same_new hr _) (.dct (hid_new kn.pot hr))) pe_dnewK
theorem mer1 (v : L2.V) : mergeK ([] : List (Key × L2.V)) [(.inr ("a" : Str), v)] = [(.inr "a", v)] := rfl
/-- {"a": x} of a name -/
theorem px_dc1 {x : Str} {i j : Nat} {p1 p2 : PySem.Pos} (m : (i, f) ∈ ρ) (h : PE X (.Name x p2) (tVar i)) : PE X (.Dict [some (.Constant (.str "a") j p1)] [.Name x p2] pos) (tX X.K ρ fun ε => .dict [(.str "a", f ε)]) :=
  pe_weak (fun σ H Q q r hr => by
    obtain ⟨p, n, ε, kn, q⟩ := q
    obtain ⟨v, h1, h2⟩ := kn.kn _ m
    have s1 : Same H (upd (upd H r (.dK [])) r (.dK [(.inr "a", v)])) := fun b o e => by
      rw [upd_upd]
      exact same_new hr _ b o e
    refine ⟨v, h1, upd_same, [(.inr "a", v)], rfl, (Nat.le_of_ble_eq_true rfl), q _ _ s1 (.dc1 "a" ?_ (h2.same (Same.hid s1)))⟩
    rw [upd_upd]
    exact hid_new kn.pot hr) (pe_disp (pps_cons pe_str h pps_nil) rfl rfl (fun z => by cases z) (Nat.le_of_ble_eq_true rfl))
/-- .. of a number -/
theorem px_dc1i {c : Int} {i j : Nat} {p1 p2 : PySem.Pos} : PE X (.Dict [some (.Constant (.str "a") j p1)] [.Constant (.int c) i p2] pos) (tX X.K ρ fun _ => .dict [(.str "a", .int c)]) :=
  pe_weak (fun σ H Q q r hr => by
    obtain ⟨p, n, ε, kn, q⟩ := q
    have s1 : Same H (upd (upd H r (.dK [])) r (.dK [(.inr "a", .int c)])) := fun b o e => by
      rw [upd_upd]
      exact same_new hr _ b o e
    refine ⟨upd_same, [(.inr "a", .int c)], rfl, (Nat.le_of_ble_eq_true rfl), q _ _ s1 (.dc1 "a" ?_ (.int c))⟩
    rw [upd_upd]
    exact hid_new kn.pot hr) (pe_disp (pps_cons pe_str pe_int pps_nil) rfl rfl (fun z => by cases z) (Nat.le_of_ble_eq_true rfl))
theorem px_int {i : Int} {j p1} : PE X (.Constant (.int i) j p1) (tX X.K ρ fun _ => .int i) := px_of (fun _ => .int i) pe_int
theorem px_bl {c : Bool} {j p1} : PE X (.Constant (.bool c) j p1) (tX X.K ρ fun _ => .bool c) := px_of (fun _ => .bl c) pe_bl
theorem px_non {j p1} : PE X (.Constant .none j p1) (tX X.K ρ fun _ => .none) := px_of (fun _ => .non) pe_non
theorem px_str {z : Str} {j p1} (h : z.length ≤ 1000000 := by decide) : PE X (.Constant (.str z) j p1) (tX X.K ρ fun _ => .str z) := px_of (fun _ => .str z h) pe_str
/-! bounds -/
theorem po_no : PO X none (tXo X.K ρ fun _ => none) := po_weak (fun σ H Q q => by
  obtain ⟨p, n, ε, kn, q⟩ := q
  exact q) po_none
theorem po_k {x : Str} {i : Nat} (m : (i, fun ε : Vw => PyData.int (ε.k : Int)) ∈ ρ) (h : PE X (.Name x pos) (tVar i)) : PO X (some (.Name x pos)) (tXo X.K ρ fun ε => some ε.k) := po_weak (fun σ H Q q => by
  obtain ⟨p, n, ε, kn, q⟩ := q
  obtain ⟨v, h1, h2⟩ := kn.kn _ m
  cases h2
  exact ⟨_, h1, _, rfl, q⟩) (po_some h)
theorem po_kc {x : Str} {i c k1 : Nat} {p1 p2 : PySem.Pos} (m : (i, fun ε : Vw => PyData.int (ε.k : Int)) ∈ ρ) (h : PE X (.Name x p1) (tVar i)) : PO X (some (.BinOp (.Name x p1) .Add (.Constant (.int (c : Int)) k1 p2) pos)) (tXo X.K ρ fun ε => some (ε.k + c)) := po_weak (fun σ H Q q => by
  obtain ⟨p, n, ε, kn, q⟩ := q
  obtain ⟨v, h1, h2⟩ := kn.kn _ m
  cases h2
  refine ⟨_, h1, _, _, rfl, rfl, _, rfl, ?_⟩
  have e : ((ε.k : Int) + (c : Int)) = ((ε.k + c : Nat) : Int) := by omega
  rw [e]
  exact q) (po_some (pe_op op_add h pe_int))
theorem po_m1 {k1 : Nat} {p1 p2 : PySem.Pos} : PO X (some (.UnaryOp .USub (.Constant (.int 1) k1 p1) p2)) (fun _ H Q => Q (some (-1)) H) := po_weak (fun σ H Q q => ⟨1, rfl, _, rfl, q⟩) (po_some (pe_un un_neg pe_int))
theorem cut_last {α : Type} (xs : List α) : (xs.drop (HT.sIx xs.length 0 none)).take (HT.sIx xs.length xs.length (some (-1)) - HT.sIx xs.length 0 none) = xs.take (xs.length - 1) := by
  have e : HT.sIx xs.length xs.length (some (-1)) = xs.length - 1 := by
    simp only [HT.sIx]
    rw [if_pos (by decide)]
    omega
  rw [e]
  rfl
/-- all but the last -/
theorem px_init {k1 : Nat} {p1 p2 p3 : PySem.Pos} (he : PE X e (tX X.K ρ fun ε => .tuple (F ε))) : PE X (.Subscript e (.Slice none (some (.UnaryOp .USub (.Constant (.int 1) k1 p1) p2)) none p3) pos) (tX X.K ρ fun ε => .tuple ((F ε).take ((F ε).length - 1))) :=
  pe_weak (fun σ H Q q => by
    obtain ⟨p, n, ε, kn, q⟩ := q
    refine ⟨p, n, ε, kn, fun v H1 s1 h1 => ?_⟩
    cases h1 with
    | @tup a xs _ hq hall =>
    have hl := hall.len
    refine ⟨a, xs, rfl, same_sqT hid_same hq, fun hw => ?_, fun hw r hr => ?_⟩
    · have e1 : xs = [] := by
        have h2 := hw.2
        simp only [HT.sIx] at h2
        rw [if_pos (by decide)] at h2
        exact List.eq_nil_of_length_eq_zero (by omega)
      subst e1
      have e2 : F ε = [] := List.eq_nil_of_length_eq_zero (by simpa using hl.symm)
      have q : ∀ v H', Same H H' → Dv X.K (hid [p] H') v (.tuple ((F ε).take ((F ε).length - 1))) → Q v H' := q
      rw [e2] at q hall
      exact q _ H1 s1 (.tup hq hall)
    · refine q _ _ (Same.trans s1 (same_new hr _)) (dv_new (kn.same s1).pot hr ?_)
      have e3 : cutV xs none (some (-1)) = xs.take (xs.length - 1) := cut_last xs
      rw [e3, hl]
      exact hall.take _) (pe_slice sl_tupA he po_none po_m1)
theorem po_c {c k1 : Nat} {p2 : PySem.Pos} : PO X (some (.Constant (.int (c : Int)) k1 p2)) (tXo X.K ρ fun _ => some c) := po_weak (fun σ H Q q => by
  obtain ⟨p, n, ε, kn, q⟩ := q
  exact ⟨_, rfl, q⟩) (po_some pe_int)
end
end Fh
set_option Elab.async false
set_option linter.all false
set_option maxRecDepth 100000
set_option maxHeartbeats 2000000
namespace Fh
open PySem L2 TL
/-! ### _law_odd -/
abbrev s__law_odd : Stmt := top 50
abbrev sc__law_oddN : List Str := ["_law_pot", "_law_some", "_law_found", "_law_turn"]
theorem sc__law_odd : FnScope sc__law_oddN ["_law_pot"] (defScope s__law_odd) := ⟨rfl, rfl, rfl, by decide +kernel, rfl, by decide +kernel, by decide +kernel⟩
def i30 : Int := 10 ^ ((30 : Int)).toNat
def odd1 : List PyData := [.none, .bool true, .bool false, .int 0, .int 1, .int (-1), .int i30, .str "", .str "a", .str "x", .str "ab", .str "X", .str "<", .tuple [], .list [], .dict [], .tuple [.int 0], .tuple [.str "a"], .tuple [.int 0, .int 0]]
def odd2 : List PyData := [.list [.int 0, .int 0], .tuple [.tuple [.int 0, .int 0]], .tuple [.int 0, .str "x"], .tuple [.tuple [.int 0, .str "x"]], .tuple [.int 0, .str "a", .int 0, .str "x"], .dict [(.str "a", .int 1)]]
theorem ta_lf {d : PyData} (h : isLf 4 d = true) : Ta 4 4 2 d ∧ nodes d ≤ 6 := ⟨.leaf h, by
  cases d with
  | tuple _ => cases h
  | list _ => cases h
  | dict _ => cases h
  | _ => simp only [nodes]; omega⟩
theorem ta_tup {ds : List PyData} {m : Nat} (h : ∀ d ∈ ds, Ta 4 4 m d) (hm : m ≤ 1) (l : ds.length ≤ 4) (n : nodesAll ds ≤ 5) : Ta 4 4 2 (.tuple ds) ∧ nodes (.tuple ds) ≤ 6 := ⟨Ta.mono (.tup h l) (Nat.le_refl _) (Nat.le_refl _) (by omega), by rw [nodes_tup]; omega⟩
theorem ta_all {m : Nat} : ∀ {ds : List PyData}, (ds.all (isLf 4)) = true → ∀ d ∈ ds, Ta 4 4 m d := fun h d hd => .leaf (List.all_eq_true.mp h d hd)
theorem lf_i30 : isLf 4 (.int i30) = true := by decide +kernel
theorem odd_ok : ∀ d ∈ odd1 ++ odd2, Ta 4 4 2 d ∧ nodes d ≤ 6 := fun d hd => by
  unfold odd1 odd2 at hd
  simp only [List.cons_append, List.nil_append, List.mem_cons, List.mem_nil_iff, or_false] at hd
  rcases hd with rfl | rfl | rfl | rfl | rfl | rfl | rfl | rfl | rfl | rfl | rfl | rfl | rfl | rfl | rfl | rfl | rfl | rfl | rfl | rfl | rfl | rfl | rfl | rfl | rfl
  all_goals first
    | exact ta_lf lf_i30
    | exact ta_lf (by decide +kernel)
    | exact ta_tup (m := 0) (ta_all (by decide +kernel)) (by decide) (by decide) (by simp only [nodesAll, nodes]; omega)
    | exact ⟨Ta.mono (.lst (M := 0) (ta_all (by decide +kernel)) (by decide)) (Nat.le_refl _) (Nat.le_refl _) (by decide), by simp only [nodesAll, nodes]; omega⟩
    | exact ⟨.dct, by simp only [nodes, nodesKv]; omega⟩
    | exact ⟨.dc1 (.leaf (by decide +kernel)), by simp only [nodes, nodesKv]; omega⟩
    | exact ta_tup (m := 1) (fun x hx => by
        rw [List.mem_singleton.mp hx]
        exact .tup (M := 0) (ta_all (by decide +kernel)) (by decide)) (by decide) (by decide) (by simp only [nodesAll, nodes]; omega)
def rO : Ro := [(2, fun ε => ε.w)]
def spOdd (K : PySem.W.Frag) : Sp := fun vs H Q _ => ∃ (p : Addr) (n : Nat), vs = [.ref p] ∧ Pot H p n ∧ n + 10 < 100000 ∧ ∀ (y : V) (d : PyData) (H' : Hp), Pot H' p (n + 2) → But p H H' → Dv K (hid [p] H') y d → Ms 4 4 22 90 d → Q y H'
section
variable {X : Cx} {ρ : Ro}
theorem px_neg1 {k1 : Nat} {p1 p2 : PySem.Pos} : PE X (.UnaryOp .USub (.Constant (.int 1) k1 p1) p2) (tX X.K ρ fun _ => .int (-1)) := px_of (fun _ => .int _) (pe_weak (fun σ H Q q => ⟨1, rfl, q⟩) (pe_un un_neg pe_int))
theorem px_pow {k1 k2 : Nat} {p1 p2 p3 : PySem.Pos} : PE X (.BinOp (.Constant (.int 10) k1 p1) .Pow (.Constant (.int 30) k2 p2) p3) (tX X.K ρ fun _ => .int i30) := px_of (fun _ => .int _) (pe_weak (fun σ H Q q => ⟨10, 30, rfl, rfl, ⟨by decide, by decide, by decide⟩, q⟩) (pe_op op_pow pe_int pe_int))
end
theorem mod3 (i : Nat) : ((0 : Int) + (i : Int)) % 3 = ((i % 3 : Nat) : Int) := by omega
section
variable {P : Program} {w : World} {K : PySem.W.Frag} {mg : Str → Option Value} {base : Heap}
theorem ok_odd {f : Addr} {fd : FuncData} (F : Fun K "_law_odd" "_law_odd" s__law_odd f fd) (T : Bare mg) (CO : Callee P w K mg base 2 "_law_of" ["_law_pot", "_law_some"] (spOf K)) : FnOk P w K mg base CX0 3 f fd ["_law_pot"] (spOdd K) := by
  refine F.ok sc__law_odd (fun vs H Q E h => ?_) (fun cdv A outer st H vs Q E hr h => ?_)
  · obtain ⟨p, n, rfl, _⟩ := h
    rfl
  obtain ⟨p, n, rfl, hp, hn, q⟩ := h
  have one : ∀ ε : Vw, ([] : List PyData).length ≤ 1000 := fun _ => by decide
  refine ⟨_, (pss_cons (ps_set (i := 1) sc__law_odd.nd rfl (Or.inl rfl) (pe_lst (px_cons (ρ := []) px_non (px_cons px_bl (px_cons px_bl (px_cons px_int (px_cons px_int (px_cons px_neg1 (px_cons px_pow (px_cons px_str (px_cons px_str (px_cons px_str (px_cons px_str (px_cons px_str (px_cons px_str (px_cons (px_tup px_nil (fun _ => Nat.le_of_ble_eq_true rfl)) (px_cons (px_lst px_nil (fun _ => Nat.le_of_ble_eq_true rfl)) (px_cons px_dct (px_cons (px_tup (px_cons px_int px_nil) (fun _ => Nat.le_of_ble_eq_true rfl)) (px_cons (px_tup (px_cons px_str px_nil) (fun _ => Nat.le_of_ble_eq_true rfl)) (px_cons (px_tup (px_cons px_int (px_cons px_int px_nil)) (fun _ => Nat.le_of_ble_eq_true rfl)) px_nil)))))))))))))))))))))
(pss_cons (ps_set (i := 2) sc__law_odd.nd rfl (Or.inl rfl) (pe_call CO.ok hr rfl CO.mg CO.kp CO.b .nil pass0 (pa_cons (pv 0) (pa_cons (pe_op op_cat (pv 1) (pe_lst (px_cons (ρ := []) (px_lst (px_cons px_int (px_cons px_int px_nil)) (fun _ => Nat.le_of_ble_eq_true rfl)) (px_cons (px_tup (px_cons (px_tup (px_cons px_int (px_cons px_int px_nil)) (fun _ => Nat.le_of_ble_eq_true rfl)) px_nil) (fun _ => Nat.le_of_ble_eq_true rfl)) (px_cons (px_tup (px_cons px_int (px_cons px_str px_nil)) (fun _ => Nat.le_of_ble_eq_true rfl)) (px_cons (px_tup (px_cons (px_tup (px_cons px_int (px_cons px_str px_nil)) (fun _ => Nat.le_of_ble_eq_true rfl)) px_nil) (fun _ => Nat.le_of_ble_eq_true rfl)) (px_cons (px_tup (px_cons px_int (px_cons px_str (px_cons px_int (px_cons px_str px_nil)))) (fun _ => Nat.le_of_ble_eq_true rfl)) (px_cons px_dc1i px_nil)))))))) pa_nil))))
(pss_cons (ps_for PassesOwn.never rfl (pi_range1 (by rfl) T.range (pa_cons (pe_call CO.ok hr rfl CO.mg CO.kp CO.b .nil pass0 (pa_cons (pv 0) (pa_cons (pe_lst (pa_cons pe_int (pa_cons pe_int (pa_cons pe_int (pa_cons pe_int (pa_cons pe_int pa_nil)))))) pa_nil))) pa_nil)) (pg_name (i := 3) sc__law_odd.nd rfl (Or.inl rfl))
(pss_one (ps_set (i := 2) sc__law_odd.nd rfl (Or.inl rfl) (pe_ix ix_list (pe_lst (px_cons (ρ := rO) (px_tup (px_cons (px_var (f := fun ε => ε.w) (.head _) (pv 2)) px_nil) (fun _ => Nat.le_of_ble_eq_true rfl)) (px_cons (px_lst (px_cons (px_var (f := fun ε => ε.w) (.head _) (pv 2)) px_nil) (fun _ => Nat.le_of_ble_eq_true rfl)) (px_cons (px_dc1 (f := fun ε => ε.w) (.head _) (pv 2)) px_nil)))) (pe_op op_mod (pv 3) pe_int) (fun _ _ => rfl)))))
(pss_one (ps_ret (pv 2)))))), ?_⟩
  refine ⟨p, n, ⟨[], 0, .none⟩, ⟨hp, by decide, fun r m => (nomatch m)⟩, fun vs H1 s1 hvs => ?_⟩
  have hvs : DvAll K (hid [p] H1) vs odd1 := hvs
  have l1 : vs.length = 19 := hvs.len
  refine ⟨small (by omega), fun l hl => ?_⟩
  have sl := same_new hl (.lst vs)
  have hp1 := (hp.same s1).new hl (.lst vs)
  have hat : upd H1 l (.lst vs) l = some (.lst vs) := upd_same
  have hvs1 := hvs.same (Same.hid sl)
  have s01 := Same.trans s1 sl
  generalize upd H1 l (.lst vs) = H2 at sl hp1 hat hvs1 s01 ⊢
  refine ⟨.ref p, rfl, .ref l, rfl, p, n, ⟨[], 0, .none⟩, ⟨hp1, by decide, fun r m => (nomatch m)⟩, fun ws H3 s3 hws => ?_⟩
  have hws : DvAll K (hid [p] H3) ws odd2 := hws
  have l2 : ws.length = 6 := hws.len
  refine ⟨small (by omega), fun l2' hl2 => ⟨l, l2', vs, ws, rfl, rfl, same_new hl2 _ _ _ (s3 _ _ hat), upd_same, small (by omega), fun l3 hl3 => ?_⟩⟩
  have s4 := Same.trans (same_new hl2 (.lst ws)) (same_new hl3 (.lst (vs ++ ws)))
  have hp3 := ((hp1.same s3).new hl2 (.lst ws)).new hl3 (.lst (vs ++ ws))
  have np3 := ((hp1.same s3).new hl2 (.lst ws)).ne hl3
  have hall := (hvs1.same (Same.hid (Same.trans s3 s4))).append (hws.same (Same.hid s4))
  refine ⟨p, l3, vs ++ ws, n, rfl, hp3, by omega, .inl (.inl upd_same), np3, by rw [List.length_append]; omega, by rw [List.length_append]; omega, fun i v H5 hvi hp5 b5 => ?_⟩
  have s04 := Same.trans s01 (Same.trans s3 s4)
  obtain ⟨d, hd, hdv⟩ := hall.get hvi
  obtain ⟨td, nd⟩ := odd_ok d (List.mem_of_getElem? hd)
  have hdv := hdv.same (But.hid b5 (List.mem_singleton.mpr rfl))
  have b05 : But p H H5 := (But.of_same s04).trans b5
  clear hall hp3 np3 s4 hvs hvs1 hws
  refine ⟨.ref p, rfl, small (by show 5 ≤ 1000; decide), fun l4 hl4 => ⟨p, l4, [.int 0, .int 0, .int 0, .int 1, .int 20], n + 1, rfl, hp5.new hl4 _, by omega, .inl (.inl upd_same), hp5.ne hl4, (by show 0 < 5; decide), (by show 5 < 1000; decide), fun j u H6 huj hp6 b6 => ?_⟩⟩
  obtain ⟨k, rfl, hk⟩ : ∃ k : Nat, u = .int (k : Int) ∧ k ≤ 20 := by
    match j, huj with
    | 0, e => exact ⟨0, by injection e with e; exact e.symm, by decide⟩
    | 1, e => exact ⟨0, by injection e with e; exact e.symm, by decide⟩
    | 2, e => exact ⟨0, by injection e with e; exact e.symm, by decide⟩
    | 3, e => exact ⟨1, by injection e with e; exact e.symm, by decide⟩
    | 4, e => exact ⟨20, by injection e with e; exact e.symm, by decide⟩
    | j + 5, e => cases e
  have b56 : But p H5 H6 := same_but (same_new hl4 _) b6
  have hdv6 := hdv.same (But.hid b56 (List.mem_singleton.mpr rfl))
  have b06 := b05.trans b56
  refine ⟨_, rfl, by omega, by omega, for_range (lo := 0) (n := (k : Int).toNat) (fun i σ H' => ∃ (x3 : Option V) (y : V) (e : PyData), σ = [some (.ref p), some (.ref l), some y, x3] ∧ Pot H' p (n + 1 + 1) ∧ But p H H' ∧ Dv K (hid [p] H') y e ∧ Ta 4 4 (2 + i) e ∧ nodes e ≤ 6 + 4 * i) ?_ ?_ ?_⟩
  · exact ⟨none, v, d, rfl, hp6, b06, hdv6, td, nd⟩
  · rintro i σ H7 hi ⟨x3, y, e, rfl, hp7, b7, hy, te, ne⟩
    refine ⟨p, n + 1 + 1, ⟨[], 0, e⟩, ⟨hp7, Nat.zero_le _, fun r m => ?_⟩, fun us H8 s8 hus => ?_⟩
    · obtain rfl := List.mem_singleton.mp m
      exact ⟨y, rfl, hy⟩
    have hus : DvAll K (hid [p] H8) us [.tuple [e], .list [e], .dict [(.str "a", e)]] := hus
    have l3 : us.length = 3 := hus.len
    refine ⟨small (by omega), fun l5 hl5 => ⟨_, rfl, _, 3, rfl, rfl, (show (0 : Int) < 3 by decide), ?_⟩⟩
    have hm : i % 3 < us.length := by omega
    have hx : us[i % 3]? = some us[i % 3] := List.getElem?_eq_getElem hm
    obtain ⟨e2, he2, hev⟩ := hus.get hx
    refine ⟨l5, us, _, us[i % 3], rfl, rfl, .inl (.inl upd_same), by rw [mod3]; exact atI_nat hx, ?_⟩
    have s5 := same_new hl5 (.lst us)
    refine ⟨_, _, e2, rfl, (hp7.same s8).same s5, (b7.trans (But.of_same s8)).trans (But.of_same s5), hev.same (Same.hid s5), ?_⟩
    have cases3 : e2 = .tuple [e] ∨ e2 = .list [e] ∨ e2 = .dict [(.str "a", e)] := by
      have := List.mem_of_getElem? he2
      simpa using this
    have e1 : ∀ x ∈ [e], Ta 4 4 (2 + i) x := fun x hx => by
      rw [List.mem_singleton.mp hx]
      exact te
    rcases cases3 with rfl | rfl | rfl
    · exact ⟨.tup e1 (by show 1 ≤ 4; decide), by rw [nodes_tup, nodes_cons, nodes_nil]; omega⟩
    · exact ⟨.lst e1 (by show 1 ≤ 4; decide), by rw [nodes_lst, nodes_cons, nodes_nil]; omega⟩
    · exact ⟨.dc1 te, by rw [nodes_dc1]; omega⟩
  · rintro σ H7 ⟨x3, y, e, rfl, hp7, b7, hy, te, ne⟩
    exact ⟨y, rfl, q y e H7 (by exact hp7) b7 hy ⟨te.mono (Nat.le_refl _) (Nat.le_refl _) (by omega), by omega⟩⟩
end
end Fh
set_option Elab.async false
set_option linter.all false
set_option maxRecDepth 100000
set_option maxHeartbeats 2000000
namespace Fh
open PySem PySem.Spec PyProof.Rows L2 TL
/-! ### numbers that may be truths; a text twice -/
theorem gives_neg_bool (a : Bool) : Gives (Builtin.«int.__neg__» ⟨[.bool a], []⟩) (.int (-(if a = true then (1 : Int) else 0))) := by
  cases a
  · exact .of_eq rfl
  · exact .of_eq rfl
def zB (b : Bool) : Int := if b = true then 1 else 0
def isZ (x : V) (i : Int) : Prop := x = .int i ∨ ∃ b, x = .bl b ∧ i = zB b
section
variable {X : Cx}
theorem op_addZ : OpR X (binaryOp .Add) (fun x y H Q => ∃ i j, isZ x i ∧ y = .int j ∧ Q (.int (i + j)) H) := by
  intro pins s σ H x y v u Q I rx ry h
  obtain ⟨i, j, hx, rfl, q⟩ := h
  rcases hx with rfl | ⟨b, rfl, rfl⟩
  · exact op_add pins s σ H _ _ v u Q I rx ry ⟨i, j, rfl, rfl, q⟩
  · cases rx
    obtain ⟨t, rfl⟩ := ry
    exact PySem.IntBool.add_bool_int ⟨.int _, H, I.tok _, ⟨_, rfl⟩, q⟩
theorem un_negZ : UnR X (unaryOp .USub) (fun x H Q => ∃ i, isZ x i ∧ Q (.int (-i)) H) := by
  intro pins s σ H x v Q I rx h
  obtain ⟨i, hx, q⟩ := h
  rcases hx with rfl | ⟨b, rfl, rfl⟩
  · exact un_neg pins s σ H _ v Q I rx ⟨i, rfl, q⟩
  · cases rx
    exact unaryOp_gives (op := .USub) (T := "bool") (id := "int.__neg__") rfl rfl F.slot_bool_neg F.entry_int_neg (F.args_int_neg_1 _) (gives_neg_bool b) ⟨.int _, H, I.tok _, ⟨_, rfl⟩, q⟩
theorem op_eqZ : OpR X (compareOp .Eq) (fun x y H Q => ∃ i j, isZ x i ∧ y = .int j ∧ Q (.bl (i == j)) H) := by
  intro pins s σ H x y v u Q I rx ry h
  obtain ⟨i, j, hx, rfl, q⟩ := h
  rcases hx with rfl | ⟨b, rfl, rfl⟩
  · obtain ⟨t, rfl⟩ := rx
    obtain ⟨t', rfl⟩ := ry
    exact SeqAt.RcAt.int_int i t j t' X.prog X.w X.xe (EP X pins σ Q) ⟨.bl _, H, I, rfl, q⟩
  · cases rx
    obtain ⟨t', rfl⟩ := ry
    exact SeqAt.RcAt.bool_int b j t' X.prog X.w X.xe (EP X pins σ Q) ⟨.bl _, H, I, rfl, q⟩
theorem call_strZ : CallR X (.type "str") (fun xs H Q => (∃ i, xs = [.int i] ∧ i.natAbs.log2 < 1920 ∧ Q (.str (toString i)) H) ∨ (∃ b, xs = [.bl b] ∧ Q (.str (if b then "True" else "False")) H)) := by
  intro pins s σ H xs us Q I r h
  rcases h with ⟨i, rfl, hz, q⟩ | ⟨b, rfl, q⟩
  · exact call_str_int pins s σ H _ us Q I r ⟨i, rfl, hz, q⟩
  · obtain ⟨u, rfl, ru⟩ := r.one
    cases ru
    exact P.str_of_bool ⟨.str (if b then "True" else "False"), H, I.tok _, ⟨_, by cases b <;> rfl⟩, q⟩
def rDbl : R2 := fun x y H Q => ∃ z : Str, x = .str z ∧ y = .int 2 ∧ z.length ≤ 1000 ∧ ∀ r : Str, tl r = tl z ++ tl z → Q (.str r) H
theorem op_dbl : OpR X (binaryOp .Mult) rDbl := by
  intro pins s σ H x y v u Q I rx ry h
  obtain ⟨z, rfl, rfl, hz, q⟩ := h
  obtain ⟨t, rfl⟩ := rx
  obtain ⟨t', rfl⟩ := ry
  have h0 : ∀ n : Nat, n ≤ 1000 → ¬ ((n : Int) > (2 ^ 63 - 1) / 2) := fun n hn => by
    have : (1000 : Int) ≤ (2 ^ 63 - 1) / 2 := by decide
    omega
  refine P.mul_str (by decide) (fun _ _ => h0 _ hz) (fun _ _ => ?_) ?_
  · exact decide_eq_false (by
      rw [sizeLine_eq]
      show ¬ (z.length * 2 > _)
      omega)
  · rw [if_neg (by decide)]
    by_cases e : z.length = 0
    · rw [if_pos (by rw [e]; rfl)]
      have : tl z = [] := List.eq_nil_of_length_eq_zero (by
        have : (tl z).length = z.cps.size := Array.length_toList
        rw [this]
        exact e)
      exact ⟨.str z, H, I, ⟨t, rfl⟩, q z (by rw [this]; rfl)⟩
    · rw [if_neg (by
        have : ((2 : Int) == 1 || z.length == 0) = false := by
          rw [Bool.or_eq_false_iff]
          exact ⟨rfl, beq_eq_false_iff_ne.mpr e⟩
        rw [this]
        exact Bool.false_ne_true)]
      refine ⟨?_, .str _, H, I.tok _, ⟨s.toks, rfl⟩, q _ ?_⟩
      · rw [sizeLine_eq]
        show ((List.replicate 2 z.cps).foldl (· ++ ·) #[]).size ≤ _
        have : z.cps.size ≤ 1000 := hz
        simp [List.replicate]
        omega
      · show ((List.replicate 2 z.cps).foldl (· ++ ·) #[]).toList = _
        simp [List.replicate]
end
/-! ### texts that stay plain -/
theorem len_tl (z : Str) : z.length = (tl z).length := by
  show z.cps.size = _
  exact Array.length_toList.symm
def asc (z : Str) : Bool := (tl z).all fun c => decide (c < 128)
theorem lf_str {s : Nat} {z : Str} : isLf s (.str z) = true ↔ z.length ≤ s ∧ asc z = true := by
  show (decide (z.length ≤ s) && asc z) = true ↔ _
  rw [Bool.and_eq_true, decide_eq_true_eq]
theorem up_small {c : Nat} (h : c < 128) : up1 c < 128 := by
  unfold up1
  split <;> omega
theorem lf_upper {s : Nat} {z : Str} (h : isLf s (.str z) = true) : isLf s (.str (Txt.upper z)) = true := by
  obtain ⟨h1, h2⟩ := lf_str.mp h
  have e := upper_ascii (x := z) fun c hc => of_decide_eq_true (List.all_eq_true.mp h2 c hc)
  have t : tl (Txt.upper z) = (tl z).map up1 := by
    rw [e]
    exact Array.toList_map
  refine lf_str.mpr ⟨?_, ?_⟩
  · rw [len_tl, t, List.length_map, ← len_tl]
    exact h1
  · show (tl (Txt.upper z)).all _ = true
    rw [t, List.all_map]
    exact List.all_eq_true.mpr fun c hc => decide_eq_true (up_small (of_decide_eq_true (List.all_eq_true.mp h2 c hc)))
theorem lf_tl {s n : Nat} {z r : Str} (h : isLf s (.str z) = true) (e : tl r = tl z ++ tl z) (hn : 2 * s ≤ n) : isLf n (.str r) = true := by
  obtain ⟨h1, h2⟩ := lf_str.mp h
  refine lf_str.mpr ⟨?_, ?_⟩
  · rw [len_tl, e, List.length_append, ← len_tl]
    omega
  · show (tl r).all _ = true
    rw [e, List.all_append]
    exact Bool.and_eq_true_iff.mpr ⟨h2, h2⟩
theorem lf_bang {s n : Nat} {z : Str} (h : isLf s (.str z) = true) (hn : s + 1 ≤ n) : isLf n (.str (z ++ "!")) = true := by
  obtain ⟨h1, h2⟩ := lf_str.mp h
  have e : tl (z ++ "!") = tl z ++ [33] := by
    show (z.cps ++ ("!" : Str).cps).toList = _
    rw [Array.toList_append]
    rfl
  refine lf_str.mpr ⟨?_, ?_⟩
  · rw [len_tl, e, List.length_append, ← len_tl, List.length_singleton]
    omega
  · show (tl (z ++ "!")).all _ = true
    rw [e, List.all_append]
    exact Bool.and_eq_true_iff.mpr ⟨h2, by decide⟩
theorem bang_len (z : Str) : (z ++ "!" : Str).length = z.length + 1 := by
  have e : tl (z ++ "!") = tl z ++ [33] := by
    show (z.cps ++ ("!" : Str).cps).toList = _
    rw [Array.toList_append]
    rfl
  rw [len_tl, e, List.length_append, ← len_tl, List.length_singleton]
/-- the digits of a number, a sign ahead -/
theorem digits_asc {l : List Nat} (h : NumText.AllDigits l) : l.all (fun c => decide (c < 128)) = true := List.all_eq_true.mpr fun c hc => by
  have := h c hc
  exact decide_eq_true (by omega)
theorem lf_num {s n : Nat} {i : Int} (h : i.natAbs ≤ big + s) (hs : s ≤ 900) (hn : 40 ≤ n) : isLf n (.str (toString i)) = true := by
  refine lf_str.mpr ⟨?_, ?_⟩
  · have e := int_text_length_le10 (a := i) (k := 31) (by decide) (by
      have : big + 900 < 10 ^ 31 := by decide
      omega)
    show (Str.ofString (toString i)).length ≤ n
    rw [PySem.ofString_length]
    omega
  · show (tl (Str.ofString (toString i))).all _ = true
    cases i with
    | ofNat m =>
      show (tl (Str.ofString (toString ((m : Nat) : Int)))).all _ = true
      rw [TL.tl_num]
      exact digits_asc (TL.numL_digits m)
    | negSucc m =>
      have e : toString (Int.negSucc m) = "-" ++ Nat.repr (m + 1) := rfl
      have e2 := TL.tl_num (m + 1)
      have e3 : toString (((m + 1 : Nat)) : Int) = Nat.repr (m + 1) := rfl
      rw [e3] at e2
      have e4 : tl (Str.ofString ("-" ++ Nat.repr (m + 1))) = 45 :: tl (Str.ofString (Nat.repr (m + 1))) := by
        rw [Str.ofString_eq_toList, Str.ofString_eq_toList]
        show (("-" ++ Nat.repr (m + 1)).toList.map Char.toNat) = 45 :: ((Nat.repr (m + 1)).toList.map Char.toNat)
        rw [String.toList_append]
        rfl
      rw [e, e4, e2, List.all_cons]
      exact Bool.and_eq_true_iff.mpr ⟨by decide, digits_asc (TL.numL_digits _)⟩
section
theorem ps_weak {X : Cx} {st : Stmt} {t t' : TS} (h : PS X st t) (i : ∀ D σ H, t' D σ H → t D σ H) : PS X st t' := ⟨fun pins s σ H D I q => h.run pins s σ H D I (i _ _ _ q)⟩
theorem pss_weak {X : Cx} {st : List Stmt} {t t' : TS} (h : PSs X st t) (i : ∀ D σ H, t' D σ H → t D σ H) : PSs X st t' := ⟨fun pins s σ H D I q => h.run pins s σ H D I (i _ _ _ q)⟩
end
end Fh
set_option Elab.async false
set_option linter.all false
set_option maxRecDepth 100000
set_option maxHeartbeats 2000000
namespace Fh
open PySem L2 TL
/-! ### _law_bent -/
abbrev s__law_bent : Stmt := top 51
abbrev sc__law_bentN : List Str := ["_law_pot", "_law_thing", "_law_deep", "_law_some", "_law_at"]
theorem sc__law_bent : FnScope sc__law_bentN ["_law_pot", "_law_thing", "_law_deep"] (defScope s__law_bent) := ⟨rfl, rfl, rfl, by decide +kernel, rfl, by decide +kernel, by decide +kernel⟩
structure Bd (w s M : Nat) : Prop where
  w4 : 4 ≤ w
  w59 : w ≤ 59
  s4 : 4 ≤ s
  s400 : s ≤ 400
  m22 : 22 ≤ M
def spBents (K : PySem.W.Frag) : Nat → Sp
  | 0 => fun _ _ _ _ => False
  | k + 1 => fun vs H Q _ => ∃ (p : Addr) (v : V) (d : PyData) (n w s M g : Nat), vs = [.ref p, v, .int (k : Int)] ∧ Pot H p n ∧ n + 2 * k + 20 < 100000 ∧ Dv K (hid [p] H) v d ∧ Ms w s M g d ∧ Bd w s M ∧
    ∀ (y : V) (d' : PyData) (H' : Hp), Pot H' p (n + 2 * k + 4) → But p H H' → Dv K (hid [p] H') y d' → Ms (w + 1) (2 * s + 40) (M + k + 1) (2 * g + 100) d' → Q y H'
/-- the choice among some, or something odd -/
def tEnd (K : PySem.W.Frag) : TS := fun D σ H => ∃ (p l : Addr) (x1 x2 x4 : Option V) (n w s M g : Nat) (vs : List V) (es : List PyData), σ = [some (.ref p), x1, x2, some (.ref l), x4] ∧ Pot H p n ∧ n + 12 < 100000 ∧ H l = some (.lst vs) ∧ l ≠ p ∧ DvAll K (hid [p] H) vs es ∧ vs.length < 100 ∧
  (∀ e ∈ es, Ms w s M g e) ∧ 4 ≤ w ∧ 4 ≤ s ∧ 22 ≤ M ∧ 90 ≤ g ∧ ∀ (y : V) (d' : PyData) (H' : Hp), Pot H' p (n + 3) → But p H H' → Dv K (hid [p] H') y d' → Ms w s M g d' → D.rt y H'
def tThen (K : PySem.W.Frag) : TS := fun D σ H => ∃ (p : Addr) (v : V) (d : PyData) (x2 x3 x4 : Option V) (n w s M g : Nat), σ = [some (.ref p), some v, x2, x3, x4] ∧ Pot H p n ∧ n + 12 < 100000 ∧ Dv K (hid [p] H) v d ∧ Ms w s M g d ∧ Bd w s M ∧
  ∀ (y : V) (d' : PyData) (H' : Hp), Pot H' p (n + 3) → But p H H' → Dv K (hid [p] H') y d' → Ms (w + 1) (2 * s + 40) (M + 1) (2 * g + 100) d' → D.rt y H'
abbrev rB : Ro := [(1, fun ε => .tuple ε.ds)]
theorem cut_from (ds : List PyData) (k : Nat) : cutD ds (some k) none = ds.drop k := by
  show (ds.take ds.length).drop k = _
  rw [List.take_length]
theorem cut_to (ds : List PyData) (k : Nat) : cutD ds none (some k) = ds.take k := rfl
/-- six ways to bend a tuple -/
def six (ds : List PyData) : List PyData := [.list ds, .tuple (ds ++ ds.take 1), .tuple ds.reverse] ++ [.tuple (ds.drop 1), .tuple (ds.take (ds.length - 1)), .tuple (ds ++ [.none])]
theorem six_ok {w s M g : Nat} {ds : List PyData} (h : Ms w s M g (.tuple ds)) : ∀ e ∈ six ds, Ms (w + 1) (2 * s + 40) (M + 1) (2 * g + 100) e := fun e he => by
  obtain ⟨m, rfl, lw, ts⟩ := h.ta.items
  have hz := h.sz
  rw [nodes_tup] at hz
  have h1 := nodes_cut 1 ds
  have h2 := nodes_cut (ds.length - 1) ds
  have t1 : ∀ d ∈ ds, Ta (w + 1) (2 * s + 40) (m + 1) d := fun d hd => (ts d hd).mono (by omega) (by omega) (by omega)
  have l1 : (ds.take 1).length ≤ 1 := List.length_take_le _ _
  have l2 : (ds.drop 1).length ≤ ds.length := by rw [List.length_drop]; omega
  have l3 : (ds.take (ds.length - 1)).length ≤ ds.length := by rw [List.length_take]; omega
  unfold six at he
  simp only [List.cons_append, List.nil_append, List.mem_cons, List.mem_nil_iff, or_false] at he
  rcases he with rfl | rfl | rfl | rfl | rfl | rfl
  · exact Ms.lst t1 (by omega) (by omega)
  · exact Ms.tup (fun d hd => (List.mem_append.mp hd).elim (t1 d) fun z => t1 d (List.mem_of_mem_take z)) (by rw [List.length_append]; omega) (by rw [nodes_append]; omega)
  · exact Ms.tup (fun d hd => t1 d (List.mem_reverse.mp hd)) (by rw [List.length_reverse]; omega) (by rw [nodes_rev]; omega)
  · exact Ms.tup (fun d hd => t1 d (List.mem_of_mem_drop hd)) (by omega) (by omega)
  · exact Ms.tup (fun d hd => t1 d (List.mem_of_mem_take hd)) (by omega) (by omega)
  · refine Ms.tup (fun d hd => (List.mem_append.mp hd).elim (t1 d) fun z => ?_) (by rw [List.length_append, List.length_singleton]; omega) (by rw [nodes_append, nodes_cons, nodes_nil]; simp only [nodes]; omega)
    rw [List.mem_singleton.mp z]
    exact .leaf rfl
theorem leafs {w s M g : Nat} {es : List PyData} (h : ∀ e ∈ es, isLf s e = true) (hg : 1 ≤ g) : ∀ e ∈ es, Ms w s M g e := fun e he => ⟨.leaf (h e he), by
  have := h e he
  cases e with
  | tuple _ => cases this
  | list _ => cases this
  | dict _ => cases this
  | _ => simp only [nodes]; exact hg⟩
theorem z_abs {s : Nat} {x : V} {d : PyData} {K : PySem.W.Frag} {H : Hp} (h : Dv K H x d) (hi : isT "int" d = true) (hl : isLf s d = true) : ∃ i : Int, isZ x i ∧ i.natAbs ≤ big + s := by
  cases h with
  | int i => exact ⟨i, .inl rfl, of_decide_eq_true hl⟩
  | bl b => exact ⟨zB b, .inr ⟨b, rfl, rfl⟩, by cases b <;> exact Nat.le_trans (by decide : _ ≤ 1) (Nat.le_trans (by decide : 1 ≤ big) (Nat.le_add_right _ _))⟩
  | non => exact absurd hi (by decide +kernel)
  | str z _ => exact absurd hi (by show ¬ isT "int" (.str Str.empty) = true; decide +kernel)
  | lst _ _ _ => exact absurd hi (by show ¬ isT "int" (.list []) = true; decide +kernel)
  | tup _ _ => exact absurd hi (by show ¬ isT "int" (.tuple []) = true; decide +kernel)
  | dct _ => exact absurd hi (by decide +kernel)
  | dc1 _ _ _ => exact absurd hi (by show ¬ isT "int" (.dict []) = true; decide +kernel)
theorem isT_oth (d : PyData) : (isT "tuple" d = true → isT "int" d = false ∧ isT "str" d = false) ∧ (isT "int" d = true → isT "str" d = false) := by
  refine ⟨fun h => ?_, fun h => ?_⟩
  · obtain ⟨ds, rfl⟩ := (isT_tuple d).mp h
    exact ⟨by show isT "int" (.tuple []) = false; decide +kernel, by show isT "str" (.tuple []) = false; decide +kernel⟩
  · refine Bool.eq_false_iff.mpr fun z => ?_
    obtain ⟨x, rfl⟩ := (isT_str d).mp z
    exact absurd h (by show ¬ isT "int" (.str Str.empty) = true; decide +kernel)
theorem int_leaf {w s M : Nat} {d : PyData} (h : Ta w s M d) (hi : isT "tuple" d = false) (hs : isT "int" d = true ∨ isT "str" d = true) : isLf s d = true := by
  cases h with
  | leaf h => exact h
  | tup _ _ => rw [(isT_tuple _).mpr ⟨_, rfl⟩] at hi; cases hi
  | lst _ _ =>
    rcases hs with hs | hs
    · exact absurd hs (by show ¬ isT "int" (.list []) = true; decide +kernel)
    · exact absurd hs (by show ¬ isT "str" (.list []) = true; decide +kernel)
  | dct =>
    rcases hs with hs | hs
    · exact absurd hs (by decide +kernel)
    · exact absurd hs (by decide +kernel)
  | dc1 _ =>
    rcases hs with hs | hs
    · exact absurd hs (by show ¬ isT "int" (.dict []) = true; decide +kernel)
    · exact absurd hs (by show ¬ isT "str" (.dict []) = true; decide +kernel)
theorem cat_in {K : PySem.W.Frag} {H : Hp} {p : Addr} {n : Nat} {x y : V} {A B : List PyData} {Q : VK} (hp : Pot H p n) (hx : Dv K (hid [p] H) x (.tuple A)) (hy : Dv K (hid [p] H) y (.tuple B)) (l : A.length + B.length ≤ 10000)
    (q : ∀ v H', Same H H' → Dv K (hid [p] H') v (.tuple (A ++ B)) → Q v H') : rCatA K x y H Q := by
  cases hx with
  | @tup a xs _ hq hall =>
  cases hy with
  | @tup b ys _ hq2 hall2 =>
  have e1 := hall.len
  have e2 := hall2.len
  refine ⟨a, b, xs, ys, rfl, rfl, same_sqT hid_same hq, same_sqT hid_same hq2, (by rw [sizeLine_eq]; omega), fun z => ?_, fun _ z => ?_, fun _ _ r hr => ?_⟩
  · refine q (.ref b) H (fun _ _ e => e) (.tup hq2 ?_)
    have : A = [] := List.eq_nil_of_length_eq_zero (by rw [← e1, z]; rfl)
    rw [this]
    exact hall2
  · refine q (.ref a) H (fun _ _ e => e) (.tup hq ?_)
    have : B = [] := List.eq_nil_of_length_eq_zero (by rw [← e2, z]; rfl)
    rw [this, List.append_nil]
    exact hall
  · exact q _ _ (same_new hr _) (dv_new hp hr (hall.append hall2))
theorem dv_items {K : PySem.W.Frag} {H : Hp} {v : V} {ds : List PyData} (h : Dv K H v (.tuple ds)) : ∃ a xs, v = .ref a ∧ SqT K H a xs ∧ xs.length = ds.length ∧ DvAll K H xs ds := by
  cases h with
  | @tup a xs _ hq hall => exact ⟨a, xs, rfl, hq, hall.len, hall⟩
abbrev rB4 : Ro := [(1, fun ε => .tuple ε.ds), (4, fun ε => .int (ε.k : Int))]
section
variable {P : Program} {w : World} {K : PySem.W.Frag} {mg : Str → Option Value} {base : Heap}
theorem ok_bent_step {f : Addr} {fd : FuncData} {k : Nat} (F : Fun K "_law_bent" "_law_bent" s__law_bent f fd) (T : Bare mg) (C : Con K mg) (CT : Callee P w K mg base 1 "_law_take" ["_law_pot", "_law_upto"] spTake)
    (CO : Callee P w K mg base 2 "_law_of" ["_law_pot", "_law_some"] (spOf K)) (CD : Callee P w K mg base 3 "_law_odd" ["_law_pot"] (spOdd K)) (CB : Callee P w K mg base (3 + k) "_law_bent" ["_law_pot", "_law_thing", "_law_deep"] (spBents K k)) :
    FnOk P w K mg base CX0 (3 + k + 1) f fd ["_law_pot", "_law_thing", "_law_deep"] (spBents K (k + 1)) := by
  refine F.ok sc__law_bent (fun vs H Q E h => ?_) (fun cdv A outer st H vs Q E hr h => ?_)
  · obtain ⟨p, v, d, n, w', s, M, g, rfl, _⟩ := h
    rfl
  obtain ⟨p, v, d, n, w', s, M, g, rfl, hp, hn, hd, ms, bd, q⟩ := h
  refine ⟨_, (pss_cons (ps_if (PW.pt (pw_or (pt_cmpR op_eq (pv 2) pe_int (nomark _)) (pw_or (pt_not (pt_val (pe_callB call_isD (by rfl) C.isi boot_isi (pa_cons (pv 1) (pa_cons (pe_bltn (v := .ty "tuple") (u := .type "tuple") (by rfl) T.tuple (by decide +kernel) rfl) pa_nil))))) (pw_or (pt_cmpR (op_eqT0 (Nat.lt_of_le_of_lt (Nat.le_add_right _ 64) hr.units)) (pv 1) (pe_tup pa_nil) (nomark _)) (pw_or1 (pt_cmpR op_eq (pe_call CT.ok (hr.mono (by omega)) rfl CT.mg CT.kp CT.b .nil pass0 (pa_cons (pv 0) (pa_cons pe_int pa_nil))) pe_int (nomark _)))))))
(pss_weak (t' := tThen K) (pss_cons (ps_set (i := 3) sc__law_bent.nd rfl (Or.inl rfl) (pe_lst pa_nil))
(pss_cons (ps_if (PW.pt (pw_and (pt_val (pe_callB call_isD (by rfl) C.isi boot_isi (pa_cons (pv 1) (pa_cons (pe_bltn (v := .ty "tuple") (u := .type "tuple") (by rfl) T.tuple (by decide +kernel) rfl) pa_nil)))) (pw_and1 (pt_cmpR (op_neT0 (Nat.lt_of_le_of_lt (Nat.le_add_right _ 64) hr.units)) (pv 1) (pe_tup pa_nil) (nomark _)))))
(pss_cons (ps_set (i := 3) sc__law_bent.nd rfl (Or.inl rfl) (pe_lst (px_cons (px_list (F := fun ε => ε.ds) (by rfl) T.list (px_var (ρ := rB) (f := fun ε => .tuple ε.ds) (.head _) (pv 1))) (px_cons (px_cat (F := fun ε => ε.ds) (G := fun ε => cutD ε.ds none (some 1)) (by intro ε h; simp only [cutD, List.length_drop, List.length_take, Option.getD]; omega) (px_var (ρ := rB) (f := fun ε => .tuple ε.ds) (.head _) (pv 1)) (px_slice (F := fun ε => ε.ds) (px_var (ρ := rB) (f := fun ε => .tuple ε.ds) (.head _) (pv 1)) po_no (po_c (c := 1)))) (px_cons (px_rev (F := fun ε => ε.ds) (px_var (ρ := rB) (f := fun ε => .tuple ε.ds) (.head _) (pv 1))) px_nil)))))
(pss_one (ps_set (i := 3) sc__law_bent.nd rfl (Or.inl rfl) (pe_op op_cat (pv 3) (pe_lst (px_cons (px_slice (F := fun ε => ε.ds) (px_var (ρ := rB) (f := fun ε => .tuple ε.ds) (.head _) (pv 1)) (po_c (c := 1)) po_no) (px_cons (px_init (F := fun ε => ε.ds) (px_var (ρ := rB) (f := fun ε => .tuple ε.ds) (.head _) (pv 1))) (px_cons (px_cat (F := fun ε => ε.ds) (G := fun _ => [.none]) (by intro ε h; rw [List.length_singleton]; omega) (px_var (ρ := rB) (f := fun ε => .tuple ε.ds) (.head _) (pv 1)) (px_tup (F := fun _ => [.none]) (px_cons px_non px_nil) (fun _ => Nat.le_of_ble_eq_true rfl))) px_nil))))))))
pss_nil)
(pss_cons (ps_if (pt_val (pe_callB call_isD (by rfl) C.isi boot_isi (pa_cons (pv 1) (pa_cons (pe_bltn (v := .ty "int") (u := .type "int") (by rfl) T.int (by decide +kernel) rfl) pa_nil))))
(pss_one (ps_set (i := 3) sc__law_bent.nd rfl (Or.inl rfl) (pe_lst (pa_cons (pe_op op_addZ (pv 1) pe_int) (pa_cons (pe_op op_sub (pe_un un_negZ (pv 1)) pe_int) (pa_cons (pe_cmpR op_eqZ (pv 1) pe_int (nomark _)) (pa_cons (pe_callTy call_strZ (by rfl) T.str (by decide +kernel) (pa_cons (pv 1) pa_nil)) (pa_cons (pe_op op_addZ (pv 1) pe_int) pa_nil))))))))
pss_nil)
(pss_cons (ps_if (pt_val (pe_callB call_isD (by rfl) C.isi boot_isi (pa_cons (pv 1) (pa_cons (pe_bltn (v := .ty "str") (u := .type "str") (by rfl) T.str (by decide +kernel) rfl) pa_nil))))
(pss_one (ps_set (i := 3) sc__law_bent.nd rfl (Or.inl rfl) (pe_lst (pa_cons (pe_op op_add_str (pv 1) pe_str) (pa_cons (pe_upper (pv 1)) (pa_cons (pe_op op_dbl (pv 1) pe_int) (pa_cons pe_str (pa_cons (pe_tup (pa_cons (pv 1) pa_nil)) (pa_cons pe_str pa_nil)))))))))
pss_nil)
(pss_one (ps_weak (t' := tEnd K) (ps_ret (pe_ifExp (PW.pt (pw_and (pt_cmpR (op_neL0 (Nat.lt_of_le_of_lt (Nat.le_add_right _ 64) hr.units)) (pv 3) (pe_lst pa_nil) (nomark _)) (pw_and1 (pt_cmpR op_gt (pe_call CT.ok (hr.mono (by omega)) rfl CT.mg CT.kp CT.b .nil pass0 (pa_cons (pv 0) (pa_cons pe_int pa_nil))) pe_int (nomark _))))) (pe_call CO.ok (hr.mono (by omega)) rfl CO.mg CO.kp CO.b .nil pass0 (pa_cons (pv 0) (pa_cons (pv 3) pa_nil))) (pe_call CD.ok (hr.mono (by omega)) rfl CD.mg CD.kp CD.b .nil pass0 (pa_cons (pv 0) pa_nil)))) (fun D σ H h => by
    obtain ⟨p, l, x1, x2, x4, n, w', s, M, g, vs, es, rfl, hp, hn, hl, nlp, hall, few, ok, w4, s4, m22, g90, q⟩ := h
    have odd : ∀ (m : Nat) (H1 : Hp), m ≤ n + 1 → Pot H1 p m → But p H H1 → spOdd K [.ref p] H1 D.rt (fun _ _ _ => False) := fun m H1 hm hp1 b1 => ⟨p, m, rfl, hp1, by omega, fun y d H2 hp2 b2 hy my => q y d H2 (hp2.more (by omega)) (b1.trans b2) hy (my.mono w4 s4 m22 g90)⟩
    refine ⟨.ref l, rfl, small (by show 0 ≤ 1000; decide), fun r hr0 => ⟨l, r, vs, rfl, rfl, .inl (.inl (same_new hr0 _ _ _ hl)), .inl (.inl upd_same), _, rfl, ite2 (fun h => ?_) (fun h => ?_)⟩⟩
    · have sr := same_new hr0 (.lst [])
      refine ⟨.ref p, rfl, p, 3, n, rfl, hp.same sr, by omega, by decide, by decide, fun c H1 c0 c1 hp1 b1 => ⟨c, 0, rfl, rfl, _, rfl, ite2 (fun g1 => ?_) (fun g1 => ?_)⟩⟩
      · have b01 := same_but sr b1
        have lv : 0 < vs.length := by
          cases vs with
          | nil => cases h
          | cons _ _ => exact Nat.succ_pos _
        refine ⟨.ref p, rfl, .ref l, rfl, p, l, vs, n + 1, rfl, hp1, by omega, .inl (.inl (b01 _ _ hl nlp)), nlp, lv, by omega, fun i v H2 hi hp2 b2 => ?_⟩
        obtain ⟨e, he, hev⟩ := hall.get hi
        exact q v e H2 (hp2.more (by omega)) (b01.trans b2) (hev.same (But.hid (b01.trans b2) (List.mem_singleton.mpr rfl))) (ok e (List.mem_of_getElem? he))
      · exact ⟨.ref p, rfl, odd _ H1 (Nat.le_refl _) hp1 (same_but sr b1)⟩
    · exact ⟨.ref p, rfl, odd n _ (by omega) (hp.new hr0 _) (But.of_same (same_new hr0 _))⟩)))))))
 (fun D σ H h => by
    obtain ⟨p, v, d, x2, x3, x4, n, w', s, M, g, rfl, hp, hn, hd, ms, bd, q⟩ := h
    obtain ⟨w4, w59, s4, s400, m22⟩ := bd
    refine ⟨small (by show 0 ≤ 1000; decide), fun l0 hl0 => ?_⟩
    have s1 := same_new hl0 (.lst [])
    have hp1 := hp.new hl0 (.lst [])
    have nl0 := hp.ne hl0
    have a0 : upd H l0 (.lst []) l0 = some (.lst []) := upd_same
    have hd1 := hd.same (Same.hid (l := [p]) s1)
    generalize upd H l0 (.lst []) = H1 at s1 hp1 a0 hd1 ⊢
    have end0 : ∀ {H2 : Hp}, Same H1 H2 → tEnd K D [some (.ref p), some v, x2, some (.ref l0), x4] H2 := fun {H2} s2 =>
      ⟨p, l0, some v, x2, x4, n, w' + 1, 2 * s + 40, M + 1, 2 * g + 100, [], [], rfl, hp1.same s2, by omega, s2 _ _ a0, nl0, .nil, by decide, fun e he => (nomatch he), by omega, by omega, by omega, by omega, fun y d' H' hp' b' hy my => q y d' H' hp' (same_but (Same.trans s1 s2) b') hy my⟩
    by_cases ht : isT "tuple" d = true
    · obtain ⟨ds, rfl⟩ := (isT_tuple d).mp ht
      obtain ⟨a, xs, rfl, hq, hl, hall⟩ := dv_items hd1
      have hi := ((isT_oth (.tuple ds)).1 ht).1
      have hs := ((isT_oth (.tuple ds)).1 ht).2
      obtain ⟨m, em, lw, ts⟩ := ms.ta.items
      refine ⟨.ref a, rfl, .ref a, .tuple ds, "tuple", rfl, hd1.same hid_same, .inl rfl, _, rfl, ite2 (fun _ => ?_) (fun h => absurd ht h)⟩
      refine ⟨.ref a, rfl, small (by show 0 ≤ 1000; decide), fun r hr0 => ⟨a, r, xs, rfl, rfl, same_sqT (same_new hr0 _) (same_sqT hid_same hq), .inl (.inl upd_same), _, rfl, ite2 (fun _ => ?_) (fun _ => ?_)⟩⟩
      · have s2 := same_new hr0 (.tup [])
        have hp2 := hp1.new hr0 (.tup [])
        have hd2 := hd1.same (Same.hid (l := [p]) s2)
        generalize upd H1 r (.tup []) = H2 at s2 hp2 hd2 ⊢
        refine ⟨p, n, ⟨ds, 0, .none⟩, ⟨hp2, by show ds.length ≤ 1000; omega, fun r m => ?_⟩, fun vs H3 s3 hvs => ?_⟩
        · obtain rfl := List.mem_singleton.mp m
          exact ⟨_, rfl, hd2⟩
        have hvs : DvAll K (hid [p] H3) vs [.list ds, .tuple (ds ++ ds.take 1), .tuple ds.reverse] := hvs
        have l1 : vs.length = 3 := hvs.len
        refine ⟨small (by omega), fun l1' hl1 => ?_⟩
        have s4' := same_new hl1 (.lst vs)
        have a4 : upd H3 l1' (.lst vs) l1' = some (.lst vs) := upd_same
        have hp4 := (hp2.same s3).new hl1 (.lst vs)
        have hvs4 := hvs.same (Same.hid (l := [p]) s4')
        have hd4 := hd2.same (Same.hid (l := [p]) (Same.trans s3 s4'))
        have s04 := Same.trans (Same.trans s1 s2) (Same.trans s3 s4')
        generalize upd H3 l1' (.lst vs) = H4 at s4' a4 hp4 hvs4 hd4 s04 ⊢
        refine ⟨.ref l1', rfl, p, n, ⟨ds, 0, .none⟩, ⟨hp4, by show ds.length ≤ 1000; omega, fun r m => ?_⟩, fun ws H5 s5 hws => ?_⟩
        · obtain rfl := List.mem_singleton.mp m
          exact ⟨_, rfl, hd4⟩
        have hws : DvAll K (hid [p] H5) ws [.tuple (cutD ds (some 1) none), .tuple (ds.take (ds.length - 1)), .tuple (ds ++ [.none])] := hws
        rw [cut_from] at hws
        have l2 : ws.length = 3 := hws.len
        refine ⟨small (by omega), fun l2' hl2 => ⟨l1', l2', vs, ws, rfl, rfl, same_new hl2 _ _ _ (s5 _ _ a4), upd_same, small (by omega), fun l3 hl3 => ?_⟩⟩
        have s6 := Same.trans (same_new hl2 (.lst ws)) (same_new hl3 (.lst (vs ++ ws)))
        have hp6 := ((hp4.same s5).new hl2 (.lst ws)).new hl3 (.lst (vs ++ ws))
        have np6 := ((hp4.same s5).new hl2 (.lst ws)).ne hl3
        have all6 := (hvs4.same (Same.hid (l := [p]) (Same.trans s5 s6))).append (hws.same (Same.hid (l := [p]) s6))
        have hd6 := hd4.same (Same.hid (l := [p]) (Same.trans s5 s6))
        have a6 : upd (upd H5 l2' (.lst ws)) l3 (.lst (vs ++ ws)) l3 = some (.lst (vs ++ ws)) := upd_same
        have s06 := Same.trans s04 (Same.trans s5 s6)
        refine ⟨.ref a, rfl, .ref a, .tuple ds, "int", rfl, hd6.same hid_same, .inr (.inr (.inl rfl)), _, rfl, ite2 (fun h => absurd (h : isT "int" (.tuple ds) = true) (by rw [hi]; exact Bool.false_ne_true)) (fun _ => ?_)⟩
        refine ⟨.ref a, rfl, .ref a, .tuple ds, "str", rfl, hd6.same hid_same, .inr (.inl rfl), _, rfl, ite2 (fun h => absurd (h : isT "str" (.tuple ds) = true) (by rw [hs]; exact Bool.false_ne_true)) (fun _ => ?_)⟩
        exact ⟨p, l3, _, _, _, n, w' + 1, 2 * s + 40, M + 1, 2 * g + 100, vs ++ ws, six ds, rfl, hp6, by omega, a6, np6, all6, by rw [List.length_append]; omega, six_ok ms, by omega, by omega, by omega, by omega, fun y d' H' hp' b' hy my => q y d' H' hp' (same_but s06 b') hy my⟩
      · have s2 := same_new hr0 (.tup [])
        have hd2 := hd1.same (Same.hid (l := [p]) s2)
        refine ⟨.ref a, rfl, .ref a, .tuple ds, "int", rfl, hd2.same hid_same, .inr (.inr (.inl rfl)), _, rfl, ite2 (fun h => absurd (h : isT "int" (.tuple ds) = true) (by rw [hi]; exact Bool.false_ne_true)) (fun _ => ?_)⟩
        refine ⟨.ref a, rfl, .ref a, .tuple ds, "str", rfl, hd2.same hid_same, .inr (.inl rfl), _, rfl, ite2 (fun h => absurd (h : isT "str" (.tuple ds) = true) (by rw [hs]; exact Bool.false_ne_true)) (fun _ => ?_)⟩
        exact end0 s2
    refine ⟨v, rfl, v, d, "tuple", rfl, hd1.same hid_same, .inl rfl, _, rfl, ite2 (fun h => absurd h ht) (fun _ => ?_)⟩
    have hlf := int_leaf ms.ta (Bool.eq_false_iff.mpr ht)
    by_cases hi : isT "int" d = true
    · have hs := (isT_oth d).2 hi
      have lf := hlf (.inl hi)
      obtain ⟨i, hz, hb⟩ := z_abs hd1 hi lf
      refine ⟨v, rfl, v, d, "int", rfl, hd1.same hid_same, .inr (.inr (.inl rfl)), _, rfl, ite2 (fun _ => ?_) (fun h => absurd hi h)⟩
      have tail : ∀ (z : Str), isLf (2 * s + 40) (.str z) = true → z.length ≤ 1000000 → ∀ l, H1 l = none → tEnd K D [some (.ref p), some v, x2, some (.ref l), x4] (upd H1 l (.lst [.int (i + 1), .int (-i - 1), .bl (i == 1), .str z, .int (i + 3)])) := fun z hz1 hz2 l hl =>
        ⟨p, l, some v, x2, x4, n, w' + 1, 2 * s + 40, M + 1, 2 * g + 100, [.int (i + 1), .int (-i - 1), .bl (i == 1), .str z, .int (i + 3)], [.int (i + 1), .int (-i - 1), .bool (i == 1), .str z, .int (i + 3)], rfl, hp1.new hl _, by omega, upd_same, hp1.ne hl, .cons (.int _) (.cons (.int _) (.cons (.bl _) (.cons (.str _ hz2) (.cons (.int _) .nil)))), by show 5 < 100; decide, leafs (fun e he => by
          simp only [List.mem_cons, List.mem_nil_iff, or_false] at he
          rcases he with rfl | rfl | rfl | rfl | rfl
          · exact decide_eq_true (by omega : (i + 1).natAbs ≤ big + (2 * s + 40))
          · exact decide_eq_true (by omega : (-i - 1).natAbs ≤ big + (2 * s + 40))
          · rfl
          · exact hz1
          · exact decide_eq_true (by omega : (i + 3).natAbs ≤ big + (2 * s + 40))) (by omega), by omega, by omega, by omega, by omega, fun y d' H' hp' b' hy my => q y d' H' hp' (same_but (Same.trans s1 (same_new hl _)) b') hy my⟩
      have go : ∀ (z : Str), isLf (2 * s + 40) (.str z) = true → z.length ≤ 1000000 → ∀ l, H1 l = none → Dv K (upd H1 l (.lst [.int (i + 1), .int (-i - 1), .bl (i == 1), .str z, .int (i + 3)])) v d := fun z _ _ l hl => (hd1.same hid_same).same (same_new hl _)
      have lz : ∀ {z : Str}, isLf (2 * s + 40) (.str z) = true → z.length ≤ 1000000 := fun h => by
        have := (lf_str.mp h).1
        omega
      have lt : isLf (2 * s + 40) (.str "True") = true := lf_str.mpr ⟨by show 4 ≤ _; omega, by decide⟩
      have lff : isLf (2 * s + 40) (.str "False") = true := lf_str.mpr ⟨by show 5 ≤ _; omega, by decide⟩
      rcases id hz with rfl | ⟨b, rfl, rfl⟩
      · have l1 := lf_num (n := 2 * s + 40) hb (by omega) (by omega)
        have hlog : i.natAbs.log2 < 1920 := by
          by_cases z : i.natAbs = 0
          · rw [z]; decide
          · rw [Nat.log2_lt z]
            refine Nat.lt_of_le_of_lt hb ?_
            have : big + 900 < 2 ^ 1920 := Nat.lt_of_lt_of_le (by decide : big + 900 < 2 ^ 101) (Nat.pow_le_pow_right (by decide) (by decide))
            omega
        refine ⟨_, rfl, i, 1, hz, rfl, _, rfl, i, hz, -i, 1, rfl, rfl, _, rfl, i, 1, hz, rfl, _, rfl, .inl ⟨i, rfl, hlog, _, rfl, i, 3, hz, rfl, small (by show 5 ≤ 1000; decide), fun l hl => ?_⟩⟩
        exact ⟨_, rfl, _, d, "str", rfl, go _ l1 (lz l1) l hl, .inr (.inl rfl), _, rfl, ite2 (fun h => absurd (h : isT "str" d = true) (by rw [hs]; exact Bool.false_ne_true)) (fun _ => tail _ l1 (lz l1) l hl)⟩
      · have l1 : isLf (2 * s + 40) (.str (if b = true then "True" else "False")) = true := by
          cases b
          · exact lff
          · exact lt
        refine ⟨_, rfl, zB b, 1, hz, rfl, _, rfl, zB b, hz, -zB b, 1, rfl, rfl, _, rfl, zB b, 1, hz, rfl, _, rfl, .inr ⟨b, rfl, _, rfl, zB b, 3, hz, rfl, small (by show 5 ≤ 1000; decide), fun l hl => ?_⟩⟩
        exact ⟨_, rfl, _, d, "str", rfl, go _ l1 (lz l1) l hl, .inr (.inl rfl), _, rfl, ite2 (fun h => absurd (h : isT "str" d = true) (by rw [hs]; exact Bool.false_ne_true)) (fun _ => tail _ l1 (lz l1) l hl)⟩
    refine ⟨v, rfl, v, d, "int", rfl, hd1.same hid_same, .inr (.inr (.inl rfl)), _, rfl, ite2 (fun h => absurd h hi) (fun _ => ?_)⟩
    by_cases hs : isT "str" d = true
    · have lf := hlf (.inr hs)
      obtain ⟨z, rfl⟩ := (isT_str d).mp hs
      obtain ⟨lz, az⟩ := lf_str.mp lf
      refine ⟨v, rfl, v, .str z, "str", rfl, hd1.same hid_same, .inr (.inl rfl), _, rfl, ite2 (fun _ => ?_) (fun h => absurd hs h)⟩
      cases hd1 with
      | str _ hz =>
      have lu := lf_upper lf
      have lul := (lf_str.mp lu).1
      have lb := lf_bang (n := 2 * s + 40) lf (by omega)
      refine ⟨_, rfl, z, "!", rfl, rfl, by rw [sizeLine_eq]; show z.length + 1 ≤ _; omega, _, rfl, ⟨z, rfl⟩, z, rfl, rfl, by omega, _, rfl, z, rfl, rfl, by omega, fun r2 er2 => ⟨_, rfl, small (by show 1 ≤ 1000; decide), fun t ht' => ⟨small (by show 6 ≤ 1000; decide), fun l hl => ?_⟩⟩⟩
      have ld := lf_tl (n := 2 * s + 40) lf er2 (by omega)
      have ldl := (lf_str.mp ld).1
      have sl := same_new hl (.lst [.str (z ++ "!"), .str (Txt.upper z), .str r2, .str "", .ref t, .str "a"])
      have st := same_new ht' (.tup [.str z])
      have hp3 := (hp1.new ht' (.tup [.str z])).new hl (.lst [.str (z ++ "!"), .str (Txt.upper z), .str r2, .str "", .ref t, .str "a"])
      have ne3 := (hp1.new ht' (.tup [.str z])).ne hl
      have dt : Dv K (hid [p] (upd (upd H1 t (.tup [.str z])) l (.lst [.str (z ++ "!"), .str (Txt.upper z), .str r2, .str "", .ref t, .str "a"]))) (.ref t) (.tuple [.str z]) := (dv_new hp1 ht' (.cons (.str z hz) .nil)).same (Same.hid sl)
      refine ⟨p, l, _, _, _, n, w' + 1, 2 * s + 40, M + 1, 2 * g + 100, [.str (z ++ "!"), .str (Txt.upper z), .str r2, .str "", .ref t, .str "a"], [.str (z ++ "!"), .str (Txt.upper z), .str r2, .str "", .tuple [.str z], .str "a"], rfl, hp3, by omega, upd_same, ne3, .cons (.str _ ?_) (.cons (.str _ ?_) (.cons (.str _ ?_) (.cons (.str _ (by decide)) (.cons dt (.cons (.str _ (by decide)) .nil))))), by show 6 < 100; decide, fun e he => ?_, by omega, by omega, by omega, by omega, fun y d' H' hp' b' hy my => q y d' H' hp' (same_but (Same.trans s1 (Same.trans st sl)) b') hy my⟩
      · rw [bang_len]
        omega
      · omega
      · omega
      · have l0 : isLf (2 * s + 40) (.str "") = true := lf_str.mpr ⟨Nat.zero_le _, by decide⟩
        have la : isLf (2 * s + 40) (.str "a") = true := lf_str.mpr ⟨by show 1 ≤ _; omega, by decide⟩
        have one : ∀ {x : Str}, isLf (2 * s + 40) (.str x) = true → Ms (w' + 1) (2 * s + 40) (M + 1) (2 * g + 100) (.str x) := fun h => ⟨.leaf h, by simp only [nodes]; omega⟩
        simp only [List.mem_cons, List.mem_nil_iff, or_false] at he
        rcases he with rfl | rfl | rfl | rfl | rfl | rfl
        · exact one lb
        · exact one (isLf_mono lu (by omega))
        · exact one ld
        · exact one l0
        · refine Ms.tup (fun x hx => ?_) (by show 1 ≤ _; omega) (by rw [nodes_cons, nodes_nil]; simp only [nodes]; omega)
          rw [List.mem_singleton.mp hx]
          exact .leaf (isLf_mono lf (by omega))
        · exact one la
    exact ⟨v, rfl, v, d, "str", rfl, hd1.same hid_same, .inr (.inl rfl), _, rfl, ite2 (fun h => absurd h hs) (fun _ => end0 (fun _ _ e => e))⟩))
pss_nil)
(pss_cons (ps_set (i := 4) sc__law_bent.nd rfl (Or.inl rfl) (pe_call CT.ok (hr.mono (by omega)) rfl CT.mg CT.kp CT.b .nil pass0 (pa_cons (pv 0) (pa_cons (pe_callB call_len_seq (by rfl) T.len PySem.boot_len (pa_cons (pv 1) pa_nil)) pa_nil))))
(pss_one (ps_ret (pe_op op_catA (pe_op op_catA (px_slice (F := fun ε => ε.ds) (px_var (ρ := rB4) (f := fun ε => .tuple ε.ds) (.head _) (pv 1)) po_no (po_k (.tail _ (.head _)) (pv 4))) (pe_tup (pa_cons (pe_call CB.ok (hr.mono (by omega)) rfl CB.mg CB.kp CB.b .nil pass0 (pa_cons (pv 0) (pa_cons (pe_ix ix_tup (pv 1) (pv 4) (fun _ _ => rfl)) (pa_cons (pe_op op_sub (pv 2) pe_int) pa_nil)))) pa_nil))) (px_slice (F := fun ε => ε.ds) (px_var (ρ := rB4) (f := fun ε => .tuple ε.ds) (.head _) (pv 1)) (po_kc (c := 1) (.tail _ (.head _)) (pv 4)) po_no)))))), ?_⟩
  obtain ⟨w4, w59, s4, s400, m22⟩ := id bd
  have THEN : ∀ (m : Nat) (H1 : Hp), m ≤ n + 1 → Pot H1 p m → But p H H1 → tThen K { nx := fun _ H' => Q .non H', rt := Q } [some (.ref p), some v, some (.int (k : Int)), none, none] H1 := fun m H1 hm hp1 b1 =>
    ⟨p, v, d, _, _, _, m, w', s, M, g, rfl, hp1, by omega, hd.same (But.hid b1 (List.mem_singleton.mpr rfl)), ms, bd, fun y d' H' hp' b' hy my => q y d' H' (hp'.more (by omega)) (b1.trans b') hy (my.mono (Nat.le_refl _) (Nat.le_refl _) (by omega) (Nat.le_refl _))⟩
  refine ⟨_, rfl, rfl, _, rfl, ite2 (fun _ => THEN n H (by omega) hp (But.refl _ _)) (fun h0 => ?_)⟩
  refine ⟨v, rfl, v, d, "tuple", rfl, hd.same hid_same, .inl rfl, _, rfl, ite2 (fun _ => THEN n H (by omega) hp (But.refl _ _)) (fun h1 => ?_)⟩
  have ht : isT "tuple" d = true := by
    have h1 : ¬ (!isT "tuple" d) = true := h1
    simpa using h1
  obtain ⟨ds, rfl⟩ := (isT_tuple d).mp ht
  obtain ⟨a, xs, rfl, hq, hl, hall⟩ := dv_items hd
  have hqH := same_sqT hid_same hq
  refine ⟨.ref a, rfl, small (by show 0 ≤ 1000; decide), fun r hr0 => ⟨a, r, xs, rfl, rfl, same_sqT (same_new hr0 _) hqH, .inl (.inl upd_same), _, rfl, ite2 (fun _ => THEN n _ (by omega) (hp.new hr0 _) (But.of_same (same_new hr0 _))) (fun h2 => ?_)⟩⟩
  have s1 := same_new hr0 (.tup [])
  refine ⟨.ref p, rfl, p, 5, n, rfl, hp.new hr0 _, by omega, by decide, by decide, fun c H2 c0 c1 hp2 b2 => ⟨rfl, _, rfl, ite2 (fun _ => THEN (n + 1) H2 (Nat.le_refl _) hp2 (same_but s1 b2)) (fun h3 => ?_)⟩⟩
  have b02 := same_but s1 b2
  obtain ⟨j, rfl⟩ : ∃ j, k = j + 1 := ⟨k - 1, by
    by_cases e : k = 0
    · subst e
      exact absurd rfl h0
    · omega⟩
  have hpos : 0 < xs.length := by
    cases xs with
    | nil => exact absurd rfl h2
    | cons _ _ => exact Nat.succ_pos _
  obtain ⟨m, em, lw, ts⟩ := ms.ta.items
  have hd2 := hd.same (But.hid b02 (List.mem_singleton.mpr rfl))
  obtain ⟨a', xs', ea, hq2, _, hall2⟩ := dv_items hd2
  cases ea
  have hl2 := hall2.len
  have hpos2 : 0 < xs'.length := by omega
  refine ⟨.ref p, rfl, .ref a, rfl, a, xs', rfl, .inr (same_sqT hid_same hq2), p, _, n + 1, rfl, hp2, by omega, by omega, by omega, fun at_ H3 a0 a1 hp3 b3 => ?_⟩
  obtain ⟨k, rfl⟩ : ∃ k : Nat, at_ = k := ⟨at_.toNat, by omega⟩
  have hk : k < xs'.length := by omega
  have b03 := b02.trans b3
  have hd3 := hd.same (But.hid b03 (List.mem_singleton.mpr rfl))
  have hall3 := hall2.same (But.hid b3 (List.mem_singleton.mpr rfl))
  have hq3 := same_sqT (But.hid b3 (List.mem_singleton.mpr rfl)) hq2
  have kn : ∀ {H4 : Hp} {m4 : Nat}, Pot H4 p m4 → But p H3 H4 → KnP K rB4 p m4 ⟨ds, k, .none⟩ [some (.ref p), some (.ref a), some (.int ((j + 1 : Nat) : Int)), none, some (.int (k : Int))] H4 := fun {H4 m4} h4 b4 => ⟨h4, by show ds.length ≤ 1000; omega, fun r m => by
    simp only [List.mem_cons, List.mem_nil_iff, or_false] at m
    rcases m with rfl | rfl
    · exact ⟨_, rfl, hd3.same (But.hid b4 (List.mem_singleton.mpr rfl))⟩
    · exact ⟨_, rfl, .int _⟩⟩
  have hx : xs'[k]? = some xs'[k] := List.getElem?_eq_getElem hk
  obtain ⟨e, he, hev⟩ := hall3.get hx
  have hat : atI xs' (k : Int) = some xs'[k] := atI_nat hx
  generalize xs'[k] = x at hx hev hat
  have hie := nodes_at he
  have te := ts e (List.mem_of_getElem? he)
  have hsz := ms.sz
  rw [nodes_tup] at hsz
  refine ⟨p, n + 1 + 1, _, kn hp3 (But.refl _ _), fun v1 H4 s4 hv1 => ?_⟩
  have hv1 : Dv K (hid [p] H4) v1 (.tuple (cutD ds none (some k))) := hv1
  rw [cut_to] at hv1
  have hp4 := hp3.same s4
  refine ⟨.ref p, rfl, .ref a, rfl, _, rfl, a, xs', _, x, rfl, rfl, same_sqT s4 (same_sqT hid_same hq3), hat, _, rfl, _, 1, rfl, rfl, ?_⟩
  refine ⟨p, x, e, n + 1 + 1, w', s, M, nodes e, ?_, hp4, by omega, hev.same (Same.hid s4), ⟨te.mono (Nat.le_refl _) (Nat.le_refl _) (by omega), Nat.le_refl _⟩, bd, fun y d' H5 hp5 b5 hy my => ?_⟩
  · show [V.ref p, x, V.int (((j + 1 : Nat) : Int) - 1)] = _
    have : (((j + 1 : Nat) : Int) - 1) = (j : Int) := by omega
    rw [this]
  have b35 := (But.of_same s4).trans b5
  have hv5 := hv1.same (But.hid b5 (List.mem_singleton.mpr rfl))
  have ltk : (ds.take k).length ≤ ds.length := List.length_take_le' _ _
  have ldk : (ds.drop (k + 1)).length ≤ ds.length := by rw [List.length_drop]; omega
  refine ⟨small (by show 1 ≤ 1000; decide), fun r2 hr2 => cat_in (hp5.new hr2 _) (hv5.same (Same.hid (same_new hr2 _))) (dv_new hp5 hr2 (.cons hy .nil)) (by rw [List.length_singleton]; omega) fun v3 H6 s6 hv3 => ?_⟩
  have hp6 := (hp5.new hr2 (.tup [y])).same s6
  have b36 : But p H3 H6 := (b35.trans (But.of_same (same_new hr2 _))).trans (But.of_same s6)
  refine ⟨p, _, _, kn hp6 b36, fun v4 H7 s7 hv4 => ?_⟩
  have hv4 : Dv K (hid [p] H7) v4 (.tuple (cutD ds (some (k + 1)) none)) := hv4
  rw [cut_from] at hv4
  refine cat_in (hp6.same s7) (hv3.same (Same.hid s7)) hv4 (by rw [List.length_append, List.length_singleton]; omega) fun v5 H8 s8 hv5 => ?_
  refine q v5 _ H8 (((hp6.same s7).same s8).more (by omega)) ((b03.trans b36).trans (But.of_same (Same.trans s7 s8))) hv5 ?_
  have tk : ∀ z ∈ ds, Ta (w' + 1) (2 * s + 40) (M + j + 1) z := fun z hz => (ts z hz).mono (by omega) (by omega) (by omega)
  refine Ms.tup (M := M + j + 1) (fun z hz => ?_) ?_ ?_
  · rcases List.mem_append.mp hz with hz | hz
    · rcases List.mem_append.mp hz with hz | hz
      · exact tk z (List.mem_of_mem_take hz)
      · rw [List.mem_singleton.mp hz]
        exact my.ta
    · exact tk z (List.mem_of_mem_drop hz)
  · rw [List.length_append, List.length_append, List.length_singleton]
    have := List.length_take_le k ds
    have e1 : (ds.take k).length = k := by rw [List.length_take]; omega
    have e2 : (ds.drop (k + 1)).length = ds.length - (k + 1) := List.length_drop
    omega
  · rw [nodes_append, nodes_append, nodes_cons, nodes_nil]
    have := my.sz
    omega
theorem ok_bent {f : Addr} {fd : FuncData} (F : Fun K "_law_bent" "_law_bent" s__law_bent f fd) (T : Bare mg) (C : Con K mg) (CT : Callee P w K mg base 1 "_law_take" ["_law_pot", "_law_upto"] spTake)
    (CO : Callee P w K mg base 2 "_law_of" ["_law_pot", "_law_some"] (spOf K)) (CD : Callee P w K mg base 3 "_law_odd" ["_law_pot"] (spOdd K)) (ml : mg "_law_bent" = some (.ref f)) (b : Binds K fd ["_law_pot", "_law_thing", "_law_deep"] []) :
    ∀ k, FnOk P w K mg base CX0 (3 + k) f fd ["_law_pot", "_law_thing", "_law_deep"] (spBents K k)
  | 0 => ⟨fun _ _ _ _ h => h.elim, fun _ _ _ _ _ _ _ _ _ _ _ _ _ h => h.elim⟩
  | k + 1 => ok_bent_step F T C CT CO CD ⟨f, fd, ok_bent F T C CT CO CD ml b k, ml, F.kp, b⟩
end
end Fh
set_option Elab.async false
set_option linter.all false
set_option maxRecDepth 100000
set_option maxHeartbeats 4000000
namespace Fh
open PySem L2 TL
/-! ### rows of scalars -/
def kD : Key → PyData
  | .inl i => .int i
  | .inr z => .str z
def rowD (r : Kt) : PyData := .tuple (r.map kD)
structure Tabs (K : PySem.W.Frag) (H : Hp) (vs : List V) (rows : List Kt) : Prop where
  len : vs.length = rows.length
  at_ : ∀ (j : Nat) (v : V), vs[j]? = some v → ∃ b r, v = .ref b ∧ rows[j]? = some r ∧ SqT K H b (r.map kV)
section
variable {K : PySem.W.Frag} {H H' : Hp}
theorem Tabs.nil : Tabs K H [] [] := ⟨rfl, fun j v h => by cases h⟩
theorem Tabs.but {D : Addr} {vs : List V} {rows : List Kt} (t : Tabs K H vs rows) (e : But D H H') (hD : ∃ ys, H D = some (.lst ys)) : Tabs K H' vs rows := ⟨t.len, fun j v h => by
  obtain ⟨b, r, h1, h2, h3⟩ := t.at_ j v h
  exact ⟨b, r, h1, h2, but_sqT e hD h3⟩⟩
theorem Tabs.same {vs : List V} {rows : List Kt} (t : Tabs K H vs rows) (e : Same H H') : Tabs K H' vs rows := ⟨t.len, fun j v h => by
  obtain ⟨b, r, h1, h2, h3⟩ := t.at_ j v h
  exact ⟨b, r, h1, h2, same_sqT e h3⟩⟩
theorem Tabs.snoc {vs : List V} {rows : List Kt} {b : Addr} {r : Kt} (t : Tabs K H vs rows) (h : SqT K H b (r.map kV)) : Tabs K H (vs ++ [.ref b]) (rows ++ [r]) := by
  refine ⟨by rw [List.length_append, List.length_append, t.len]; rfl, fun j v e => ?_⟩
  by_cases hj : j < vs.length
  · rw [List.getElem?_append_left hj] at e
    obtain ⟨b', r', h1, h2, h3⟩ := t.at_ j v e
    exact ⟨b', r', h1, by rw [List.getElem?_append_left (by rw [← t.len]; exact hj)]; exact h2, h3⟩
  · have hj' : j = vs.length := by
      have := (List.getElem?_eq_some_iff.mp e).1
      rw [List.length_append, List.length_singleton] at this
      omega
    subst hj'
    rw [List.getElem?_append_right (Nat.le_refl _), Nat.sub_self] at e
    refine ⟨b, r, by injection e with e; exact e.symm, ?_, h⟩
    rw [t.len, List.getElem?_append_right (Nat.le_refl _), Nat.sub_self]
    rfl
theorem sqT_hid {p b : Addr} {n : Nat} {xs : List V} (hp : Pot H p n) (h : SqT K H b xs) : SqT K (hid [p] H) b xs := by
  obtain ⟨u, hp⟩ := hp.is
  have ne : ∀ {o : HO}, H b = some o → (∀ ys, o ≠ .lst ys) → hid [p] H b = some o := fun {o} e n => hid_get.mpr ⟨fun z => by
    rw [List.mem_singleton.mp z, hp] at e
    injection e with e
    exact n _ e.symm, e⟩
  rcases h with (h | ⟨o, h⟩) | h
  · exact .inl (.inl (ne h fun ys z => by cases z))
  · exact .inl (.inr ⟨o, ne h fun ys z => by cases z⟩)
  · exact .inr h
theorem dv_keys : ∀ (r : Kt), (∀ z, .inr z ∈ r → z.length ≤ 1000000) → DvAll K H (r.map kV) (r.map kD)
  | [], _ => .nil
  | .inl i :: r, h => .cons (.int i) (dv_keys r fun z m => h z (.tail _ m))
  | .inr z :: r, h => .cons (.str z (h z (.head _))) (dv_keys r fun z m => h z (.tail _ m))
theorem dv_refs {xs : List V} {ds : List PyData} (hl : xs.length = ds.length) (h : ∀ (j : Nat) (v : V) (d : PyData), xs[j]? = some v → ds[j]? = some d → Dv K H v d) : DvAll K H xs ds := by
  induction xs generalizing ds with
  | nil =>
    cases ds with
    | nil => exact .nil
    | cons _ _ => cases hl
  | cons x xs ih =>
    cases ds with
    | nil => cases hl
    | cons d ds => exact .cons (h 0 x d rfl rfl) (ih (by simpa using hl) fun j v d e1 e2 => h (j + 1) v d e1 e2)
theorem Tabs.dv {p : Addr} {n : Nat} {vs : List V} {rows : List Kt} (t : Tabs K H vs rows) (hp : Pot H p n) (h : ∀ r ∈ rows, ∀ z, .inr z ∈ r → z.length ≤ 1000000) : DvAll K (hid [p] H) vs (rows.map rowD) := by
  refine dv_refs (by rw [List.length_map]; exact t.len) fun j v d e1 e2 => ?_
  obtain ⟨b, r, rfl, h2, h3⟩ := t.at_ j v e1
  rw [List.getElem?_map, h2] at e2
  injection e2 with e2
  subst e2
  exact .tup (sqT_hid hp h3) (dv_keys r (h r (List.mem_of_getElem? h2)))
end
theorem call_tuple_ofB {X : Cx} {K : PySem.W.Frag} (hK : X.K = K) : CallR X (.type "tuple") (fun xs H Q => ∃ p ys, xs = [.ref p] ∧ SqL K H p ys ∧ ∀ l, H l = none → Q (.ref l) (upd H l (.tup ys))) := by
  subst hK
  intro pins s σ H xs us Q I r h
  obtain ⟨p, ys, rfl, h1, h2⟩ := h
  exact call_tuple_of pins s σ H _ us Q I r ⟨p, ys, rfl, .inl ⟨h1, h2⟩⟩
/-! ### _law_steps -/
def numsK (zs : List Nat) : Kt := zs.map fun (z : Nat) => .inl (z : Int)
theorem nums_v (zs : List Nat) : (numsK zs).map kV = zs.map fun (z : Nat) => V.int (z : Int) := by
  unfold numsK
  rw [List.map_map]
  rfl
theorem nums_d (zs : List Nat) : (numsK zs).map kD = zs.map fun (z : Nat) => PyData.int (z : Int) := by
  unfold numsK
  rw [List.map_map]
  rfl
/-- rows of steps -/
structure Stp (k m : Nat) (rows : List (List Nat)) : Prop where
  row : ∀ r ∈ rows, r.length = k ∧ ∀ z ∈ r, z < m
def stepsD (rows : List (List Nat)) : PyData := .tuple (rows.map fun r => rowD (numsK r))
theorem Stp.moves {k m : Nat} {rows : List (List Nat)} (h : Stp k m rows) (l : rows.length = m) (hm : 0 < m) : movesOk k (stepsD rows) = true := by
  unfold stepsD
  show (!(rows.map fun r => rowD (numsK r)).isEmpty && (rows.map fun r => rowD (numsK r)).all (rowOk k (rows.map fun r => rowD (numsK r)).length)) = true
  refine Bool.and_eq_true_iff.mpr ⟨?_, ?_⟩
  · cases rows with
    | nil =>
      rw [List.length_nil] at l
      omega
    | cons _ _ => rfl
  · rw [List.length_map, l, List.all_map]
    refine List.all_eq_true.mpr fun r hr => ?_
    obtain ⟨h1, h2⟩ := h.row r hr
    show rowOk k m (rowD (numsK r)) = true
    unfold rowD
    rw [nums_d]
    show (decide ((r.map fun (z : Nat) => PyData.int (z : Int)).length = k) && (r.map fun (z : Nat) => PyData.int (z : Int)).all (isState m)) = true
    refine Bool.and_eq_true_iff.mpr ⟨decide_eq_true (by rw [List.length_map]; exact h1), ?_⟩
    rw [List.all_map]
    refine List.all_eq_true.mpr fun z hz => ?_
    have := h2 z hz
    show (decide (0 ≤ (z : Int)) && decide ((z : Int) < (m : Int))) = true
    exact Bool.and_eq_true_iff.mpr ⟨decide_eq_true (by omega), decide_eq_true (by omega)⟩
theorem nodes_lf {s : Nat} {d : PyData} (h : isLf s d = true) : nodes d = 1 := by
  cases d with
  | tuple _ => cases h
  | list _ => cases h
  | dict _ => cases h
  | _ => simp only [nodes]
theorem nodes_lfs {s : Nat} : ∀ {ds : List PyData}, (∀ d ∈ ds, isLf s d = true) → nodesAll ds = ds.length
  | [], _ => nodes_nil
  | d :: ds, h => by
    rw [nodes_cons, nodes_lf (h d (.head _)), nodes_lfs fun x m => h x (.tail _ m), List.length_cons]
    omega
theorem nodes_rows {c : Nat} : ∀ {ds : List PyData}, (∀ d ∈ ds, nodes d ≤ c) → nodesAll ds ≤ c * ds.length
  | [], _ => by rw [nodes_nil]; omega
  | d :: ds, h => by
    rw [nodes_cons, List.length_cons, Nat.mul_succ]
    have := h d (.head _)
    have := nodes_rows fun x m => h x (.tail _ m)
    omega
/-- a tuple of rows of leaves -/
theorem rows_ms {c l : Nat} {rows : List Kt} (h : ∀ r ∈ rows, r.length ≤ c ∧ ∀ x ∈ r, isLf 4 (kD x) = true) (hl : rows.length ≤ l) (hc : c ≤ 40) (hl2 : l ≤ 40) : Ta 40 4 2 (.tuple (rows.map rowD)) ∧ nodes (.tuple (rows.map rowD)) ≤ 1 + (1 + c) * l := by
  have lf : ∀ r ∈ rows, ∀ d ∈ r.map kD, isLf 4 d = true := fun r hr d hd => by
    obtain ⟨x, hx, rfl⟩ := List.mem_map.mp hd
    exact (h r hr).2 x hx
  refine ⟨.tup (fun d hd => ?_) (by rw [List.length_map]; omega), ?_⟩
  · obtain ⟨r, hr, rfl⟩ := List.mem_map.mp hd
    exact .tup (fun d hd => .leaf (lf r hr d hd)) (by rw [List.length_map]; have := (h r hr).1; omega)
  · rw [nodes_tup]
    have z : nodesAll (rows.map rowD) ≤ (1 + c) * (rows.map rowD).length := nodes_rows fun d hd => by
      obtain ⟨r, hr, rfl⟩ := List.mem_map.mp hd
      unfold rowD
      rw [nodes_tup, nodes_lfs (lf r hr), List.length_map]
      have := (h r hr).1
      omega
    rw [List.length_map] at z
    have : (1 + c) * rows.length ≤ (1 + c) * l := Nat.mul_le_mul_left _ hl
    omega
abbrev s__law_steps : Stmt := top 47
abbrev sc__law_stepsN : List Str := ["_law_pot", "_law_many", "_law_upto", "_law_state", "_law_symbol"]
theorem sc__law_steps : FnScope sc__law_stepsN ["_law_pot", "_law_many", "_law_upto"] (defScope s__law_steps) := ⟨rfl, rfl, rfl, by decide +kernel, rfl, by decide +kernel, by decide +kernel⟩
abbrev scSt : Scope := { kind := .function, names := [(".0", .local), ("_law_state", .local), ("tuple", .globalImplicit), ("range", .globalImplicit), ("_law_many", .cell), ("_law_pot", .cell), ("_law_upto", .cell)], isGenerator := false, isCoroutine := false }
def spSteps (K : PySem.W.Frag) : Sp := fun vs H Q _ => ∃ (p : Addr) (n m k : Nat), vs = [.ref p, .int (m : Int), .int (k : Int)] ∧ Pot H p n ∧ n + 20 < 100000 ∧ 0 < m ∧ m ≤ 3 ∧ k ≤ 4 ∧
  ∀ (y : V) (rows : List (List Nat)) (H' : Hp), Pot H' p (n + 12) → But p H H' → Dv K (hid [p] H') y (stepsD rows) → Stp k m rows → rows.length = m → Q y H'
section
variable {P : Program} {w : World} {K : PySem.W.Frag} {mg : Str → Option Value} {base : Heap}
theorem ok_steps {f : Addr} {fd : FuncData} (F : Fun K "_law_steps" "_law_steps" s__law_steps f fd) (T : Bare mg) (C : Con K mg) (CT : Callee P w K mg base 1 "_law_take" ["_law_pot", "_law_upto"] spTake) : FnOk P w K mg base CX0 2 f fd ["_law_pot", "_law_many", "_law_upto"] (spSteps K) := by
  refine F.ok sc__law_steps (fun vs H Q E h => ?_) (fun cdv A outer st H vs Q E hr h => ?_)
  · obtain ⟨p, n, m, k, rfl, _⟩ := h
    rfl
  obtain ⟨p, n, m, k, rfl, hp, hn, m0, m3, k4, q⟩ := h
  refine ⟨_, (pss_one (ps_ret (pe_callTy call_tuple_of (by rfl) T.tuple (by decide +kernel) (pa_cons (pe_lc (own := [("_law_state", 3)]) (g := gName 3) rfl sc__law_steps.nd (pi_range1 (by rfl) T.range (pa_cons (pv 1) pa_nil)) (blkOk_by (N := sc__law_stepsN) (sc := defScope s__law_steps) (by decide +kernel)) (fun _ _ _ _ _ => pg_name (i := 3) sc__law_steps.nd rfl (Or.inl rfl)) (fun _ _ _ _ _ => pts_nil) (fun _ _ _ _ _ => (pe_callTy (call_tuple_ofB (K := K) rfl) (by rfl) T.tuple (by decide +kernel) (pa_cons (pe_lc (own := [("_law_symbol", 4)]) (g := gName 4) rfl sc__law_steps.nd (pi_range1 (by rfl) T.range (pa_cons (pv 2) pa_nil)) (blkOk_by (N := sc__law_stepsN) (sc := scSt) (by decide +kernel)) (fun _ _ _ _ _ => pg_name (i := 4) sc__law_steps.nd rfl (Or.inl rfl)) (fun _ _ _ _ _ => pts_nil) (fun _ _ _ _ _ => (pe_call CT.ok (hr.mono (by decide)) rfl CT.mg CT.kp CT.b .nil pass0 (pa_cons (pv 0) (pa_cons (pv 1) pa_nil))))) pa_nil)))) pa_nil)))), ?_⟩
  refine ⟨_, rfl, (m : Int), rfl, by omega, by omega, fun D hD => lc_range (lo := 0) (n := m) (fun i H' => ∃ (vs : List V) (rows : List (List Nat)), H' D = some (.lst vs) ∧ Tabs K H' vs (rows.map numsK) ∧ Stp k m rows ∧ rows.length = i ∧ Pot H' p (n + 4 * i) ∧ But p H H') ?_ ?_ ?_⟩
  · exact ⟨[], [], upd_same, .nil, ⟨fun r h => by cases h⟩, rfl, hp.new hD _, But.of_same (same_new hD _)⟩
  · rintro i H1 hi ⟨vs, rows, hD1, tb, stp, hl, hp1, b1⟩
    have lv : vs.length = i := by rw [tb.len, List.length_map, hl]
    have neD : D ≠ p := hp.ne hD
    refine ⟨rfl, ?_⟩
    simp only [tYes, ↓reduceIte]
    refine ⟨_, rfl, (k : Int), rfl, by omega, by omega, fun D2 hD2 => lc_range (lo := 0) (n := k) (fun j H' => ∃ (zs : List Nat), H' D2 = some (.lst (zs.map fun (z : Nat) => V.int (z : Int))) ∧ zs.length = j ∧ (∀ z ∈ zs, z < m) ∧ Pot H' p (n + 4 * i + j) ∧ But p H1 H') ?_ ?_ ?_⟩
    · exact ⟨[], upd_same, rfl, fun z h => (by cases h), hp1.new hD2 _, But.of_same (same_new hD2 _)⟩
    · rintro j H2 hj ⟨zs, hD3, lz, hz, hp2, b2⟩
      have neD2 : D2 ≠ p := hp1.ne hD2
      refine ⟨rfl, ?_⟩
      simp only [tYes, ↓reduceIte]
      refine ⟨.ref p, rfl, .int (m : Int), rfl, p, m, _, rfl, hp2, by omega, by omega, by omega, fun x H3 x0 x1 hp3 b3 => ?_⟩
      obtain ⟨z, rfl⟩ : ∃ z : Nat, x = z := ⟨x.toNat, by omega⟩
      refine ⟨_, b3 _ _ hD3 neD2, ?_, zs ++ [z], ?_, by rw [List.length_append, lz]; rfl, ?_, ?_, ?_⟩
      · rw [List.length_map]
        exact Nat.lt_of_lt_of_le (by omega : zs.length < 10001) (by rw [sizeLine_eq]; decide)
      · rw [upd_same, List.map_append]
        rfl
      · intro y hy
        rcases List.mem_append.mp hy with hy | hy
        · exact hz y hy
        · rw [List.mem_singleton.mp hy]
          omega
      · obtain ⟨o, b, c, e, r⟩ := hp3
        exact ⟨o, b, c, by rw [upd_ne neD2.symm]; exact e, r⟩
      · intro b o e nb
        rw [upd_ne (ne_of_none e hD2)]
        exact (b2.trans b3) _ _ e nb
    · rintro H2 ⟨zs, hD3, lz, hz, hp2, b2⟩
      refine ⟨D2, _, rfl, .inl (.inl hD3), fun r hr0 => ?_⟩
      have s3 := same_new hr0 (.tup (zs.map fun (z : Nat) => V.int (z : Int)))
      have hD4 := s3 _ _ (b2 _ _ hD1 neD)
      have tb3 := (tb.but b2 hp1.is).same s3
      have hp3 := hp2.same s3
      have hr1 : upd H2 r (.tup (zs.map fun (z : Nat) => V.int (z : Int))) r = some (.tup (zs.map fun (z : Nat) => V.int (z : Int))) := upd_same
      have b3 := b2.trans (But.of_same s3)
      generalize upd H2 r (.tup (zs.map fun (z : Nat) => V.int (z : Int))) = H3 at s3 hD4 tb3 hp3 hr1 b3 ⊢
      refine ⟨vs, hD4, ?_, vs ++ [.ref r], rows ++ [zs], upd_same, ?_, ⟨fun r hr => ?_⟩, by rw [List.length_append, hl]; rfl, ?_, ?_⟩
      · exact Nat.lt_of_lt_of_le (by omega : vs.length < 10001) (by rw [sizeLine_eq]; decide)
      · rw [List.map_append]
        refine ((tb3.snoc (b := r) (r := numsK zs) (.inl (.inl (by rw [nums_v]; exact hr1)))).but But.upd ⟨_, hD4⟩)
      · rcases List.mem_append.mp hr with hr | hr
        · exact stp.row r hr
        · rw [List.mem_singleton.mp hr]
          exact ⟨lz, hz⟩
      · obtain ⟨o, b, c, e, r⟩ := hp3.more (show n + 4 * i + k ≤ n + 4 * (i + 1) by omega)
        exact ⟨o, b, c, by rw [upd_ne neD.symm]; exact e, r⟩
      · intro b o e nb
        rw [upd_ne (ne_of_none e hD)]
        exact (b1.trans b3) _ _ e nb
  · rintro H1 ⟨vs, rows, hD1, tb, stp, hl, hp1, b1⟩
    refine ⟨D, vs, rfl, .inl ⟨.inl (.inl hD1), fun l hl2 => ?_⟩⟩
    have s1 := same_new hl2 (.tup vs)
    refine q _ rows _ ((hp1.same s1).more (by omega)) (b1.trans (But.of_same s1)) ?_ stp hl
    have d := (tb.dv hp1 fun r hr z hz => ?_).same (Same.hid (l := [p]) s1)
    · rw [List.map_map] at d
      exact .tup (.inl (.inl (hid_new hp1 hl2))) d
    · obtain ⟨zs, _, rfl⟩ := List.mem_map.mp hr
      obtain ⟨x, _, e⟩ := List.mem_map.mp hz
      cases e
end
end Fh
set_option Elab.async false
set_option linter.all false
set_option maxRecDepth 100000
set_option maxHeartbeats 4000000
namespace Fh
open PySem L2 TL
/-! ### _law_said -/
def said4 : List Str := ["x", "y", "xx", "zy"]
theorem ink4 : ∀ w ∈ said4, inkOk (.str w) = true ∧ isLf 4 (.str w) = true := by decide +kernel
def saidK (e : Nat × Str) : Kt := [.inl (e.1 : Int), .inr e.2]
def saidD (ms : List (Nat × Str)) : PyData := .tuple (ms.map fun e => rowD (saidK e))
structure Sd (m : Nat) (ms : List (Nat × Str)) : Prop where
  pw : ms.Pairwise fun a b => a.1 < b.1
  ok : ∀ e ∈ ms, e.1 < m ∧ e.2 ∈ said4
theorem Sd.marks {m : Nat} {ms : List (Nat × Str)} (h : Sd m ms) : marksOk m (saidD ms) = true := by
  show ((ms.map fun e => rowD (saidK e)).all (markOk m) && ascN ((ms.map fun e => rowD (saidK e)).map firstN)) = true
  refine Bool.and_eq_true_iff.mpr ⟨?_, ?_⟩
  · rw [List.all_map]
    refine List.all_eq_true.mpr fun e he => ?_
    obtain ⟨h1, h2⟩ := h.ok e he
    show (isState m (.int (e.1 : Int)) && inkOk (.str e.2)) = true
    rw [(ink4 _ h2).1, Bool.and_true]
    show (decide (0 ≤ (e.1 : Int)) && decide ((e.1 : Int) < (m : Int))) = true
    exact Bool.and_eq_true_iff.mpr ⟨decide_eq_true (by omega), decide_eq_true (by omega)⟩
  · rw [List.map_map]
    refine decide_eq_true (List.pairwise_map.mpr (List.Pairwise.imp (fun {a b} z => ?_) h.pw))
    show ((a.1 : Int)).toNat < (((b.1 : Int)).toNat : Int)
    omega
theorem Sd.ms {m : Nat} {ms : List (Nat × Str)} (h : Sd m ms) (hm : m ≤ 3) (l : ms.length ≤ 3) : Ta 40 4 2 (saidD ms) ∧ nodes (saidD ms) ≤ 10 := by
  have z := rows_ms (c := 2) (l := 3) (rows := ms.map saidK) (fun r hr => by
    obtain ⟨e, he, rfl⟩ := List.mem_map.mp hr
    refine ⟨Nat.le_refl _, fun x hx => ?_⟩
    unfold saidK at hx
    simp only [List.mem_cons, List.mem_nil_iff, or_false] at hx
    rcases hx with rfl | rfl
    · have := (h.ok e he).1
      have hb : 3 ≤ big := by decide
      exact decide_eq_true (by omega : (e.1 : Int).natAbs ≤ big + 4)
    · exact (ink4 _ (h.ok e he).2).2) (by rw [List.length_map]; exact l) (by decide) (by decide)
  rw [List.map_map] at z
  exact z
theorem Sd.short {m : Nat} {ms : List (Nat × Str)} (h : Sd m ms) : ∀ r ∈ ms.map saidK, ∀ z, .inr z ∈ r → z.length ≤ 1000000 := fun r hr z hz => by
  obtain ⟨e, he, rfl⟩ := List.mem_map.mp hr
  unfold saidK at hz
  simp only [List.mem_cons, List.mem_nil_iff, or_false] at hz
  rcases hz with hz | hz
  · cases hz
  · injection hz with hz
    subst hz
    have := (lf_str.mp (ink4 _ (h.ok e he).2).2).1
    omega
abbrev s__law_said : Stmt := top 46
abbrev sc__law_saidN : List Str := ["_law_pot", "_law_upto", "_law_found", "_law_state"]
theorem sc__law_said : FnScope sc__law_saidN ["_law_pot", "_law_upto"] (defScope s__law_said) := ⟨rfl, rfl, rfl, by decide +kernel, rfl, by decide +kernel, by decide +kernel⟩
def spSaid (K : PySem.W.Frag) : Sp := fun vs H Q _ => ∃ (p : Addr) (n m : Nat), vs = [.ref p, .int (m : Int)] ∧ Pot H p n ∧ n + 20 < 100000 ∧ m ≤ 3 ∧
  ∀ (y : V) (ms : List (Nat × Str)) (H' : Hp), Pot H' p (n + 6) → But p H H' → Dv K (hid [p] H') y (saidD ms) → Sd m ms → ms.length ≤ m → Q y H'
section
variable {P : Program} {w : World} {K : PySem.W.Frag} {mg : Str → Option Value} {base : Heap}
theorem ok_said {f : Addr} {fd : FuncData} (F : Fun K "_law_said" "_law_said" s__law_said f fd) (T : Bare mg) (CT : Callee P w K mg base 1 "_law_take" ["_law_pot", "_law_upto"] spTake) (CO : Callee P w K mg base 2 "_law_of" ["_law_pot", "_law_some"] (spOf K)) : FnOk P w K mg base CX0 3 f fd ["_law_pot", "_law_upto"] (spSaid K) := by
  refine F.ok sc__law_said (fun vs H Q E h => ?_) (fun cdv A outer st H vs Q E hr h => ?_)
  · obtain ⟨p, n, m, rfl, _⟩ := h
    rfl
  obtain ⟨p, n, m, rfl, hp, hn, m3, q⟩ := h
  refine ⟨_, (pss_cons (ps_set (i := 2) sc__law_said.nd rfl (Or.inl rfl) (pe_lst pa_nil))
(pss_cons (ps_for PassesOwn.never rfl (pi_range1 (by rfl) T.range (pa_cons (pv 1) pa_nil)) (pg_name (i := 3) sc__law_said.nd rfl (Or.inl rfl))
(pss_one (ps_if (pt_cmpR op_eq (pe_call CT.ok (hr.mono (by decide)) rfl CT.mg CT.kp CT.b .nil pass0 (pa_cons (pv 0) (pa_cons pe_int pa_nil))) pe_int (nomark _))
(pss_one (ps_expr (pe_bm PySem.F.plainAttrs_list PySem.F.slot_list_append PySem.F.type_list_append mt_append (pv 2) (pa_cons (pe_tup (pa_cons (pv 3) (pa_cons (pe_call CO.ok hr rfl CO.mg CO.kp CO.b .nil pass0 (pa_cons (pv 0) (pa_cons (pe_lst (pa_cons pe_str (pa_cons pe_str (pa_cons pe_str (pa_cons pe_str pa_nil))))) pa_nil))) pa_nil))) pa_nil))))
pss_nil)))
(pss_one (ps_ret (pe_callTy call_tuple_of (by rfl) T.tuple (by decide +kernel) (pa_cons (pv 2) pa_nil)))))), ?_⟩
  refine ⟨small (by show 0 ≤ 1000; decide), fun D hD => ?_⟩
  have s0 := same_new hD (.lst [])
  have neD := hp.ne hD
  refine ⟨_, rfl, (m : Int), rfl, by omega, by omega, for_range (lo := 0) (n := m) (fun i σ H' => ∃ (x3 : Option V) (vs : List V) (ms : List (Nat × Str)), σ = [some (.ref p), some (.int (m : Int)), some (.ref D), x3] ∧ H' D = some (.lst vs) ∧ Tabs K H' vs (ms.map saidK) ∧ Sd i ms ∧ ms.length ≤ i ∧ Pot H' p (n + 2 * i) ∧ But p H H') ?_ ?_ ?_⟩
  · exact ⟨none, [], [], rfl, upd_same, .nil, ⟨.nil, fun e h => by cases h⟩, Nat.le_refl _, hp.new hD _, But.of_same s0⟩
  · rintro i σ H1 hi ⟨x3, vs, ms, rfl, hD1, tb, sd, hl, hp1, b1⟩
    have lv : vs.length = ms.length := by rw [tb.len, List.length_map]
    have mono : Sd (i + 1) ms := ⟨sd.pw, fun e he => ⟨by have := (sd.ok e he).1; omega, (sd.ok e he).2⟩⟩
    refine ⟨.ref p, rfl, p, 2, _, rfl, hp1, by omega, by decide, by decide, fun c H2 c0 c1 hp2 b2 => ⟨rfl, _, rfl, ite2 (fun _ => ?_) (fun _ => ?_)⟩⟩
    · have hD2 := b2 _ _ hD1 neD
      refine ⟨.ref D, rfl, .inl ⟨rfl, _, .inl (.inl hD2)⟩, _, rfl, .ref p, rfl, small (by show 4 ≤ 1000; decide), fun l hl0 => ⟨p, l, [.str "x", .str "y", .str "xx", .str "zy"], _, rfl, hp2.new hl0 _, by omega, .inl (.inl upd_same), hp2.ne hl0, (by show 0 < 4; decide), (by show 4 < 1000; decide), fun i2 v H3 hv hp3 b3 => ⟨small (by show 2 ≤ 1000; decide), fun r hr2 => ?_⟩⟩⟩
      obtain ⟨w1, rfl, hw⟩ : ∃ w1, v = .str w1 ∧ w1 ∈ said4 := by
        have := List.mem_of_getElem? hv
        simp only [List.mem_cons, List.mem_nil_iff, or_false] at this
        rcases this with rfl | rfl | rfl | rfl
        · exact ⟨_, rfl, .head _⟩
        · exact ⟨_, rfl, .tail _ (.head _)⟩
        · exact ⟨_, rfl, .tail _ (.tail _ (.head _))⟩
        · exact ⟨_, rfl, .tail _ (.tail _ (.tail _ (.head _)))⟩
      have B3 : But p H1 H3 := b2.trans (same_but (same_new hl0 _) b3)
      have hD3 : H3 D = some (.lst vs) := B3 _ _ hD1 neD
      have sr := same_new hr2 (.tup [V.int ((0 : Int) + (i : Int)), V.str w1])
      have tb3 := (tb.but B3 hp1.is).same sr
      have hr3 : upd H3 r (.tup [V.int ((0 : Int) + (i : Int)), V.str w1]) r = some (.tup [V.int ((0 : Int) + (i : Int)), V.str w1]) := upd_same
      have hD4 := sr _ _ hD3
      have hp4 := hp3.same sr
      have B4 := B3.trans (But.of_same sr)
      generalize upd H3 r (.tup [V.int ((0 : Int) + (i : Int)), V.str w1]) = H4 at sr tb3 hr3 hD4 hp4 B4 ⊢
      rw [Int.zero_add] at hr3
      refine ⟨D, vs, _, rfl, rfl, hD4, Nat.lt_of_lt_of_le (by omega : vs.length < 10001) (by rw [sizeLine_eq]; decide), ?_⟩
      refine ⟨_, vs ++ [.ref r], ms ++ [(i, w1)], rfl, upd_same, ?_, ⟨?_, fun e he => ?_⟩, by rw [List.length_append, List.length_singleton]; omega, ?_, fun b o e nb => ?_⟩
      · rw [List.map_append]
        exact (tb3.snoc (b := r) (r := saidK (i, w1)) (.inl (.inl hr3))).but But.upd ⟨_, hD4⟩
      · refine List.pairwise_append.mpr ⟨sd.pw, List.pairwise_singleton _ _, fun a ha b hb => ?_⟩
        rw [List.mem_singleton.mp hb]
        exact (sd.ok a ha).1
      · rcases List.mem_append.mp he with he | he
        · exact mono.ok e he
        · rw [List.mem_singleton.mp he]
          exact ⟨Nat.lt_succ_self _, hw⟩
      · obtain ⟨o, b, c, e, r⟩ := hp4.more (show n + 2 * i + 1 + 1 ≤ n + 2 * (i + 1) by omega)
        exact ⟨o, b, c, by rw [upd_ne neD.symm]; exact e, r⟩
      · rw [upd_ne (ne_of_none e hD)]
        exact (b1.trans B4) _ _ e nb
    · exact ⟨_, vs, ms, rfl, b2 _ _ hD1 neD, tb.but b2 hp1.is, mono, by omega, hp2.more (by omega), b1.trans b2⟩
  · rintro σ H1 ⟨x3, vs, ms, rfl, hD1, tb, sd, hl, hp1, b1⟩
    refine ⟨.ref D, rfl, D, vs, rfl, .inl ⟨.inl (.inl hD1), fun t ht => ?_⟩⟩
    have s1 := same_new ht (.tup vs)
    have d := (tb.dv hp1 sd.short).same (Same.hid (l := [p]) s1)
    rw [List.map_map] at d
    exact q _ ms _ ((hp1.same s1).more (by show n + 2 * m ≤ _; omega)) (b1.trans (But.of_same s1)) (.tup (.inl (.inl (hid_new hp1 ht))) d) sd hl
end
end Fh
set_option Elab.async false
set_option linter.all false
set_option maxRecDepth 100000
set_option maxHeartbeats 4000000
namespace Fh
open PySem L2 TL
/-! ### _law_drawn_writer -/
structure Sym (S : Str) : Prop where
  two : 2 ≤ S.length
  four : S.length ≤ 4
  pw : (tl S).Pairwise (· < ·)
  low : ∀ c ∈ tl S, 97 ≤ c ∧ c ≤ 122
theorem Sym.plain {S : Str} (h : Sym S) : Plain S := ⟨by have := h.four; omega, fun c hc => by have := h.low c hc; omega⟩
abbrev We := Tri × Str
def wordK (e : We) : Kt := [.inl (e.1.i : Int), .inr (sgn e.1.c), .inl (e.1.j : Int), .inr e.2]
def wordsD (ws : List We) : PyData := .tuple (ws.map fun e => rowD (wordK e))
structure Wds (S : Str) (m n : Nat) (ws : List We) : Prop where
  pw : ws.Pairwise fun a b => a.1.rk < b.1.rk
  ok : ∀ e ∈ ws, e.1.i < m ∧ e.1.c ∈ tl S ∧ e.1.j < n ∧ (e.2 = "x" ∨ e.2 = "y" ∨ e.2 = "xx" ∨ e.2 = sgn e.1.c)
theorem ink_sgn {c : Nat} (h : 97 ≤ c ∧ c ≤ 122) : inkOk (.str (sgn c)) = true := by
  show (decide (sgn c ≠ "") && ofLetters (sgn c)) = true
  refine Bool.and_eq_true_iff.mpr ⟨decide_eq_true fun e => ?_, ?_⟩
  · have := congrArg (fun x : Str => x.cps.size) e
    exact absurd this (by show ¬ (1 = 0); decide)
  · show ([c].all fun c => decide (c ∈ tl alpha)) = true
    rw [alpha_is, List.all_cons, List.all_nil, Bool.and_true]
    exact decide_eq_true (List.mem_map.mpr ⟨c - 97, List.mem_range.mpr (by omega), by omega⟩)
theorem lf_sgn {c : Nat} (h : c ≤ 122) : isLf 4 (.str (sgn c)) = true := lf_str.mpr ⟨by show 1 ≤ 4; decide, by
  show ([c].all fun c => decide (c < 128)) = true
  rw [List.all_cons, List.all_nil, Bool.and_true]
  exact decide_eq_true (by omega)⟩
theorem Wds.word {S : Str} {m n : Nat} {ws : List We} (hS : Sym S) (h : Wds S m n ws) {e : We} (he : e ∈ ws) : inkOk (.str e.2) = true ∧ isLf 4 (.str e.2) = true := by
  obtain ⟨_, h2, _, h4⟩ := h.ok e he
  have := hS.low _ h2
  rcases h4 with e1 | e1 | e1 | e1
  · rw [e1]; exact ink4 _ (.head _)
  · rw [e1]; exact ink4 _ (.tail _ (.head _))
  · rw [e1]; exact ink4 _ (.tail _ (.tail _ (.head _)))
  · rw [e1]; exact ⟨ink_sgn this, lf_sgn this.2⟩
theorem Wds.places {S : Str} {m n : Nat} {ws : List We} (hS : Sym S) (h : Wds S m n ws) : placesOk S m n (wordsD ws) = true := by
  show ((ws.map fun e => rowD (wordK e)).all (placeOk S m n) && ascT ((ws.map fun e => rowD (wordK e)).map triOf)) = true
  refine Bool.and_eq_true_iff.mpr ⟨?_, ?_⟩
  · rw [List.all_map]
    refine List.all_eq_true.mpr fun e he => ?_
    obtain ⟨h1, h2, h3, _⟩ := h.ok e he
    show (symOk S (.str (sgn e.1.c)) && (isState m (.int (e.1.i : Int)) && (isState n (.int (e.1.j : Int)) && inkOk (.str e.2)))) = true
    rw [(h.word hS he).1, Bool.and_true]
    refine Bool.and_eq_true_iff.mpr ⟨?_, Bool.and_eq_true_iff.mpr ⟨?_, ?_⟩⟩
    · show (decide (1 = 1) && ([e.1.c].all fun c => decide (c ∈ tl S))) = true
      rw [decide_eq_true rfl, Bool.true_and, List.all_cons, List.all_nil, Bool.and_true]
      exact decide_eq_true h2
    · show (decide (0 ≤ (e.1.i : Int)) && decide ((e.1.i : Int) < (m : Int))) = true
      exact Bool.and_eq_true_iff.mpr ⟨decide_eq_true (by omega), decide_eq_true (by omega)⟩
    · show (decide (0 ≤ (e.1.j : Int)) && decide ((e.1.j : Int) < (n : Int))) = true
      exact Bool.and_eq_true_iff.mpr ⟨decide_eq_true (by omega), decide_eq_true (by omega)⟩
  · have e : (ws.map fun e => rowD (wordK e)).map triOf = ws.map Prod.fst := by
      rw [List.map_map]
      refine List.map_congr_left fun e _ => ?_
      exact tri_is e.1.i e.1.c e.1.j (.str e.2)
    rw [e]
    exact decide_eq_true (List.pairwise_map.mpr h.pw)
theorem Wds.ms {S : Str} {m n : Nat} {ws : List We} (hS : Sym S) (h : Wds S m n ws) (hm : m ≤ 3) (hn : n ≤ 3) (l : ws.length ≤ 36) : Ta 40 4 2 (wordsD ws) ∧ nodes (wordsD ws) ≤ 181 := by
  have z := rows_ms (c := 4) (l := 36) (rows := ws.map wordK) (fun r hr => by
    obtain ⟨e, he, rfl⟩ := List.mem_map.mp hr
    refine ⟨Nat.le_refl _, fun x hx => ?_⟩
    obtain ⟨h1, h2, h3, _⟩ := h.ok e he
    have hb : 3 ≤ big := by decide
    unfold wordK at hx
    simp only [List.mem_cons, List.mem_nil_iff, or_false] at hx
    rcases hx with rfl | rfl | rfl | rfl
    · exact decide_eq_true (by omega : (e.1.i : Int).natAbs ≤ big + 4)
    · exact lf_sgn (hS.low _ h2).2
    · exact decide_eq_true (by omega : (e.1.j : Int).natAbs ≤ big + 4)
    · exact (h.word hS he).2) (by rw [List.length_map]; exact l) (by decide) (by decide)
  rw [List.map_map] at z
  exact z
theorem Wds.short {S : Str} {m n : Nat} {ws : List We} (hS : Sym S) (h : Wds S m n ws) : ∀ r ∈ ws.map wordK, ∀ z, .inr z ∈ r → z.length ≤ 1000000 := fun r hr z hz => by
  obtain ⟨e, he, rfl⟩ := List.mem_map.mp hr
  unfold wordK at hz
  simp only [List.mem_cons, List.mem_nil_iff, or_false] at hz
  rcases hz with hz | hz | hz | hz
  · cases hz
  · injection hz with hz
    subst hz
    show 1 ≤ 1000000
    decide
  · cases hz
  · injection hz with hz
    subst hz
    have := (lf_str.mp (h.word hS he).2).1
    omega
theorem Stp.ms {k m : Nat} {rows : List (List Nat)} (h : Stp k m rows) (hm : m ≤ 3) (hk : k ≤ 4) (l : rows.length ≤ 3) : Ta 40 4 2 (stepsD rows) ∧ nodes (stepsD rows) ≤ 16 := by
  have z := rows_ms (c := 4) (l := 3) (rows := rows.map numsK) (fun r hr => by
    obtain ⟨zs, hz, rfl⟩ := List.mem_map.mp hr
    obtain ⟨h1, h2⟩ := h.row zs hz
    refine ⟨by unfold numsK; rw [List.length_map]; omega, fun x hx => ?_⟩
    obtain ⟨y, hy, rfl⟩ := List.mem_map.mp hx
    have := h2 y hy
    have hb : 3 ≤ big := by decide
    exact decide_eq_true (by omega : (y : Int).natAbs ≤ big + 4)) (by rw [List.length_map]; exact l) (by decide) (by decide)
  rw [List.map_map] at z
  exact z
/-- words gathered so far -/
structure Acc (K : PySem.W.Frag) (S : Str) (m n : Nat) (p W : Addr) (Hb : Hp) (n0 L B : Nat) (H : Hp) (vs : List V) (ws : List We) : Prop where
  at_ : H W = some (.lst vs)
  tabs : Tabs K H vs (ws.map wordK)
  wds : Wds S m n ws
  bound : ∀ e ∈ ws, e.1.rk < (B : Int)
  few : ws.length ≤ L
  pot : Pot H p (n0 + 2 * L)
  old : But p Hb H
theorem Acc.more {K : PySem.W.Frag} {S : Str} {m n : Nat} {p W : Addr} {Hb H : Hp} {n0 L L' B B' : Nat} {vs : List V} {ws : List We} (h : Acc K S m n p W Hb n0 L B H vs ws) (l : L ≤ L') (b : B ≤ B') : Acc K S m n p W Hb n0 L' B' H vs ws :=
  ⟨h.at_, h.tabs, h.wds, fun e he => by have := h.bound e he; omega, Nat.le_trans h.few l, h.pot.more (by omega), h.old⟩
theorem Acc.step {K : PySem.W.Frag} {S : Str} {m n : Nat} {p W : Addr} {Hb H H' : Hp} {n0 L B : Nat} {vs : List V} {ws : List We} (h : Acc K S m n p W Hb n0 L B H vs ws) (nW : W ≠ p) (b : But p H H') (hp : Pot H' p (n0 + 2 * (L + 1))) : Acc K S m n p W Hb n0 (L + 1) (B + 1) H' vs ws :=
  ⟨b _ _ h.at_ nW, h.tabs.but b h.pot.is, h.wds, fun e he => by have := h.bound e he; omega, Nat.le_succ_of_le h.few, hp, h.old.trans b⟩
theorem Acc.push {K : PySem.W.Frag} {S : Str} {m n : Nat} {p W r : Addr} {Hb H : Hp} {n0 L B : Nat} {vs : List V} {ws : List We} {e : We} (h : Acc K S m n p W Hb n0 (L + 1) (B + 1) H vs ws) (hb : ∀ x ∈ ws, x.1.rk < (B : Int)) (few : ws.length ≤ L) (nW : W ≠ p) (hW : Hb W = none) (hr : H r = some (.tup ((wordK e).map kV))) (he : e.1.rk = (B : Int))
    (ok : e.1.i < m ∧ e.1.c ∈ tl S ∧ e.1.j < n ∧ (e.2 = "x" ∨ e.2 = "y" ∨ e.2 = "xx" ∨ e.2 = sgn e.1.c)) : Acc K S m n p W Hb n0 (L + 1) (B + 1) (upd H W (.lst (vs ++ [.ref r]))) (vs ++ [.ref r]) (ws ++ [e]) := by
  refine ⟨upd_same, ?_, ⟨?_, fun x hx => ?_⟩, fun x hx => ?_, by rw [List.length_append, List.length_singleton]; omega, ?_, fun b o z nb => ?_⟩
  · rw [List.map_append]
    exact (h.tabs.snoc (b := r) (r := wordK e) (.inl (.inl hr))).but But.upd ⟨_, h.at_⟩
  · refine List.pairwise_append.mpr ⟨h.wds.pw, List.pairwise_singleton _ _, fun a ha b hb' => ?_⟩
    rw [List.mem_singleton.mp hb', he]
    exact hb a ha
  · rcases List.mem_append.mp hx with hx | hx
    · exact h.wds.ok x hx
    · rw [List.mem_singleton.mp hx]
      exact ok
  · rcases List.mem_append.mp hx with hx | hx
    · exact h.bound x hx
    · rw [List.mem_singleton.mp hx, he]
      omega
  · obtain ⟨o, b, c, e, r⟩ := h.pot
    exact ⟨o, b, c, by rw [upd_ne nW.symm]; exact e, r⟩
  · rw [upd_ne (ne_of_none z hW)]
    exact h.old _ _ z nb
/-- behind so many symbols -/
def lo (S : Str) (b : Nat) : Nat := if b = 0 then 0 else (tl S).getD (b - 1) 0 * 64 + 64
theorem lo_le {S : Str} (hS : Sym S) {b c : Nat} (h : (tl S)[b]? = some c) : lo S b ≤ c * 64 := by
  unfold lo
  by_cases e : b = 0
  · rw [if_pos e]
    omega
  · rw [if_neg e]
    obtain ⟨hb, hc⟩ := List.getElem?_eq_some_iff.mp h
    have h1 : b - 1 < (tl S).length := by omega
    have e1 : (tl S).getD (b - 1) 0 = (tl S)[b - 1] := by rw [List.getD_eq_getElem?_getD, List.getElem?_eq_getElem h1]; rfl
    have := List.pairwise_iff_getElem.mp hS.pw (b - 1) b h1 hb (by omega)
    rw [e1]
    omega
theorem lo_next {S : Str} {b c : Nat} (h : (tl S)[b]? = some c) : lo S (b + 1) = c * 64 + 64 := by
  unfold lo
  rw [if_neg (by omega), Nat.add_sub_cancel, List.getD_eq_getElem?_getD, h]
  rfl
theorem lo_top {S : Str} (hS : Sym S) : lo S S.length ≤ 8192 := by
  unfold lo
  have h2 := hS.two
  have e := len_tl S
  have h1 : S.length - 1 < (tl S).length := by omega
  rw [if_neg (by omega), List.getD_eq_getElem?_getD, List.getElem?_eq_getElem h1]
  have := hS.low _ (List.getElem_mem h1)
  show (tl S)[S.length - 1] * 64 + 64 ≤ 8192
  omega
theorem rk_of (a c j : Nat) : (⟨a, c, j⟩ : Tri).rk = ((a * 8192 + c * 64 + j : Nat) : Int) := by
  unfold Tri.rk
  dsimp only
  omega
abbrev s__law_drawn_writer : Stmt := top 48
abbrev sc__law_drawn_writerN : List Str := ["_law_pot", "_law_symbols", "_law_most", "_law_lefts", "_law_rights", "_law_first", "_law_words", "_law_left", "_law_symbol", "_law_right_here"]
theorem sc__law_drawn_writer : FnScope sc__law_drawn_writerN ["_law_pot", "_law_symbols", "_law_most"] (defScope s__law_drawn_writer) := ⟨rfl, rfl, rfl, by decide +kernel, rfl, by decide +kernel, by decide +kernel⟩
def spDraw (K : PySem.W.Frag) : Sp := fun vs H Q _ => ∃ (p : Addr) (n : Nat) (S : Str), vs = [.ref p, .str S, .int 3] ∧ Sym S ∧ Pot H p n ∧ n + 200 < 100000 ∧
  ∀ (y : V) (d : PyData) (H' : Hp), Pot H' p (n + 150) → But p H H' → Dv K (hid [p] H') y d → formOk S d = true → Ms 40 4 3 240 d → Q y H'
section
variable {P : Program} {w : World} {K : PySem.W.Frag} {mg : Str → Option Value} {base : Heap}
theorem ok_draw {f : Addr} {fd : FuncData} (F : Fun K "_law_drawn_writer" "_law_drawn_writer" s__law_drawn_writer f fd) (T : Bare mg) (CT : Callee P w K mg base 1 "_law_take" ["_law_pot", "_law_upto"] spTake) (CO : Callee P w K mg base 2 "_law_of" ["_law_pot", "_law_some"] (spOf K))
    (CS : Callee P w K mg base 2 "_law_steps" ["_law_pot", "_law_many", "_law_upto"] (spSteps K)) (CD : Callee P w K mg base 3 "_law_said" ["_law_pot", "_law_upto"] (spSaid K)) : FnOk P w K mg base CX0 4 f fd ["_law_pot", "_law_symbols", "_law_most"] (spDraw K) := by
  refine F.ok sc__law_drawn_writer (fun vs H Q E h => ?_) (fun cdv A outer st H vs Q E hr h => ?_)
  · obtain ⟨p, n, S, rfl, _⟩ := h
    rfl
  obtain ⟨p, n, S, rfl, hS, hp, hn, q⟩ := h
  refine ⟨_, (pss_cons (ps_set (i := 3) sc__law_drawn_writer.nd rfl (Or.inl rfl) (pe_call CS.ok (hr.mono (by decide)) rfl CS.mg CS.kp CS.b .nil pass0 (pa_cons (pv 0) (pa_cons (pe_op op_add pe_int (pe_call CT.ok (hr.mono (by decide)) rfl CT.mg CT.kp CT.b .nil pass0 (pa_cons (pv 0) (pa_cons (pv 2) pa_nil)))) (pa_cons (pe_callB call_lenS (by rfl) T.len PySem.boot_len (pa_cons (pv 1) pa_nil)) pa_nil)))))
(pss_cons (ps_set (i := 4) sc__law_drawn_writer.nd rfl (Or.inl rfl) (pe_call CS.ok (hr.mono (by decide)) rfl CS.mg CS.kp CS.b .nil pass0 (pa_cons (pv 0) (pa_cons (pe_op op_add pe_int (pe_call CT.ok (hr.mono (by decide)) rfl CT.mg CT.kp CT.b .nil pass0 (pa_cons (pv 0) (pa_cons (pv 2) pa_nil)))) (pa_cons (pe_callB call_lenS (by rfl) T.len PySem.boot_len (pa_cons (pv 1) pa_nil)) pa_nil)))))
(pss_cons (ps_par (i := 5) (j := 6) (by rfl) sc__law_drawn_writer.nd rfl rfl (by decide) rfl rfl (pa_cons (pe_call CD.ok hr rfl CD.mg CD.kp CD.b .nil pass0 (pa_cons (pv 0) (pa_cons (pe_callB call_len_seq (by rfl) T.len PySem.boot_len (pa_cons (pv 4) pa_nil)) pa_nil))) (pa_cons (pe_lst pa_nil) pa_nil)) (by rfl))
(pss_cons (ps_for PassesOwn.never rfl (pi_range1 (by rfl) T.range (pa_cons (pe_callB call_len_seq (by rfl) T.len PySem.boot_len (pa_cons (pv 3) pa_nil)) pa_nil)) (pg_name (i := 7) sc__law_drawn_writer.nd rfl (Or.inl rfl))
(pss_one (ps_for PassesOwn.never rfl (pi_str (pv 1)) (pg_name (i := 8) sc__law_drawn_writer.nd rfl (Or.inl rfl))
(pss_one (ps_for PassesOwn.never rfl (pi_range1 (by rfl) T.range (pa_cons (pe_callB call_len_seq (by rfl) T.len PySem.boot_len (pa_cons (pv 4) pa_nil)) pa_nil)) (pg_name (i := 9) sc__law_drawn_writer.nd rfl (Or.inl rfl))
(pss_one (ps_if (pt_cmpR op_gt (pe_call CT.ok (hr.mono (by decide)) rfl CT.mg CT.kp CT.b .nil pass0 (pa_cons (pv 0) (pa_cons pe_int pa_nil))) pe_int (nomark _))
(pss_one (ps_expr (pe_bm PySem.F.plainAttrs_list PySem.F.slot_list_append PySem.F.type_list_append mt_append (pv 6) (pa_cons (pe_tup (pa_cons (pv 7) (pa_cons (pv 8) (pa_cons (pv 9) (pa_cons (pe_call CO.ok (hr.mono (by decide)) rfl CO.mg CO.kp CO.b .nil pass0 (pa_cons (pv 0) (pa_cons (pe_lst (pa_cons pe_str (pa_cons pe_str (pa_cons pe_str (pa_cons (pv 8) pa_nil))))) pa_nil))) pa_nil))))) pa_nil))))
pss_nil)))))))
(pss_one (ps_ret (pe_tup (pa_cons (pv 3) (pa_cons (pv 4) (pa_cons (pv 5) (pa_cons (pe_callTy call_tuple_of (by rfl) T.tuple (by decide +kernel) (pa_cons (pv 6) pa_nil)) (pa_cons (pe_call CD.ok hr rfl CD.mg CD.kp CD.b .nil pass0 (pa_cons (pv 0) (pa_cons (pe_callB call_len_seq (by rfl) T.len PySem.boot_len (pa_cons (pv 3) pa_nil)) pa_nil))) pa_nil)))))))))))), ?_⟩
  have kS : S.length ≤ sizeLine := small (Nat.le_trans hS.four (by decide))
  have k4 := hS.four
  refine ⟨.ref p, rfl, .ref p, rfl, _, rfl, p, 3, n, rfl, hp, by omega, by decide, by decide, fun c H1 c0 c1 hp1 b1 => ⟨1, c, rfl, rfl, .str S, rfl, S, rfl, kS, ?_⟩⟩
  obtain ⟨m, rfl⟩ : ∃ m : Nat, c = m := ⟨c.toNat, by omega⟩
  refine ⟨p, n + 1, 1 + m, S.length, by show [V.ref p, V.int ((1 : Int) + (m : Int)), V.int (S.length : Int)] = _; rw [show (1 : Int) + (m : Int) = ((1 + m : Nat) : Int) by omega], hp1, by omega, by omega, by omega, k4, fun vl rl H2 hp2 b2 dl sl ll => ?_⟩
  refine ⟨.ref p, rfl, .ref p, rfl, _, rfl, p, 3, _, rfl, hp2, by omega, by decide, by decide, fun c H3 c0' c1' hp3 b3 => ⟨1, c, rfl, rfl, .str S, rfl, S, rfl, kS, ?_⟩⟩
  obtain ⟨u, rfl⟩ : ∃ u : Nat, c = u := ⟨c.toNat, by omega⟩
  refine ⟨p, _, 1 + u, S.length, by show [V.ref p, V.int ((1 : Int) + (u : Int)), V.int (S.length : Int)] = _; rw [show (1 : Int) + (u : Int) = ((1 + u : Nat) : Int) by omega], hp3, by omega, by omega, by omega, k4, fun vr rr H4 hp4 b4 dr sr lr => ?_⟩
  have b04 := ((b1.trans b2).trans b3).trans b4
  have dl4 := dl.same (But.hid (b3.trans b4) (List.mem_singleton.mpr rfl))
  obtain ⟨al, xl, rfl, ql, lxl, _⟩ := dv_items dl4
  obtain ⟨ar, xr, rfl, qr, lxr, _⟩ := dv_items dr
  rw [List.length_map] at lxl lxr
  refine ⟨.ref p, rfl, .ref ar, rfl, ar, xr, rfl, .inr (same_sqT hid_same qr), p, _, 1 + u, by show [V.ref p, V.int ((xr.length : Nat) : Int)] = _; rw [lxr, lr], hp4, by omega, by omega, fun vf mf H5 hp5 b5 df sf lf => ⟨small (by show 0 ≤ 1000; decide), fun W hW => ?_⟩⟩
  have hp5' := hp5
  obtain ⟨n0, en0⟩ : ∃ n0, n0 = n + 1 + 12 + 1 + 12 + 6 := ⟨_, rfl⟩
  rw [← en0] at hp5
  have nW := hp5.ne hW
  have b05 := b04.trans b5
  have keep : ∀ {H6 : Hp} {a : Addr} {xs : List V}, But p H5 H6 → SqT K (hid [p] H4) a xs → SqT K H6 a xs := fun b h => same_sqT hid_same (same_sqT (But.hid (b5.trans b) (List.mem_singleton.mpr rfl)) h)
  have acc0 : Acc K S (1 + m) (1 + u) p W H5 n0 0 0 (upd H5 W (.lst [])) [] [] := ⟨upd_same, .nil, ⟨.nil, fun e h => (nomatch h)⟩, fun e h => (nomatch h), Nat.le_refl _, hp5.new hW _, But.of_same (same_new hW _)⟩
  refine ⟨_, _, rfl, .ref al, rfl, al, xl, rfl, .inr (keep (But.of_same (same_new hW _)) ql), (xl.length : Int), rfl, by omega, by omega, for_range (lo := 0) (n := xl.length) (fun a σ H' => ∃ (x7 x8 x9 : Option V) (vs : List V) (ws : List We), σ = [some (.ref p), some (.str S), some (.int 3), some (.ref al), some (.ref ar), some vf, some (.ref W), x7, x8, x9] ∧ Acc K S (1 + m) (1 + u) p W H5 n0 (12 * a) (a * 8192) H' vs ws) ?_ ?_ ?_⟩
  · exact ⟨none, none, none, [], [], rfl, acc0.more (by omega) (by omega)⟩
  · rintro a σ H6 ha ⟨x7, x8, x9, vs, ws, rfl, acc⟩
    refine ⟨_, rfl, S, rfl, for_it (walk_str (z := S)) (fun b σ H' => ∃ (x8 x9 : Option V) (vs : List V) (ws : List We), σ = [some (.ref p), some (.str S), some (.int 3), some (.ref al), some (.ref ar), some vf, some (.ref W), some (.int ((0 : Int) + (a : Int))), x8, x9] ∧ Acc K S (1 + m) (1 + u) p W H5 n0 (12 * a + 3 * b) (a * 8192 + lo S b) H' vs ws) ?_ ?_ ?_ ?_⟩
    · exact ⟨x8, x9, vs, ws, rfl, acc.more (by omega) (by omega)⟩
    · exact fun _ _ _ _ _ => trivial
    · rintro b v σ H7 H7' hb ⟨x8, x9, vs, ws, rfl, acc⟩ ⟨rfl, c, hc, rfl⟩
      have hc' : (tl S)[b]? = some c := by rw [Array.getElem?_toList]; exact hc
      have hcm := List.mem_of_getElem? hc'
      have hlo := lo_le hS hc'
      have hlow := hS.low c hcm
      have hb4 : b < S.length := hb
      refine ⟨.ref ar, rfl, ar, xr, rfl, .inr (keep acc.old qr), (xr.length : Int), rfl, by omega, by omega, for_range (lo := 0) (n := xr.length) (fun j σ H' => ∃ (x9 : Option V) (vs : List V) (ws : List We), σ = [some (.ref p), some (.str S), some (.int 3), some (.ref al), some (.ref ar), some vf, some (.ref W), some (.int ((0 : Int) + (a : Int))), some (.str ⟨#[c]⟩), x9] ∧ Acc K S (1 + m) (1 + u) p W H5 n0 (12 * a + 3 * b + j) (a * 8192 + c * 64 + j) H' vs ws) ?_ ?_ ?_⟩
      · exact ⟨x9, vs, ws, rfl, acc.more (by omega) (by omega)⟩
      · rintro j σ H8 hj ⟨x9, vs, ws, rfl, acc⟩
        have lv : vs.length = ws.length := by rw [acc.tabs.len, List.length_map]
        have hf := acc.few
        refine ⟨.ref p, rfl, p, 3, _, rfl, acc.pot, by omega, by decide, by decide, fun g H9 g0 g1 hp9 b9 => ⟨g, 0, rfl, rfl, _, rfl, ite2 (fun _ => ?_) (fun _ => ?_)⟩⟩
        · have hW9 := b9 _ _ acc.at_ nW
          refine ⟨.ref W, rfl, .inl ⟨rfl, _, .inl (.inl hW9)⟩, _, rfl, _, rfl, _, rfl, .ref p, rfl, _, rfl, small (by show 4 ≤ 1000; decide), fun l hl0 => ⟨p, l, [.str "x", .str "y", .str "xx", .str ⟨#[c]⟩], _, rfl, hp9.new hl0 _, by omega, .inl (.inl upd_same), hp9.ne hl0, (by show 0 < 4; decide), (by show 4 < 1000; decide), fun i2 v H10 hv hp10 b10 => ⟨small (by show 4 ≤ 1000; decide), fun r hr2 => ?_⟩⟩⟩
          obtain ⟨w1, rfl, hw⟩ : ∃ w1, v = .str w1 ∧ (w1 = "x" ∨ w1 = "y" ∨ w1 = "xx" ∨ w1 = sgn c) := by
            have := List.mem_of_getElem? hv
            simp only [List.mem_cons, List.mem_nil_iff, or_false] at this
            rcases this with rfl | rfl | rfl | rfl
            · exact ⟨_, rfl, .inl rfl⟩
            · exact ⟨_, rfl, .inr (.inl rfl)⟩
            · exact ⟨_, rfl, .inr (.inr (.inl rfl))⟩
            · exact ⟨_, rfl, .inr (.inr (.inr rfl))⟩
          have B10 : But p H8 H10 := b9.trans (same_but (same_new hl0 _) b10)
          have sr2 := same_new hr2 (.tup [V.int ((0 : Int) + (a : Int)), V.str ⟨#[c]⟩, V.int ((0 : Int) + (j : Int)), V.str w1])
          have hr3 : upd H10 r (.tup [V.int ((0 : Int) + (a : Int)), V.str ⟨#[c]⟩, V.int ((0 : Int) + (j : Int)), V.str w1]) r = some (.tup [V.int ((0 : Int) + (a : Int)), V.str ⟨#[c]⟩, V.int ((0 : Int) + (j : Int)), V.str w1]) := upd_same
          have hp11 := hp10.same sr2
          have B11 := B10.trans (But.of_same sr2)
          generalize upd H10 r (.tup [V.int ((0 : Int) + (a : Int)), V.str ⟨#[c]⟩, V.int ((0 : Int) + (j : Int)), V.str w1]) = H11 at sr2 hr3 hp11 B11 ⊢
          rw [Int.zero_add, Int.zero_add] at hr3
          have acc' := acc.step nW B11 (hp11.more (by omega))
          refine ⟨W, vs, _, rfl, rfl, acc'.at_, Nat.lt_of_lt_of_le (by omega : vs.length < 10001) (by rw [sizeLine_eq]; decide), ?_⟩
          exact ⟨_, _, _, rfl, acc'.push (e := (⟨a, c, j⟩, w1)) acc.bound acc.few nW hW hr3 (rk_of a c j) ⟨show a < 1 + m by omega, hcm, show j < 1 + u by omega, hw⟩⟩
        · exact ⟨_, _, _, rfl, acc.step nW b9 (hp9.more (by omega))⟩
      · rintro σ H8 ⟨x9, vs, ws, rfl, acc⟩
        have e := lo_next hc'
        exact ⟨_, _, _, _, rfl, acc.more (by omega) (by omega)⟩
    · rintro σ H7 ⟨x8, x9, vs, ws, rfl, acc⟩
      have e := lo_top hS
      have e2 : S.cps.size = S.length := rfl
      rw [e2] at acc
      exact ⟨_, _, _, _, _, rfl, acc.more (by omega) (by omega)⟩
  · rintro σ H6 ⟨x7, x8, x9, vs, ws, rfl, acc⟩
    have hsz : xl.length ≤ 3 := by omega
    refine ⟨_, rfl, _, rfl, vf, rfl, .ref W, rfl, W, vs, rfl, .inl ⟨.inl (.inl acc.at_), fun t ht => ?_⟩⟩
    have st := same_new ht (.tup vs)
    have b57 := acc.old.trans (But.of_same st)
    have hp7 := acc.pot.same st
    refine ⟨.ref p, rfl, .ref al, rfl, al, xl, rfl, .inr (keep b57 ql), p, _, 1 + m, by show [V.ref p, V.int ((xl.length : Nat) : Int)] = _; rw [lxl, ll], hp7, by omega, by omega, fun ve me H8 hp8 b8 de se le => ⟨small (by show 5 ≤ 1000; decide), fun r hr2 => ?_⟩⟩
    have sr2 := same_new hr2 (.tup [V.ref al, V.ref ar, vf, V.ref t, ve])
    have b58 := b57.trans b8
    have hS8 : ∀ {d : PyData} {v : V}, Dv K (hid [p] H8) v d → Dv K (hid [p] (upd H8 r (.tup [V.ref al, V.ref ar, vf, V.ref t, ve]))) v d := fun h => h.same (Same.hid sr2)
    have dw : Dv K (hid [p] H8) (.ref t) (wordsD ws) := by
      have d := (acc.tabs.dv acc.pot (acc.wds.short hS)).same (Same.hid (l := [p]) st)
      rw [List.map_map] at d
      exact Dv.same (But.hid b8 (List.mem_singleton.mpr rfl)) (.tup (.inl (.inl (hid_new acc.pot ht))) d)
    have dl8 := dl4.same (But.hid (b5.trans b58) (List.mem_singleton.mpr rfl))
    have dr8 := dr.same (But.hid (b5.trans b58) (List.mem_singleton.mpr rfl))
    have df8 := df.same (But.hid b58 (List.mem_singleton.mpr rfl))
    have el : lenD (stepsD rl) = 1 + m := by
      show (rl.map fun r => rowD (numsK r)).length = _
      rw [List.length_map, ll]
    have er : lenD (stepsD rr) = 1 + u := by
      show (rr.map fun r => rowD (numsK r)).length = _
      rw [List.length_map, lr]
    have fewW := acc.few
    refine q (.ref r) (.tuple [stepsD rl, stepsD rr, saidD mf, wordsD ws, saidD me]) _ ((hp8.same sr2).more (by omega)) ((b05.trans b58).trans (But.of_same sr2)) (.tup (.inl (.inl (hid_new hp8 hr2))) (.cons (hS8 dl8) (.cons (hS8 dr8) (.cons (hS8 df8) (.cons (hS8 dw) (.cons (hS8 de) .nil)))))) ?_ ?_
    · show (movesOk S.length (stepsD rl) && (movesOk S.length (stepsD rr) && (marksOk (lenD (stepsD rr)) (saidD mf) && (marksOk (lenD (stepsD rl)) (saidD me) && placesOk S (lenD (stepsD rl)) (lenD (stepsD rr)) (wordsD ws))))) = true
      rw [el, er, sl.moves ll (by omega), sr.moves lr (by omega), sf.marks, se.marks, acc.wds.places hS]
      rfl
    · obtain ⟨t1, z1⟩ := sl.ms (by omega) k4 (by omega)
      obtain ⟨t2, z2⟩ := sr.ms (by omega) k4 (by omega)
      obtain ⟨t3, z3⟩ := sf.ms (by omega) (by omega)
      obtain ⟨t4, z4⟩ := acc.wds.ms hS (by omega) (by omega) (by omega)
      obtain ⟨t5, z5⟩ := se.ms (by omega) (by omega)
      refine Ms.tup (fun d hd => ?_) (by show 5 ≤ 40; decide) ?_
      · simp only [List.mem_cons, List.mem_nil_iff, or_false] at hd
        rcases hd with rfl | rfl | rfl | rfl | rfl
        · exact t1
        · exact t2
        · exact t3
        · exact t4
        · exact t5
      · rw [nodes_cons, nodes_cons, nodes_cons, nodes_cons, nodes_cons, nodes_nil]
        omega
end
end Fh
set_option Elab.async false
set_option linter.all false
set_option maxRecDepth 100000
set_option maxHeartbeats 4000000
namespace Fh
open PySem L2 TL
/-! ### _law_bare -/
def bareZ (S : Str) : Str := (("symbols " : Str) ++ S) ++ ("\nmain\n  stop" : Str)
def bareRows (S : Str) : List Row := [symRow S, mainRow, (1, [("stop" : Str)])]
def three : List Str := ["ab", "abc", "bdxz"]
theorem sym3 : ∀ S ∈ three, 2 ≤ S.length ∧ S.length ≤ 4 ∧ (tl S).Pairwise (· < ·) ∧ (∀ c ∈ tl S, 97 ≤ c ∧ c ≤ 122) := by decide +kernel
theorem sym_of {S : Str} (h : S ∈ three) : Sym S := by
  obtain ⟨a, b, c, d⟩ := sym3 S h
  exact ⟨a, b, c, d⟩
theorem row3 : ∀ S ∈ three, bareZ S = Txt.join nl ((bareRows S).map lineOf) ∧ (bareZ S).length ≤ 10000 ∧ (∀ r ∈ bareRows S, (lineOf r).length ≤ 10000 ∧ 10 ∉ tl (lineOf r) ∧ r.2 ≠ [] ∧ ∀ x ∈ r.2, tl x ≠ [] ∧ 32 ∉ tl x ∧ PyData.strOk x = true) := by decide +kernel
theorem ord3 : ∀ S ∈ three, (places S alpha).Pairwise (· < ·) ∧ ∀ x ∈ places S alpha, 0 ≤ x := by decide +kernel
theorem bare_ok {S : Str} (h : S ∈ three) : TextOk S [] [] [(1, [("stop" : Str)])] 1 (bareRows S) (bareZ S) := by
  obtain ⟨e1, e2, e3⟩ := row3 S h
  obtain ⟨a, b, _, _⟩ := sym3 S h
  obtain ⟨o1, o2⟩ := ord3 S h
  refine ⟨⟨rfl, fun r hr => ⟨(e3 r hr).2.2.1, fun x hx => ⟨((e3 r hr).2.2.2 x hx).1, ((e3 r hr).2.2.2 x hx).2.1⟩, fun x hx => ((e3 r hr).2.2.2 x hx).2.2⟩, a, b, ⟨o1, o2⟩, Nat.zero_le _, fun c hc => (nomatch hc), Nat.zero_le _, fun z hz => (nomatch hz), List.nodup_nil, fun done q rest e => ?_, fun ss hss => ?_, by decide⟩, e1, e2, by show 3 ≤ 1000; decide, fun r hr => (e3 r hr).1, fun r hr => (e3 r hr).2.1⟩
  · cases done <;> cases e
  · exact .one 1 _ 1 (.plain 1 "stop" [] .stop (by decide +kernel) (by decide +kernel) (by decide))
theorem Eng.but {CP g p : Addr} {H H' : Hp} {S : Str} {n : Nat} (h : Eng CP H g S) (hp : Pot H p n) (b : But p H H') : Eng CP H' g S := by
  obtain ⟨dx, z, c, q, t, fi, r, e⟩ := h
  obtain ⟨u, hp⟩ := hp.is
  exact ⟨dx, z, c, q, t, fi, r, b _ _ e fun z => by
    rw [z, hp] at e
    cases e⟩
theorem Eng.same {CP g : Addr} {H H' : Hp} {S : Str} (h : Eng CP H g S) (s : Same H H') : Eng CP H' g S := by
  obtain ⟨dx, z, c, q, t, fi, r, e⟩ := h
  exact ⟨dx, z, c, q, t, fi, r, s _ _ e⟩
/-- all but the pot, and statements, is as it was -/
def KeepR (CS p : Addr) (H H' : Hp) : Prop := ∀ b o, H b = some o → b ≠ p → (∀ dx fs, o ≠ .ins CS dx fs) → H' b = some o
theorem KeepR.trans {CS p : Addr} {H H1 H2 : Hp} (a : KeepR CS p H H1) (b : KeepR CS p H1 H2) : KeepR CS p H H2 := fun c o h n m => b c o (a c o h n m) n m
theorem KeepR.of_but {CS p : Addr} {H H' : Hp} (s : But p H H') : KeepR CS p H H' := fun b o h n _ => s b o h n
abbrev s__law_bare : Stmt := top 49
abbrev sc__law_bareN : List Str := ["_law_pot", "_law_symbols"]
theorem sc__law_bare : FnScope sc__law_bareN ["_law_pot"] (defScope s__law_bare) := ⟨rfl, rfl, rfl, by decide +kernel, rfl, by decide +kernel, by decide +kernel⟩
def spBare (CP CS : Addr) : Sp := fun vs H Q _ => ∃ (p : Addr) (n : Nat), vs = [.ref p] ∧ Pot H p n ∧ n + 10 < 100000 ∧
  ∀ (t g : Addr) (S : Str) (H' : Hp), Pot H' p (n + 1) → KeepR CS p H H' → H' t = some (.tup [.str S, .ref g]) → Eng CP H' g S → Sym S → Q (.ref t) H'
section
variable {P : Program} {w : World} {K : PySem.W.Frag} {mg : Str → Option Value} {base : Heap}
theorem ok_bare {f CP CS : Addr} {fd : FuncData} (F : Fun K "_law_bare" "_law_bare" s__law_bare f fd) (CO : Callee P w K mg base 2 "_law_of" ["_law_pot", "_law_some"] (spOf K)) (MG : Maker P w K mg base CP 17 "Program" ["self", "text"] (spGInit CP CS)) : FnOk P w K mg base CX0 19 f fd ["_law_pot"] (spBare CP CS) := by
  refine F.ok sc__law_bare (fun vs H Q E h => ?_) (fun cdv A outer st H vs Q E hr h => ?_)
  · obtain ⟨p, n, rfl, _⟩ := h
    rfl
  obtain ⟨p, n, rfl, hp, hn, q⟩ := h
  refine ⟨_, (pss_cons (ps_set (i := 1) sc__law_bare.nd rfl (Or.inl rfl) (pe_call CO.ok (hr.mono (by decide)) rfl CO.mg CO.kp CO.b .nil pass0 (pa_cons (pv 0) (pa_cons (pe_lst (pa_cons pe_str (pa_cons pe_str (pa_cons pe_str (pa_cons pe_str pa_nil))))) pa_nil))))
(pss_one (ps_ret (pe_tup (pa_cons (pv 1) (pa_cons (pe_make MG.mkr MG.ok hr rfl MG.mg MG.b .nil pass0 (pa_cons (pe_op op_add_str (pe_op op_add_str pe_str (pv 1)) pe_str) pa_nil)) pa_nil)))))), ?_⟩
  refine ⟨.ref p, rfl, small (by show 4 ≤ 1000; decide), fun l hl => ⟨p, l, [.str "ab", .str "ab", .str "abc", .str "bdxz"], n, rfl, hp.new hl _, by omega, .inl (.inl upd_same), hp.ne hl, (by show 0 < 4; decide), (by show 4 < 1000; decide), fun i v H1 hv hp1 b1 => ?_⟩⟩
  obtain ⟨S, rfl, hS⟩ : ∃ S, v = .str S ∧ S ∈ three := by
    have := List.mem_of_getElem? hv
    simp only [List.mem_cons, List.mem_nil_iff, or_false] at this
    rcases this with rfl | rfl | rfl | rfl
    · exact ⟨_, rfl, .head _⟩
    · exact ⟨_, rfl, .head _⟩
    · exact ⟨_, rfl, .tail _ (.head _)⟩
    · exact ⟨_, rfl, .tail _ (.tail _ (.head _))⟩
  have b01 := same_but (same_new hl _) b1
  have sy := sym_of hS
  have l4 := sy.four
  have lz : (("symbols " : Str) ++ S).length = 8 + S.length := by
    show (("symbols " : Str).cps ++ S.cps).size = _
    rw [Array.size_append]
    rfl
  refine ⟨_, rfl, _, rfl, _, _, rfl, rfl, by rw [sizeLine_eq]; show 8 + S.length ≤ _; omega, _, _, rfl, rfl, by rw [sizeLine_eq, lz]; show 8 + S.length + 12 ≤ _; omega, fun x dx hx hdx hne => ⟨x, dx, S, [], [], _, 1, bareRows S, bareZ S, rfl, upd_same, bare_ok hS, fun H3 k3 P3 => ⟨rfl, small (by show 2 ≤ 1000; decide), fun r hr2 => ?_⟩⟩⟩
  have s3 : Same H1 (upd (upd H1 dx (.own x)) x (.ins CP dx [])) := (same_new hdx _).trans (same_new (by rw [upd_ne hne.symm]; exact hx) _)
  have k13 : ∀ b o, H1 b = some o → (∀ dx fs, o ≠ .ins CS dx fs) → H3 b = some o := fun b o h ni => k3 _ _ (s3 _ _ h) (ne_of_none h hx) ni
  have hp3 : Pot H3 p (n + 1) := by
    obtain ⟨o, b, c, e, r⟩ := hp1
    exact ⟨o, b, c, k13 _ _ e (by intro _ _ z; cases z), r⟩
  have sr := same_new hr2 (.tup [.str S, .ref x])
  obtain ⟨dx', c, qq, t, r', fi, as, e, _⟩ := P3.it
  exact q r x S _ (hp3.same sr) (fun b o h nb ni => sr _ _ (k13 _ _ (b01 _ _ h nb) ni)) upd_same ⟨dx', _, c, qq, t, fi, r', sr _ _ e⟩ sy
end
end Fh
set_option Elab.async false
set_option linter.all false
set_option maxRecDepth 100000
set_option maxHeartbeats 4000000
namespace Fh
open PySem PySem.Spec PyProof.Rows L2 TL
/-! ### _law_asked_right -/
theorem Ms.dok2 {w s M g : Nat} {d : PyData} (h : Ms w s M g d) (hs : s ≤ 900) (hM : M ≤ 40) (hg : (s + 110) * g ≤ 380000) : Dok 16000000 40 d := by
  obtain ⟨a1, a2, a3, a4⟩ := h.ta.shy hs
  refine ⟨a2, by omega, ?_⟩
  have z := PyData.shown_le 40 (by decide) d a1
  have z2 : (s + 110) * nodes d ≤ (s + 110) * g := Nat.mul_le_mul_left _ h.sz
  omega
theorem n16 : 16000000 ≤ sizeLine := by rw [sizeLine_eq]; decide
theorem dok_bl (b : Bool) : Dok 16000000 40 (.bool b) := ⟨rfl, Nat.zero_le _, by
  cases b
  · show (5 : Nat) ≤ _
    decide
  · show (4 : Nat) ≤ _
    decide⟩
theorem Fun.kbinds2 {K : PySem.W.Frag} {x qual p1 p2 : Str} {st : Stmt} {f : Addr} {fd : FuncData} (F : Fun K x qual st f fd)
    (h : ∀ (kV doc pm : Value) (an : Option Addr) (cdv ct u v : Value), bindArgs (PySem.W.fnOf x qual (defArgs st) (defBody st) (defScope st) .none kV doc pm an cdv ct) ⟨[u, v], []⟩ = pure [(p1, u), (p2, v)] ∧
      bindArgs (PySem.W.fnOf x qual (defArgs st) (defBody st) (defScope st) .none kV doc pm an cdv ct) ⟨[u], [(p2, v)]⟩ = pure [(p1, u), (p2, v)] ∧
      bindArgs (PySem.W.fnOf x qual (defArgs st) (defBody st) (defScope st) .none kV doc pm an cdv ct) ⟨[], [(p2, v), (p1, u)]⟩ = pure [(p1, u), (p2, v)]) : KBinds K fd [p1, p2] [p2, p1] (fun us ws => us ++ ws.reverse) (fun us ws => us ++ ws.reverse) := by
  obtain ⟨oc, od, kV, doc, pm, an, cdv, ct, osl, rfl, lk, hcd⟩ := F.ex
  refine ⟨fun s us ws _ hl => ?_, fun r r2 => r.append r2.reverse⟩
  have hl : (us ++ ws.reverse).length = 2 := hl
  rw [List.length_append, List.length_reverse] at hl
  match us, ws, hl with
  | [u, v], [], _ => exact .of_eq (h kV doc pm an cdv ct u v).1
  | [u], [v], _ => exact .of_eq (h kV doc pm an cdv ct u v).2.1
  | [], [v, u], _ => exact .of_eq (h kV doc pm an cdv ct u v).2.2
  | _ :: _ :: _ :: _, _, e => exact absurd e (by simp only [List.length_cons]; omega)
  | _ :: _ :: _, _ :: _, e => exact absurd e (by simp only [List.length_cons]; omega)
  | _ :: _, _ :: _ :: _, e => exact absurd e (by simp only [List.length_cons]; omega)
  | [], _ :: _ :: _ :: _, e => exact absurd e (by simp only [List.length_cons]; omega)
  | [], [], e => exact absurd e (by decide)
  | [], [_], e => exact absurd e (by simp)
  | [_], [], e => exact absurd e (by simp)
theorem same_told (c : Bool) : PyData.eqvAll [.bool c, .bool c] [.bool c, .bool c] = true := by cases c <;> rfl
theorem bl_shape (a b : Bool) : SeqAt.shaped (.list [.bool a, .bool b]) = true := by cases a <;> cases b <;> decide +kernel
theorem shown_bl (c : Bool) : inV (.str (PyData.bool c).shown) [.str "True", .str "False"] = true := by cases c <;> decide +kernel
abbrev s__law_asked_right : Stmt := top 52
abbrev sc__law_asked_rightN : List Str := ["_law_engine", "_law_symbols", "_law_thing", "_law_shown", "_law_told"]
theorem sc__law_asked_right : FnScope sc__law_asked_rightN ["_law_engine", "_law_symbols", "_law_thing"] (defScope s__law_asked_right) := ⟨rfl, rfl, rfl, by decide +kernel, rfl, by decide +kernel, by decide +kernel⟩
def spAsked (K : PySem.W.Frag) (CP : Addr) : Sp := fun vs H Q _ => ∃ (g : Addr) (S : Str) (v : V) (d : PyData), vs = [.ref g, .str S, v] ∧ Eng CP H g S ∧ Plain S ∧ Dv K H v d ∧ Fit d ∧ Dok 16000000 40 d ∧ ∀ H', Same H H' → Q (.bl true) H'
section
variable {P : Program} {w : World} {K : PySem.W.Frag} {mg : Str → Option Value} {base : Heap}
theorem ok_asked {f CP : Addr} {fd : FuncData} (F : Fun K "_law_asked_right" "_law_asked_right" s__law_asked_right f fd) (C : Con K mg) (CW : Callee P w K mg base 6 "is_writer" ["program", "value"] (spWriter K CP)) (kb : KBinds K CW.fd ["program", "value"] ["value", "program"] (fun us ws => us ++ ws.reverse) (fun us ws => us ++ ws.reverse))
    (CL : Callee P w K mg base 3 "_law_is_writer" ["_law_symbols", "_law_thing"] (spForm K)) : FnOkG P w K mg base 7 f fd ["_law_engine", "_law_symbols", "_law_thing"] (spAsked K CP) := by
  refine Fun.okG F sc__law_asked_right (fun vs H Q E h => ?_) (fun cdv A outer st H vs Q E hgu hr h => ?_)
  · obtain ⟨g, S, v, d, rfl, _⟩ := h
    rfl
  obtain ⟨g, S, v, d, rfl, eng, pl, hd, hf, ok, q⟩ := h
  refine ⟨_, (pss_cons (ps_set (i := 3) sc__law_asked_right.nd rfl (Or.inl rfl) (pe_callB (call_reprV hgu hr.units) (by rfl) C.repr (by decide +kernel) (pa_cons (pv 2) pa_nil)))
(pss_cons (ps_set (i := 4) sc__law_asked_right.nd rfl (Or.inl rfl) (pe_lst (pa_cons (pe_call CW.ok hr rfl CW.mg CW.kp CW.b .nil pass0 (pa_cons (pv 0) (pa_cons (pv 2) pa_nil))) (pa_cons (pe_callK0 CW.ok hr rfl CW.mg CW.kp kb pass0 (pk_cons (pv 2) (pk_cons (pv 0) pk_nil))) pa_nil))))
(pss_one (ps_ret (pe_and (pe_cmpR (op_eqL hr.units) (pv 4) (pe_op op_rep (pe_lst (pa_cons (pe_call CL.ok (hr.mono (by decide)) rfl CL.mg CL.kp CL.b .nil pass0 (pa_cons (pv 1) (pa_cons (pv 2) pa_nil))) pa_nil)) pe_int) (nomark _)) (pe_and (pe_cmpR op_in_seq (pe_callB (call_reprV hgu hr.units) (by rfl) C.repr (by decide +kernel) (pa_cons (pe_ix ix_list (pv 4) pe_int (fun _ _ => rfl)) pa_nil)) (pe_tup (pa_cons pe_str (pa_cons pe_str pa_nil))) (by rfl)) (pe_one (pe_cmpR op_eq (pe_callB (call_reprV hgu hr.units) (by rfl) C.repr (by decide +kernel) (pa_cons (pv 2) pa_nil)) (pv 3) (nomark _))))))))), ?_⟩
  refine ⟨v, rfl, v, d, 16000000, rfl, hd, ok, n16, ?_⟩
  refine ⟨.ref g, rfl, v, rfl, g, S, v, d, rfl, eng, pl, hd, hf, fun c1 H1 s1 e1 => ?_⟩
  dsimp only [tNil]
  refine ⟨v, rfl, .ref g, rfl, ?_⟩
  refine ⟨g, S, v, d, rfl, eng.same s1, pl, hd.same s1, hf, fun c2 H2 s2 e2 => ⟨small (by show 2 ≤ 1000; decide), fun l hl => ?_⟩⟩
  rw [← e1, ← e2]
  have s12 := Same.trans s1 s2
  have sl := same_new hl (.lst [.bl (formOk S d), .bl (formOk S d)])
  have hl3 : upd H2 l (.lst [.bl (formOk S d), .bl (formOk S d)]) l = some (.lst [.bl (formOk S d), .bl (formOk S d)]) := upd_same
  have s03 := Same.trans s12 sl
  generalize upd H2 l (.lst [.bl (formOk S d), .bl (formOk S d)]) = H3 at sl hl3 s03 ⊢
  have hd3 := hd.same s03
  refine ⟨.ref l, rfl, .str S, rfl, v, rfl, S, v, d, rfl, pl, hd3, hf, fun c3 H4 s4 e3 => ⟨small (by show 1 ≤ 1000; decide), fun m hm => ?_⟩⟩
  rw [← e3]
  have sm := same_new hm (.lst [V.bl (formOk S d)])
  refine ⟨m, 2, [.bl (formOk S d)], rfl, rfl, upd_same, by decide, by decide, small (by show 1 * 2 ≤ 1000; decide), fun r hr2 => ?_⟩
  have sr := same_new hr2 (.lst ((List.replicate (2 : Int).toNat [V.bl (formOk S d)]).flatten))
  have s36 := Same.trans s4 (Same.trans sm sr)
  refine ⟨[.bool (formOk S d), .bool (formOk S d)], [.bool (formOk S d), .bool (formOk S d)], ⟨l, _, rfl, .inl (.inl (s36 _ _ hl3)), .cons (.bl _) (.cons (.bl _) .nil)⟩, ⟨r, _, rfl, .inl (.inl upd_same), .cons (.bl _) (.cons (.bl _) .nil)⟩, bl_shape _ _, bl_shape _ _, _, rfl, ?_⟩
  rw [same_told]
  have hl6 := s36 _ _ hl3
  have hd6 := hd3.same s36
  have s06 := Same.trans s03 s36
  generalize upd (upd H4 m (.lst [V.bl (formOk S d)])) r (.lst ((List.replicate (2 : Int).toNat [V.bl (formOk S d)]).flatten)) = H6 at hl6 hd6 s06 ⊢
  refine iteT ⟨.ref l, rfl, l, _, 0, .bl (formOk S d), rfl, rfl, .inl (.inl hl6), rfl, .bl (formOk S d), .bool (formOk S d), 16000000, rfl, .bl _, dok_bl _, n16, small (by show 2 ≤ 1000; decide), fun t ht => ?_⟩
  have st := same_new ht (.tup [V.str "True", V.str "False"])
  refine ⟨t, [.str "True", .str "False"], rfl, .inr (.inl (.inl upd_same)), rfl, rfl, _, rfl, ?_⟩
  refine ite2 (fun _ => ?_) (fun h => absurd (shown_bl (formOk S d)) h)
  refine ⟨v, rfl, v, d, 16000000, rfl, hd6.same st, ok, n16, .str d.shown, rfl, rfl, ?_⟩
  have z := q _ (Same.trans s06 st)
  rw [decide_eq_true rfl]
  exact z
end
end Fh
set_option Elab.async false
set_option linter.all false
set_option maxRecDepth 100000
set_option maxHeartbeats 4000000
namespace Fh
open PySem L2 TL
/-! ### _law_right -/
abbrev s__law_right : Stmt := top 53
abbrev sc__law_rightN : List Str := ["_law_pot", "_law_symbols", "_law_engine", "_law_good", "_law_turn", "_law_bent_here"]
theorem sc__law_right : FnScope sc__law_rightN ["_law_pot"] (defScope s__law_right) := ⟨rfl, rfl, rfl, by decide +kernel, rfl, by decide +kernel, by decide +kernel⟩
def spRight (CS : Addr) : Sp := fun vs H Q _ => ∃ (p : Addr) (n : Nat), vs = [.ref p] ∧ Pot H p n ∧ n + 1000 < 100000 ∧
  ∀ H' : Hp, Pot H' p (n + 400) → KeepR CS p H H' → Q (.bl true) H'
theorem bents_of {K : PySem.W.Frag} {k : Nat} {vs : List V} {H : Hp} {Q : VK} {E : XK} (h : ∃ (p : Addr) (v : V) (d : PyData) (n w s M g : Nat), vs = [.ref p, v, .int (k : Int)] ∧ Pot H p n ∧ n + 2 * k + 20 < 100000 ∧ Dv K (hid [p] H) v d ∧ Ms w s M g d ∧ Bd w s M ∧
    ∀ (y : V) (d' : PyData) (H' : Hp), Pot H' p (n + 2 * k + 4) → But p H H' → Dv K (hid [p] H') y d' → Ms (w + 1) (2 * s + 40) (M + k + 1) (2 * g + 100) d' → Q y H') : spBents K (k + 1) vs H Q E := h
theorem bents4 {K : PySem.W.Frag} {vs : List V} {H : Hp} {Q : VK} {E : XK} (h : ∃ (p : Addr) (v : V) (d : PyData) (n w s M g : Nat), vs = [.ref p, v, .int 4] ∧ Pot H p n ∧ n + 28 < 100000 ∧ Dv K (hid [p] H) v d ∧ Ms w s M g d ∧ Bd w s M ∧
    ∀ (y : V) (d' : PyData) (H' : Hp), Pot H' p (n + 12) → But p H H' → Dv K (hid [p] H') y d' → Ms (w + 1) (2 * s + 40) (M + 5) (2 * g + 100) d' → Q y H') : spBents K 5 vs H Q E := by
  obtain ⟨p, v, d, n, w, s, M, g, e, hp, hn, hd, ms, bd, q⟩ := h
  refine bents_of (k := 4) ⟨p, v, d, n, w, s, M, g, e, hp, by omega, hd, ms, bd, fun y d' H' hp' b hy my => q y d' H' (hp'.more (by omega)) b hy (my.mono (Nat.le_refl _) (Nat.le_refl _) (by omega) (Nat.le_refl _))⟩
section
variable {P : Program} {w : World} {K : PySem.W.Frag} {mg : Str → Option Value} {base : Heap}
theorem ok_right {f fA CP CS : Addr} {fd fdA : FuncData} (F : Fun K "_law_right" "_law_right" s__law_right f fd) (T : Bare mg)
    (CT : Callee P w K mg base 1 "_law_take" ["_law_pot", "_law_upto"] spTake) (CR : Callee P w K mg base 19 "_law_bare" ["_law_pot"] (spBare CP CS)) (CD : Callee P w K mg base 4 "_law_drawn_writer" ["_law_pot", "_law_symbols", "_law_most"] (spDraw K))
    (CL : Callee P w K mg base 3 "_law_is_writer" ["_law_symbols", "_law_thing"] (spForm K)) (CB : Callee P w K mg base 8 "_law_bent" ["_law_pot", "_law_thing", "_law_deep"] (spBents K 5)) (CO : Callee P w K mg base 3 "_law_odd" ["_law_pot"] (spOdd K))
    (OA : FnOkG P w K mg base 7 fA fdA ["_law_engine", "_law_symbols", "_law_thing"] (spAsked K CP)) (mA : mg "_law_asked_right" = some (.ref fA)) (kA : PySem.W.keepIn K (.ref fA) = true) (bA : Binds K fdA ["_law_engine", "_law_symbols", "_law_thing"] []) :
    FnOkG P w K mg base 20 f fd ["_law_pot"] (spRight CS) := by
  refine Fun.okG F sc__law_right (fun vs H Q E h => ?_) (fun cdv A outer st H vs Q E hgu hr h => ?_)
  · obtain ⟨p, n, rfl, _⟩ := h
    rfl
  obtain ⟨p, n, rfl, hp, hn, q⟩ := h
  refine ⟨_, (pss_cons (ps_asg (pe_call CR.ok hr rfl CR.mg CR.kp CR.b .nil pass0 (pa_cons (pv 0) pa_nil)) (pg_tup (by rfl) (pgs_cons (pg_name (i := 1) sc__law_right.nd rfl (Or.inl rfl)) (pgs_cons (pg_name (i := 2) sc__law_right.nd rfl (Or.inl rfl)) pgs_nil))))
(pss_cons (ps_set (i := 3) sc__law_right.nd rfl (Or.inl rfl) (pe_call CD.ok (hr.mono (by decide)) rfl CD.mg CD.kp CD.b .nil pass0 (pa_cons (pv 0) (pa_cons (pv 1) (pa_cons pe_int pa_nil)))))
(pss_cons (ps_if (PW.pt (pw_or (pt_not (pt_val (pe_call CL.ok (hr.mono (by decide)) rfl CL.mg CL.kp CL.b .nil pass0 (pa_cons (pv 1) (pa_cons (pv 3) pa_nil))))) (pw_or1 (pt_not (pt_val (pe_callG OA hgu (hr.mono (by decide)) rfl mA kA bA (pa_cons (pv 2) (pa_cons (pv 1) (pa_cons (pv 3) pa_nil)))))))))
(pss_one (ps_ret pe_bl))
pss_nil)
(pss_cons (ps_for PassesOwn.never rfl (pi_range1 (by rfl) T.range (pa_cons pe_int pa_nil)) (pg_name (i := 4) sc__law_right.nd rfl (Or.inl rfl))
(pss_cons (ps_set (i := 5) sc__law_right.nd rfl (Or.inl rfl) (pe_call CB.ok (hr.mono (by decide)) rfl CB.mg CB.kp CB.b .nil pass0 (pa_cons (pv 0) (pa_cons (pv 3) (pa_cons pe_int pa_nil)))))
(pss_cons (ps_set (i := 5) sc__law_right.nd rfl (Or.inl rfl) (pe_ifExp (pt_cmpR op_eq (pe_call CT.ok (hr.mono (by decide)) rfl CT.mg CT.kp CT.b .nil pass0 (pa_cons (pv 0) (pa_cons pe_int pa_nil))) pe_int (nomark _)) (pe_call CB.ok (hr.mono (by decide)) rfl CB.mg CB.kp CB.b .nil pass0 (pa_cons (pv 0) (pa_cons (pv 5) (pa_cons pe_int pa_nil)))) (pv 5)))
(pss_one (ps_if (pt_not (pt_val (pe_callG OA hgu (hr.mono (by decide)) rfl mA kA bA (pa_cons (pv 2) (pa_cons (pv 1) (pa_cons (pv 5) pa_nil))))))
(pss_one (ps_ret pe_bl))
pss_nil)))))
(pss_one (ps_ret (pe_callG OA hgu (hr.mono (by decide)) rfl mA kA bA (pa_cons (pv 2) (pa_cons (pv 1) (pa_cons (pe_call CO.ok (hr.mono (by decide)) rfl CO.mg CO.kp CO.b .nil pass0 (pa_cons (pv 0) pa_nil)) pa_nil)))))))))), ?_⟩
  refine ⟨.ref p, rfl, p, n, rfl, hp, by omega, fun t g S H1 hp1 k1 ht eng sy => ?_⟩
  refine ⟨t, [.str S, .ref g], rfl, .inl (.inl ht), rfl, _, _, rfl, _, _, rfl, rfl, ?_⟩
  refine ⟨.ref p, rfl, .str S, rfl, p, n + 1, S, rfl, sy, hp1, by omega, fun y d H2 hp2 b2 hd fo ms => ?_⟩
  have pl := sy.plain
  have fit := ms.ta.fit (by decide) (by decide)
  have ok := ms.dok2 (by decide) (by decide) (by decide)
  have eng2 := eng.but hp1 b2
  refine ⟨.str S, rfl, y, rfl, S, y, d, rfl, pl, hd.same hid_same, fit, fun c H3 s3 e3 => ?_⟩
  rw [fo] at e3
  subst e3
  refine ⟨true, rfl, iteF ⟨.ref g, rfl, .str S, rfl, y, rfl, g, S, y, d, rfl, eng2.same s3, pl, (hd.same hid_same).same s3, fit, ok, fun H4 s4 => ⟨true, rfl, iteF ?_⟩⟩⟩
  have s24 := Same.trans s3 s4
  have hp4 := hp2.same s24
  have eng4 := eng2.same s24
  have hd4 := hd.same (Same.hid (l := [p]) s24)
  have k4 : KeepR CS p H H4 := k1.trans (KeepR.of_but (b2.trans (But.of_same s24)))
  clear hp1 ht eng hp2 b2 hd eng2 s3 s4 s24
  refine ⟨8, rfl, by decide, by decide, for_range (lo := 0) (n := 8) (fun i σ H' => ∃ (x4 x5 : Option V), σ = [some (.ref p), some (.str S), some (.ref g), some y, x4, x5] ∧ Pot H' p (n + 151 + 26 * i) ∧ But p H4 H') ?_ ?_ ?_⟩
  · exact ⟨none, none, rfl, hp4, But.refl _ _⟩
  · rintro i σ H5 hi ⟨x4, x5, rfl, hp5, b5⟩
    have hd5 := hd4.same (But.hid b5 (List.mem_singleton.mpr rfl))
    refine ⟨.ref p, rfl, y, rfl, bents4 (E := E0) ⟨p, y, d, n + 151 + 26 * i, 40, 4, 22, 240, rfl, hp5, by omega, hd5, ms.mono (by decide) (by decide) (by decide) (by decide), ⟨by decide, by decide, by decide, by decide, by decide⟩, fun y1 d1 H6 hp6 b6 hd6 m6 => ?_⟩⟩
    have m6 : Ms 41 48 27 580 d1 := m6
    refine ⟨.ref p, rfl, p, 3, _, rfl, hp6, by omega, by decide, by decide, fun c H7 c0 c1 hp7 b7 => ⟨rfl, _, rfl, ?_⟩⟩
    have hd7 := hd6.same (But.hid b7 (List.mem_singleton.mpr rfl))
    have fin : ∀ (y2 : V) (d2 : PyData) (H8 : Hp) (x5 : Option V), But p H7 H8 → Pot H8 p (n + 151 + 26 * i + 26) → Dv K (hid [p] H8) y2 d2 → Ms 42 136 32 1260 d2 → spAsked K CP [.ref g, .str S, y2] H8 (fun v H9 => ∃ c, v = .bl c ∧ (if (!c) = true then Q (.bl false) H9 else ∃ (x4 x5 : Option V), [some (.ref p), some (.str S), some (.ref g), some y, some (.int ((0 : Int) + (i : Int))), some y2] = [some (.ref p), some (.str S), some (.ref g), some y, x4, x5] ∧ Pot H9 p (n + 151 + 26 * (i + 1)) ∧ But p H4 H9)) (fun _ _ _ => False) := fun y2 d2 H8 x5 b8 hp8 hd8 m8 =>
      ⟨g, S, y2, d2, rfl, eng4.but hp4 (((b5.trans b6).trans b7).trans b8), pl, hd8.same hid_same, m8.ta.fit (by decide) (by decide), m8.dok2 (by decide) (by decide) (by decide), fun H9 s9 => ⟨true, rfl, iteF ⟨_, _, rfl, (hp8.same s9).more (by omega), (((b5.trans b6).trans b7).trans b8).trans (But.of_same s9)⟩⟩⟩
    refine ite2 (fun _ => ?_) (fun _ => ?_)
    · refine ⟨.ref p, rfl, y1, rfl, bents4 (E := E0) ⟨p, y1, d1, _, 41, 48, 27, 580, rfl, hp7, by omega, hd7, m6, ⟨by decide, by decide, by decide, by decide, by decide⟩, fun y2 d2 H8 hp8 b8 hd8 m8 => ?_⟩⟩
      have m8 : Ms 42 136 32 1260 d2 := m8
      exact ⟨.ref g, rfl, .str S, rfl, y2, rfl, fin y2 d2 H8 none b8 (hp8.more (by omega)) hd8 m8⟩
    · exact ⟨y1, rfl, .ref g, rfl, .str S, rfl, y1, rfl, fin y1 d1 H7 none (But.refl _ _) (hp7.more (by omega)) hd7 (m6.mono (by decide) (by decide) (by decide) (by decide))⟩
  · rintro σ H5 ⟨x4, x5, rfl, hp5, b5⟩
    refine ⟨.ref g, rfl, .str S, rfl, .ref p, rfl, p, _, rfl, hp5, by omega, fun y1 d1 H6 hp6 b6 hd6 m6 => ?_⟩
    exact ⟨g, S, y1, d1, rfl, eng4.but hp4 (b5.trans b6), pl, hd6.same hid_same, m6.ta.fit (by decide) (by decide), m6.dok2 (by decide) (by decide) (by decide), fun H7 s7 => q H7 ((hp6.same s7).more (by omega)) (k4.trans (KeepR.of_but ((b5.trans b6).trans (But.of_same s7))))⟩
end
end Fh
set_option Elab.async false
set_option linter.all false
set_option maxRecDepth 100000
set_option maxHeartbeats 4000000
namespace Fh
open PySem L2
/-! ### the law -/
abbrev s_law : Stmt := top 54
abbrev sc_lawN : List Str := ["_law_script", "_law_k", "_law_pot", "_law_turn"]
theorem sc_law : FnScope sc_lawN ["_law_script"] (defScope s_law) := ⟨rfl, rfl, rfl, by decide +kernel, rfl, by decide +kernel, by decide +kernel⟩
def spLaw (K : PySem.W.Frag) : Sp := fun vs H Q _ => ∃ (a : Addr) (ns : List Int), vs = [.ref a] ∧ SqL K H a (ns.map V.int) ∧ ns.length ≤ 63 ∧ ∀ H', Q (.bl true) H'
theorem KeepI.seq {K : PySem.W.Frag} {CS a : Addr} {H H' : Hp} {xs : List V} (k : KeepI CS H H') (h : SqL K H a xs) : SqL K H' a xs := by
  rcases h with (h | ⟨o, h⟩) | h
  · exact .inl (.inl (k _ _ h (by intro _ _ e; cases e)))
  · exact .inl (.inr ⟨o, k _ _ h (by intro _ _ e; cases e)⟩)
  · exact .inr h
section
variable {P : Program} {w : World} {K : PySem.W.Frag} {mg : Str → Option Value} {base : Heap}
theorem ok_law {f fR CS : Addr} {fd fdR : FuncData} (F : Fun K "law" "law" s_law f fd) (T : Bare mg) (C : Con K mg) (CP : Callee P w K mg base 1 "_law_pot_of" ["_law_script", "_law_k"] (spPotOf K))
    (OR : FnOkG P w K mg base 20 fR fdR ["_law_pot"] (spRight CS)) (mR : mg "_law_right" = some (.ref fR)) (kR : PySem.W.keepIn K (.ref fR) = true) (bR : Binds K fdR ["_law_pot"] []) :
    FnOkG P w K mg base 21 f fd ["_law_script"] (spLaw K) := by
  refine Fun.okG F sc_law (fun vs H Q E h => ?_) (fun cdv A outer st H vs Q E hgu hr h => ?_)
  · obtain ⟨a, ns, rfl, _⟩ := h
    rfl
  obtain ⟨a, ns, rfl, hS, hl, q⟩ := h
  refine ⟨_, (pss_cons (ps_for PassesOwn.never rfl (pi_range1 (by rfl) T.range (pa_cons (pe_callB (call_max2 rfl) (by rfl) C.max (by decide +kernel) (pa_cons pe_int (pa_cons (pe_callB (call_min2 rfl) (by rfl) C.min (by decide +kernel) (pa_cons pe_int (pa_cons (pe_callB call_len_seq (by rfl) T.len PySem.boot_len (pa_cons (pv 0) pa_nil)) pa_nil))) pa_nil))) pa_nil)) (pg_name (i := 1) sc_law.nd rfl (Or.inl rfl))
(pss_cons (ps_set (i := 2) sc_law.nd rfl (Or.inr rfl) (pe_call CP.ok (hr.mono (by decide)) rfl CP.mg CP.kp CP.b .nil pass0 (pa_cons (pv 0) (pa_cons (pv 1) pa_nil))))
(pss_one (ps_if (pt_not (pt_val (pe_callB (cr_all rfl) (by rfl) C.all (by decide +kernel) (pa_cons (pe_lc (own := [("_law_turn", 3)]) (g := gName 3) rfl sc_law.nd (pi_range1 (by rfl) T.range (pa_cons pe_int pa_nil)) (blkOk_by (N := sc_lawN) (sc := defScope s_law) (by decide +kernel)) (fun _ _ _ _ _ => pg_name (i := 3) sc_law.nd rfl (Or.inl rfl)) (fun _ _ _ _ _ => pts_nil) (fun _ _ _ _ _ => (pe_callG OR hgu hr rfl mR kR bR (pa_cons (pv 2) pa_nil)))) pa_nil))))
(pss_one (ps_ret pe_bl))
pss_nil))))
(pss_one (ps_ret pe_bl))), ?_⟩
  have hlen : (ns.map V.int).length = ns.length := List.length_map _
  refine ⟨.ref a, rfl, a, _, rfl, .inl hS, 4, _, rfl, 1, _, rfl, ?_⟩
  generalize hm : (if (if ((ns.map V.int).length : Int) < 4 then ((ns.map V.int).length : Int) else 4) > 1 then (if ((ns.map V.int).length : Int) < 4 then ((ns.map V.int).length : Int) else 4) else 1) = m
  have m0 : 0 ≤ m ∧ m ≤ 4 := by
    rw [← hm]
    split <;> split <;> omega
  refine ⟨m, rfl, by omega, by omega, for_range (lo := 0) (n := m.toNat) (fun i σ H' => ∃ (x1 x2 : Option V), σ = [some (.ref a), x1, x2, none] ∧ SqL K H' a (ns.map V.int)) ?_ ?_ ?_⟩
  · exact ⟨none, none, rfl, hS⟩
  · rintro i σ H1 hi ⟨x1, x2, rfl, hS1⟩
    refine ⟨.ref a, rfl, _, rfl, a, ns, i, (by show [V.ref a, V.int (0 + (i : Int))] = _; rw [Int.zero_add]), hS1, by omega, fun p H2 hp0 s2 hp => ?_⟩
    refine ⟨6, rfl, by decide, by decide, fun D hD => lc_range (lo := 0) (n := 6) (fun j H' => H' D = some (.lst ((List.replicate j true).map V.bl)) ∧ Pot H' p (400 * j) ∧ KeepI CS H1 H') ?_ ?_ ?_⟩
    · exact ⟨upd_same, hp.same (same_new hD _), KeepI.of_same (Same.trans s2 (same_new hD _))⟩
    · rintro j H3 hj ⟨h1, h2, h3⟩
      have nDp : D ≠ p := hp.ne hD
      refine ⟨rfl, ?_⟩
      simp only [tYes, ↓reduceIte]
      refine ⟨.ref p, rfl, p, 400 * j, rfl, h2, by omega, fun H4 h5 h6 => ?_⟩
      have D4 := h6 _ _ h1 nDp (by intro _ _ e; cases e)
      refine ⟨_, D4, ?_, ?_, ?_, ?_⟩
      · rw [List.length_map, List.length_replicate]
        exact Nat.lt_of_lt_of_le (by omega : j < 1000) (small (Nat.le_refl _))
      · rw [upd_same, List.replicate_succ', List.map_append]
        rfl
      · obtain ⟨o, b, c, e, r⟩ := h5.at_
        exact Pot.more ⟨o, b, c, by rw [upd_ne nDp.symm]; exact e, r⟩ (by omega)
      · intro b o h ni
        have hbp : b ≠ p := ne_of_none h hp0
        have hbD : b ≠ D := ne_of_none (s2 _ _ h) hD
        rw [upd_ne hbD]
        exact h6 _ _ (h3 _ _ h ni) hbp ni
    · rintro H3 ⟨h1, h2, h3⟩
      refine ⟨D, List.replicate 6 true, rfl, .inl (.inl h1), ?_⟩
      refine ⟨true, rfl, iteF ?_⟩
      exact ⟨_, _, rfl, h3.seq hS1⟩
  · rintro σ H1 ⟨x1, x2, rfl, hS1⟩
    exact q H1
end
end Fh
set_option Elab.async false
set_option linter.all false
set_option maxRecDepth 100000
set_option maxHeartbeats 4000000
namespace Fh
open PySem PySem.Spec PyProof.Rows L2
/-! ### the head of a law whose promise holds where no repr is under way -/
/-- how the law's call has to end -/
def LawEnds (s : Shared) : Result → Shared → Prop := fun r s' =>
  r = .ok (.ret (.bool true)) ∧ OldK s.heap s'.heap ∧ s'.os = s.os ∧ AllBare s'.gens
section
variable {P : Program} {w : World} {K : PySem.W.Frag} {mg mb : Str → Option Value} {k : Nat} {fa a : Addr}
  {fd : FuncData} {x : Str} {sp : Sp} {s : Shared} {vs : List Value} {ns : List Int}
/-- from a heap in which at most the script is tracked -/
theorem call_from (H : Hp) (KX : K.In s.heap) (hns : s.heap.Ns mainGlobals mg) (hb : s.heap.Ns builtinsNs mb)
    (hbb : ∀ x : Str, x ≠ "__name__" → mb x = bootBuiltins x) (hlim : s.heap.NoLimit) (hg : s.gens = #[])
    (ha : s.heap.get? a = some { cls := .type "list", data := .seq vs.toArray }) (hr : Room k callerA)
    (F : ∀ base : Heap, K.In base → base.Ns mainGlobals mg → FnOkG P w K mg base k fa fd [x] sp)
    (hbind : ∀ (s : Shared) (u : Value), BindsTo s fd ⟨[u], []⟩ [(x, u)]) (only : Only H) (hok : HOk P w H s.heap)
    (one : ∀ b, H b ≠ none → b = a) (notK : H a ≠ none → K.lookup a = none)
    (hsp : sp [.ref a] H (fun v _ => v = .bl true) fun _ _ _ => False) :
    codeAny (model P w) callerA (.call (.ref fa) ⟨[.ref a], []⟩) (LawEnds s) s := by
  have stays : ∀ {b : Addr} {o : Obj}, s.heap.get? b = some o → (b = a → False) → (hidT s.heap H).get? b = some o :=
    fun {b o} e n => hidT_get e (Classical.byContradiction fun z => n (one b z))
  have dicts : ∀ {b : Addr} {m : Str → Option Value}, s.heap.Ns b m → (hidT s.heap H).Ns b m := fun {b m} n => by
    obtain ⟨o, es, ep, e, d, r⟩ := n
    refine ⟨o, es, ep, stays e fun z => ?_, d, r⟩
    rw [z, ha] at e
    cases e
    cases (show Data.seq vs.toArray _ = Data.dict es ep from d)
  have inK : K.In (hidT s.heap H) := fun b o e => hidT_get (KX b o e) (Classical.byContradiction fun z => by
    have eb := one b z
    subst eb
    rw [notK z] at e
    cases e)
  have hM : Mod K mg (hidT s.heap H) := by
    obtain ⟨mc, h1, h2⟩ := hlim
    exact ⟨inK, dicts hns, ⟨mb, dicts hb, hbb⟩, ⟨mc, dicts h1, h2⟩⟩
  have e0 : Env0 P w K mg (hidT s.heap H) callerA [] s H := by
    refine ⟨rfl, hM, fun b o e => of_hidT e, ?_, trivial, fun b hb => ?_, hok, .of_eq hg⟩
    · exact Nat.le_of_eq (hidT_size _ _)
    · cases (show b ∈ ([] : List Addr) from hb)
  have run := (F _ inK (dicts hns)).runs callerA [] s H ⟨[.ref a], []⟩ [.ref a] [.ref a] _ _ rfl hr e0
    (hbind s (.ref a)) (.cons rfl .nil) hsp
  refine codeAny_mono run fun r s' ends => ?_
  match r, ends with
  | .error e, ends => exact ends.elim
  | .ok .next, ends => exact ends.elim
  | .ok .brk, ends => exact ends.elim
  | .ok .cont, ends => exact ends.elim
  | .ok (.ret u), ⟨v, H', os, bare, un, hok', rel, ev⟩ =>
    have ev : v = .bl true := ev
    subst ev
    have eu : u = Value.bool true := rel
    subst eu
    refine ⟨rfl, OldK.of_keep fun b o e => ?_, os, bare⟩
    rcases only b with z | ⟨ob, xs, z⟩
    · refine un.keep b o e z (fun h => ?_) (by simp)
      cases (show b ∈ ([] : List Addr) from h)
    · have was := (hok b _ z).1
      have is := (hok' b _ (un.frzs b ob _ z)).1
      rw [e] at was
      cases was
      exact is
theorem law_callG (KX : K.In s.heap) (hns : s.heap.Ns mainGlobals mg) (hb : s.heap.Ns builtinsNs mb)
    (hbb : ∀ x : Str, x ≠ "__name__" → mb x = bootBuiltins x) (hlim : s.heap.NoLimit) (hg : s.gens = #[])
    (ha : s.heap.get? a = some { cls := .type "list", data := .seq vs.toArray }) (hi : IntsAre vs ns) (hl : ns.length ≤ sizeLine) (hr : Room k callerA)
    (F : ∀ base : Heap, K.In base → base.Ns mainGlobals mg → FnOkG P w K mg base k fa fd [x] sp)
    (hbind : ∀ (s : Shared) (u : Value), BindsTo s fd ⟨[u], []⟩ [(x, u)])
    (hsp : ∀ H : Hp, Only H → SqL K H a (ns.map V.int) → sp [.ref a] H (fun v _ => v = .bl true) fun _ _ _ => False) :
    codeAny (model P w) callerA (.call (.ref fa) ⟨[.ref a], []⟩) (LawEnds s) s := by
  have rv := vals_ints hi
  have lenV := hi.length
  by_cases hk : K.lookup a = none
  · have atA : ∀ b, (if b = a then some (HO.frz { cls := .type "list", data := .seq vs.toArray } (.lst (ns.map V.int))) else none) ≠ none → b = a :=
      fun b z => Classical.byContradiction fun n => z (if_neg n)
    refine call_from (fun b => if b = a then some (.frz { cls := .type "list", data := .seq vs.toArray } (.lst (ns.map V.int))) else none)
      KX hns hb hbb hlim hg ha hr F hbind (fun b => ?_) (fun b u z => ?_) atA (fun _ => hk) (hsp _ (fun b => ?_) (.inl (.inr ⟨_, if_pos rfl⟩)))
    · by_cases e : b = a
      · exact .inr ⟨_, _, if_pos e⟩
      · exact .inl (if_neg e)
    · have e : b = a := atA b fun y => by (have z := z.symm.trans y; cases z)
      subst e
      have z := (if_pos rfl).symm.trans z
      cases z
      exact ⟨ha, by rw [List.length_map]; exact hl, vs, _, rv, ha⟩
    · by_cases e : b = a
      · exact .inr ⟨_, _, if_pos e⟩
      · exact .inl (if_neg e)
  · obtain ⟨o, ho⟩ := Option.ne_none_iff_exists'.mp hk
    have same := KX a o ho
    rw [ha] at same
    cases same
    have none_ : ∀ b : Addr, (fun _ => none : Hp) b = none := fun _ => rfl
    refine call_from (fun _ => none) KX hns hb hbb hlim hg ha hr F hbind (fun b => .inl rfl) (fun b u z => by cases z) (fun b z => absurd rfl z) (fun z => absurd rfl z)
      (hsp _ (fun b => .inl rfl) (.inr ⟨_, vs.toArray, _, ho, rfl, rfl, rfl, ?_, by simpa using rv⟩))
    rw [List.size_toArray, lenV]
    exact hl
end
/-- the goal that the head leaves, from the law's promise -/
theorem walk_G {l : PySem.W.OpenLaw} {n k : Nat} {q : Program} {loose : List Str} {XP : (Str → Option Value) → Heap → Prop}
    {YP : World → Heap → Prop} {d : DefRec} {K : Params → PySem.W.Frag} {sp : PySem.W.Frag → Sp} {x : Str}
    (hn : l.most = some n) (hn2 : n ≤ sizeLine) (hdf : d.params.defaults = []) (hr : Room k callerA) (hY : ∀ (w : World) (h : Heap), YP w h → (K w.params).In h)
    (F : ∀ (w : World) (mg : Str → Option Value) (fa : Addr) (h : Heap), (K w.params).In h → h.Ns mainGlobals mg → mg d.name = some (.ref fa) → ∃ fd : FuncData,
      (∀ (s : Shared) (u : Value), BindsTo s fd ⟨[u], []⟩ [(x, u)]) ∧ ∀ base : Heap, (K w.params).In base → base.Ns mainGlobals mg → FnOkG l.prog w (K w.params) mg base k fa fd [x] (sp (K w.params)))
    (hsp : ∀ (K : PySem.W.Frag) (H : Hp) (a : Addr) (ns : List Int), ns.length ≤ n → Only H → SqL K H a (ns.map V.int) → sp K [.ref a] H (fun v _ => v = .bl true) fun _ _ _ => False) :
    PySem.W.WalkO q loose XP YP l.row.toRowW d [] (fun f vs => PySem.call f vs) := by
  refine Att.attach_call hn hdf fun w s₀ s₁ mg mb fa o pm cd doc a vs ns G Y ho hd hcd hmg hobj hints hlen hg => ?_
  have KX := hY w _ Y
  obtain ⟨fd, hbind, hF⟩ := F w mg fa _ KX G.T.g hmg
  exact law_callG KX G.T.g G.T.b G.T.builtins G.T.nolimit hg hobj hints (Nat.le_trans hlen hn2) hr hF hbind fun H only sq => hsp _ H a ns hlen only sq
end Fh
set_option Elab.async false
set_option linter.all false
set_option maxRecDepth 100000
set_option maxHeartbeats 4000000
namespace Fh
open PySem L2 TL
/-! ### what the top has written -/
theorem tup_in {K : PySem.W.Frag} {a : Addr} {od : Option Addr} {its : Array Value} {n : Nat} {sl : Array (Option Value)} {xs : List V} (h : K.lookup a = some ⟨.type "tuple", od, .seq its n, sl⟩) (hz : its.size ≤ 1000) (r : Vals xs its.toList) : ∀ H, SqT K H a xs :=
  fun _ => .inr ⟨_, its, n, h, rfl, rfl, small hz, r⟩
theorem all_mk {l : PySem.W.OpenLaw} {w : World} {K : PySem.W.Frag} {h : Heap} {mg : Str → Option Value} {fa : Addr} (X : K.In h) (G : h.Ns mainGlobals mg) (hfa : mg "law" = some (.ref fa))
    {C CS CP f_link f_parse f_iol f_iio f_let f_num f_form f_moves f_state f_word f_marks f_words f_place f_asc f_writer f_pot f_take f_of f_lnum f_ink f_lst f_lsd f_lrow f_lwr f_said f_stp f_draw f_bare f_odd f_bent f_asked f_right f_law f_sin f_pin f_words_at f_read_program f_read_symbols f_read_cell f_read_part f_is_new_name f_read_whole_body f_read_body f_read_statement f_given_by f_setting_by f_sum_by f_condition_by f_gin aV aB aW : Addr}
    {od_link an_link od_parse an_parse od_iol an_iol od_iio an_iio od_let an_let od_num an_num od_form an_form od_moves an_moves od_state an_state od_word an_word od_marks an_marks od_words an_words od_place an_place od_asc an_asc od_writer an_writer od_pot an_pot od_take an_take od_of an_of od_lnum an_lnum od_ink an_ink od_lst an_lst od_lsd an_lsd od_lrow an_lrow od_lwr an_lwr od_said an_said od_stp an_stp od_draw an_draw od_bare an_bare od_odd an_odd od_bent an_bent od_asked an_asked od_right an_right od_law an_law od_sin an_sin od_pin an_pin od_words_at an_words_at od_read_program an_read_program od_read_symbols an_read_symbols od_read_cell an_read_cell od_read_part an_read_part od_is_new_name an_is_new_name od_read_whole_body an_read_whole_body od_read_body an_read_body od_read_statement an_read_statement od_given_by an_given_by od_setting_by an_setting_by od_sum_by an_sum_by od_condition_by an_condition_by od_gin an_gin : Option Addr}
    {sl_link sl_parse sl_iol sl_iio sl_let sl_num sl_form sl_moves sl_state sl_word sl_marks sl_words sl_place sl_asc sl_writer sl_pot sl_take sl_of sl_lnum sl_ink sl_lst sl_lsd sl_lrow sl_lwr sl_said sl_stp sl_draw sl_bare sl_odd sl_bent sl_asked sl_right sl_law sl_sin sl_pin sl_words_at sl_read_program sl_read_symbols sl_read_cell sl_read_part sl_is_new_name sl_read_whole_body sl_read_body sl_read_statement sl_given_by sl_setting_by sl_sum_by sl_condition_by sl_gin : Array (Option Value)}
    {oc_link kV_link dc_link pm_link cd_link ct_link oc_parse kV_parse dc_parse pm_parse cd_parse ct_parse oc_iol kV_iol dc_iol pm_iol cd_iol ct_iol oc_iio kV_iio dc_iio pm_iio cd_iio ct_iio oc_let kV_let dc_let pm_let cd_let ct_let oc_num kV_num dc_num pm_num cd_num ct_num oc_form kV_form dc_form pm_form cd_form ct_form oc_moves kV_moves dc_moves pm_moves cd_moves ct_moves oc_state kV_state dc_state pm_state cd_state ct_state oc_word kV_word dc_word pm_word cd_word ct_word oc_marks kV_marks dc_marks pm_marks cd_marks ct_marks oc_words kV_words dc_words pm_words cd_words ct_words oc_place kV_place dc_place pm_place cd_place ct_place oc_asc kV_asc dc_asc pm_asc cd_asc ct_asc oc_writer kV_writer dc_writer pm_writer cd_writer ct_writer oc_pot kV_pot dc_pot pm_pot cd_pot ct_pot oc_take kV_take dc_take pm_take cd_take ct_take oc_of kV_of dc_of pm_of cd_of ct_of oc_lnum kV_lnum dc_lnum pm_lnum cd_lnum ct_lnum oc_ink kV_ink dc_ink pm_ink cd_ink ct_ink oc_lst kV_lst dc_lst pm_lst cd_lst ct_lst oc_lsd kV_lsd dc_lsd pm_lsd cd_lsd ct_lsd oc_lrow kV_lrow dc_lrow pm_lrow cd_lrow ct_lrow oc_lwr kV_lwr dc_lwr pm_lwr cd_lwr ct_lwr oc_said kV_said dc_said pm_said cd_said ct_said oc_stp kV_stp dc_stp pm_stp cd_stp ct_stp oc_draw kV_draw dc_draw pm_draw cd_draw ct_draw oc_bare kV_bare dc_bare pm_bare cd_bare ct_bare oc_odd kV_odd dc_odd pm_odd cd_odd ct_odd oc_bent kV_bent dc_bent pm_bent cd_bent ct_bent oc_asked kV_asked dc_asked pm_asked cd_asked ct_asked oc_right kV_right dc_right pm_right cd_right ct_right oc_law kV_law dc_law pm_law cd_law ct_law oc_sin kV_sin dc_sin pm_sin cd_sin ct_sin oc_pin kV_pin dc_pin pm_pin cd_pin ct_pin oc_words_at kV_words_at dc_words_at pm_words_at cd_words_at ct_words_at oc_read_program kV_read_program dc_read_program pm_read_program cd_read_program ct_read_program oc_read_symbols kV_read_symbols dc_read_symbols pm_read_symbols cd_read_symbols ct_read_symbols oc_read_cell kV_read_cell dc_read_cell pm_read_cell cd_read_cell ct_read_cell oc_read_part kV_read_part dc_read_part pm_read_part cd_read_part ct_read_part oc_is_new_name kV_is_new_name dc_is_new_name pm_is_new_name cd_is_new_name ct_is_new_name oc_read_whole_body kV_read_whole_body dc_read_whole_body pm_read_whole_body cd_read_whole_body ct_read_whole_body oc_read_body kV_read_body dc_read_body pm_read_body cd_read_body ct_read_body oc_read_statement kV_read_statement dc_read_statement pm_read_statement cd_read_statement ct_read_statement oc_given_by kV_given_by dc_given_by pm_given_by cd_given_by ct_given_by oc_setting_by kV_setting_by dc_setting_by pm_setting_by cd_setting_by ct_setting_by oc_sum_by kV_sum_by dc_sum_by pm_sum_by cd_sum_by ct_sum_by oc_condition_by kV_condition_by dc_condition_by pm_condition_by cd_condition_by ct_condition_by oc_gin kV_gin dc_gin pm_gin cd_gin ct_gin : Value}
    {t1 t2 t3 t4 t5 t6 : Tok}
    {k_aV_0 k_aV_1 k_aV_2 k_aB_0 k_aB_1 k_aB_2 k_aB_3 k_aW_0 k_aW_1 k_aW_2 k_aW_3 k_aW_4 k_aW_5 k_aW_6 k_aW_7 k_aW_8 k_aW_9 k_aW_10 k_aW_11 k_aW_12 k_aW_13 k_aW_14 k_aW_15 k_aW_16 : Tok}
    {od_aV od_aB od_aW : Option Addr}
    {sl_aV sl_aB sl_aW : Array (Option Value)}
    {n_aV n_aB n_aW : Nat}
    (a_C : PySem.W.nsIn K mainGlobals "Parser" = some (some (.ref C)))
    (pg_C : PySem.W.plainGet K C Str.empty = true)
    (hd_C : PySem.W.hasDictIn K C = true)
    (po_C : PySem.W.plainOver K C = true)
    (sa_C : PySem.W.findIn K (.ref C) "__setattr__" = some (some (.builtin "object.__setattr__")))
    (mk_C : PySem.W.makesIn K C = true)
    (kc_C : PySem.W.keepIn K (.ref C) = true)
    (n_C_lines : PySem.W.findIn K (.ref C) "lines" = some none)
    (n_C_number : PySem.W.findIn K (.ref C) "number" = some none)
    (n_C_symbols : PySem.W.findIn K (.ref C) "symbols" = some none)
    (n_C_mosts : PySem.W.findIn K (.ref C) "mosts" = some none)
    (n_C_starts : PySem.W.findIn K (.ref C) "starts" = some none)
    (n_C_statements : PySem.W.findIn K (.ref C) "statements" = some none)
    (n_C_first : PySem.W.findIn K (.ref C) "first" = some none)
    (a_CS : PySem.W.nsIn K mainGlobals "Statement" = some (some (.ref CS)))
    (pg_CS : PySem.W.plainGet K CS Str.empty = true)
    (hd_CS : PySem.W.hasDictIn K CS = true)
    (po_CS : PySem.W.plainOver K CS = true)
    (sa_CS : PySem.W.findIn K (.ref CS) "__setattr__" = some (some (.builtin "object.__setattr__")))
    (mk_CS : PySem.W.makesIn K CS = true)
    (kc_CS : PySem.W.keepIn K (.ref CS) = true)
    (n_CS_line : PySem.W.findIn K (.ref CS) "line" = some none)
    (n_CS_word : PySem.W.findIn K (.ref CS) "word" = some none)
    (n_CS_given : PySem.W.findIn K (.ref CS) "given" = some none)
    (n_CS_inside : PySem.W.findIn K (.ref CS) "inside" = some none)
    (n_CS_otherwise : PySem.W.findIn K (.ref CS) "otherwise" = some none)
    (n_CS_follow : PySem.W.findIn K (.ref CS) "follow" = some none)
    (a_CP : PySem.W.nsIn K mainGlobals "Program" = some (some (.ref CP)))
    (pg_CP : PySem.W.plainGet K CP Str.empty = true)
    (hd_CP : PySem.W.hasDictIn K CP = true)
    (po_CP : PySem.W.plainOver K CP = true)
    (sa_CP : PySem.W.findIn K (.ref CP) "__setattr__" = some (some (.builtin "object.__setattr__")))
    (mk_CP : PySem.W.makesIn K CP = true)
    (kc_CP : PySem.W.keepIn K (.ref CP) = true)
    (n_CP_text : PySem.W.findIn K (.ref CP) "text" = some none)
    (n_CP_symbols : PySem.W.findIn K (.ref CP) "symbols" = some none)
    (n_CP_cells : PySem.W.findIn K (.ref CP) "cells" = some none)
    (n_CP_parts : PySem.W.findIn K (.ref CP) "parts" = some none)
    (n_CP_statements : PySem.W.findIn K (.ref CP) "statements" = some none)
    (n_CP_first : PySem.W.findIn K (.ref CP) "first" = some none)
    (n_CP_letters : PySem.W.findIn K (.ref CP) "letters" = some none)
    (a_link : PySem.W.nsIn K mainGlobals "link" = some (some (.ref f_link)))
    (l_link : K.lookup f_link = some ⟨oc_link, od_link, .func (PySem.W.fnOf "link" "link" (defArgs s_link) (defBody s_link) (defScope s_link) .none kV_link dc_link pm_link an_link cd_link ct_link), sl_link⟩)
    (c_link : PySem.W.codeIn K cd_link "link" = true)
    (k_link : PySem.W.keepIn K (.ref f_link) = true)
    (a_parse : PySem.W.nsIn K mainGlobals "parse" = some (some (.ref f_parse)))
    (l_parse : K.lookup f_parse = some ⟨oc_parse, od_parse, .func (PySem.W.fnOf "parse" "parse" (defArgs s_parse) (defBody s_parse) (defScope s_parse) .none kV_parse dc_parse pm_parse an_parse cd_parse ct_parse), sl_parse⟩)
    (c_parse : PySem.W.codeIn K cd_parse "parse" = true)
    (k_parse : PySem.W.keepIn K (.ref f_parse) = true)
    (a_iol : PySem.W.nsIn K mainGlobals "is_of_letters" = some (some (.ref f_iol)))
    (l_iol : K.lookup f_iol = some ⟨oc_iol, od_iol, .func (PySem.W.fnOf "is_of_letters" "is_of_letters" (defArgs s_is_of_letters) (defBody s_is_of_letters) (defScope s_is_of_letters) .none kV_iol dc_iol pm_iol an_iol cd_iol ct_iol), sl_iol⟩)
    (c_iol : PySem.W.codeIn K cd_iol "is_of_letters" = true)
    (k_iol : PySem.W.keepIn K (.ref f_iol) = true)
    (a_iio : PySem.W.nsIn K mainGlobals "is_in_order" = some (some (.ref f_iio)))
    (l_iio : K.lookup f_iio = some ⟨oc_iio, od_iio, .func (PySem.W.fnOf "is_in_order" "is_in_order" (defArgs s_is_in_order) (defBody s_is_in_order) (defScope s_is_in_order) .none kV_iio dc_iio pm_iio an_iio cd_iio ct_iio), sl_iio⟩)
    (c_iio : PySem.W.codeIn K cd_iio "is_in_order" = true)
    (k_iio : PySem.W.keepIn K (.ref f_iio) = true)
    (a_let : PySem.W.nsIn K mainGlobals "letters_of" = some (some (.ref f_let)))
    (l_let : K.lookup f_let = some ⟨oc_let, od_let, .func (PySem.W.fnOf "letters_of" "letters_of" (defArgs s_letters_of) (defBody s_letters_of) (defScope s_letters_of) .none kV_let dc_let pm_let an_let cd_let ct_let), sl_let⟩)
    (c_let : PySem.W.codeIn K cd_let "letters_of" = true)
    (k_let : PySem.W.keepIn K (.ref f_let) = true)
    (a_num : PySem.W.nsIn K mainGlobals "is_number" = some (some (.ref f_num)))
    (l_num : K.lookup f_num = some ⟨oc_num, od_num, .func (PySem.W.fnOf "is_number" "is_number" (defArgs s_is_number) (defBody s_is_number) (defScope s_is_number) .none kV_num dc_num pm_num an_num cd_num ct_num), sl_num⟩)
    (c_num : PySem.W.codeIn K cd_num "is_number" = true)
    (k_num : PySem.W.keepIn K (.ref f_num) = true)
    (a_form : PySem.W.nsIn K mainGlobals "has_form" = some (some (.ref f_form)))
    (l_form : K.lookup f_form = some ⟨oc_form, od_form, .func (PySem.W.fnOf "has_form" "has_form" (defArgs s_has_form) (defBody s_has_form) (defScope s_has_form) .none kV_form dc_form pm_form an_form cd_form ct_form), sl_form⟩)
    (c_form : PySem.W.codeIn K cd_form "has_form" = true)
    (k_form : PySem.W.keepIn K (.ref f_form) = true)
    (a_moves : PySem.W.nsIn K mainGlobals "is_moves" = some (some (.ref f_moves)))
    (l_moves : K.lookup f_moves = some ⟨oc_moves, od_moves, .func (PySem.W.fnOf "is_moves" "is_moves" (defArgs s_is_moves) (defBody s_is_moves) (defScope s_is_moves) .none kV_moves dc_moves pm_moves an_moves cd_moves ct_moves), sl_moves⟩)
    (c_moves : PySem.W.codeIn K cd_moves "is_moves" = true)
    (k_moves : PySem.W.keepIn K (.ref f_moves) = true)
    (a_state : PySem.W.nsIn K mainGlobals "is_state" = some (some (.ref f_state)))
    (l_state : K.lookup f_state = some ⟨oc_state, od_state, .func (PySem.W.fnOf "is_state" "is_state" (defArgs s_is_state) (defBody s_is_state) (defScope s_is_state) .none kV_state dc_state pm_state an_state cd_state ct_state), sl_state⟩)
    (c_state : PySem.W.codeIn K cd_state "is_state" = true)
    (k_state : PySem.W.keepIn K (.ref f_state) = true)
    (a_word : PySem.W.nsIn K mainGlobals "is_word" = some (some (.ref f_word)))
    (l_word : K.lookup f_word = some ⟨oc_word, od_word, .func (PySem.W.fnOf "is_word" "is_word" (defArgs s_is_word) (defBody s_is_word) (defScope s_is_word) .none kV_word dc_word pm_word an_word cd_word ct_word), sl_word⟩)
    (c_word : PySem.W.codeIn K cd_word "is_word" = true)
    (k_word : PySem.W.keepIn K (.ref f_word) = true)
    (a_marks : PySem.W.nsIn K mainGlobals "is_marks" = some (some (.ref f_marks)))
    (l_marks : K.lookup f_marks = some ⟨oc_marks, od_marks, .func (PySem.W.fnOf "is_marks" "is_marks" (defArgs s_is_marks) (defBody s_is_marks) (defScope s_is_marks) .none kV_marks dc_marks pm_marks an_marks cd_marks ct_marks), sl_marks⟩)
    (c_marks : PySem.W.codeIn K cd_marks "is_marks" = true)
    (k_marks : PySem.W.keepIn K (.ref f_marks) = true)
    (a_words : PySem.W.nsIn K mainGlobals "is_words" = some (some (.ref f_words)))
    (l_words : K.lookup f_words = some ⟨oc_words, od_words, .func (PySem.W.fnOf "is_words" "is_words" (defArgs s_is_words) (defBody s_is_words) (defScope s_is_words) .none kV_words dc_words pm_words an_words cd_words ct_words), sl_words⟩)
    (c_words : PySem.W.codeIn K cd_words "is_words" = true)
    (k_words : PySem.W.keepIn K (.ref f_words) = true)
    (a_place : PySem.W.nsIn K mainGlobals "is_place" = some (some (.ref f_place)))
    (l_place : K.lookup f_place = some ⟨oc_place, od_place, .func (PySem.W.fnOf "is_place" "is_place" (defArgs s_is_place) (defBody s_is_place) (defScope s_is_place) .none kV_place dc_place pm_place an_place cd_place ct_place), sl_place⟩)
    (c_place : PySem.W.codeIn K cd_place "is_place" = true)
    (k_place : PySem.W.keepIn K (.ref f_place) = true)
    (a_asc : PySem.W.nsIn K mainGlobals "is_ascending" = some (some (.ref f_asc)))
    (l_asc : K.lookup f_asc = some ⟨oc_asc, od_asc, .func (PySem.W.fnOf "is_ascending" "is_ascending" (defArgs s_is_ascending) (defBody s_is_ascending) (defScope s_is_ascending) .none kV_asc dc_asc pm_asc an_asc cd_asc ct_asc), sl_asc⟩)
    (c_asc : PySem.W.codeIn K cd_asc "is_ascending" = true)
    (k_asc : PySem.W.keepIn K (.ref f_asc) = true)
    (a_writer : PySem.W.nsIn K mainGlobals "is_writer" = some (some (.ref f_writer)))
    (l_writer : K.lookup f_writer = some ⟨oc_writer, od_writer, .func (PySem.W.fnOf "is_writer" "is_writer" (defArgs s_is_writer) (defBody s_is_writer) (defScope s_is_writer) .none kV_writer dc_writer pm_writer an_writer cd_writer ct_writer), sl_writer⟩)
    (c_writer : PySem.W.codeIn K cd_writer "is_writer" = true)
    (k_writer : PySem.W.keepIn K (.ref f_writer) = true)
    (a_pot : PySem.W.nsIn K mainGlobals "_law_pot_of" = some (some (.ref f_pot)))
    (l_pot : K.lookup f_pot = some ⟨oc_pot, od_pot, .func (PySem.W.fnOf "_law_pot_of" "_law_pot_of" (defArgs s__law_pot_of) (defBody s__law_pot_of) (defScope s__law_pot_of) .none kV_pot dc_pot pm_pot an_pot cd_pot ct_pot), sl_pot⟩)
    (c_pot : PySem.W.codeIn K cd_pot "_law_pot_of" = true)
    (k_pot : PySem.W.keepIn K (.ref f_pot) = true)
    (a_take : PySem.W.nsIn K mainGlobals "_law_take" = some (some (.ref f_take)))
    (l_take : K.lookup f_take = some ⟨oc_take, od_take, .func (PySem.W.fnOf "_law_take" "_law_take" (defArgs s__law_take) (defBody s__law_take) (defScope s__law_take) .none kV_take dc_take pm_take an_take cd_take ct_take), sl_take⟩)
    (c_take : PySem.W.codeIn K cd_take "_law_take" = true)
    (k_take : PySem.W.keepIn K (.ref f_take) = true)
    (a_of : PySem.W.nsIn K mainGlobals "_law_of" = some (some (.ref f_of)))
    (l_of : K.lookup f_of = some ⟨oc_of, od_of, .func (PySem.W.fnOf "_law_of" "_law_of" (defArgs s__law_of) (defBody s__law_of) (defScope s__law_of) .none kV_of dc_of pm_of an_of cd_of ct_of), sl_of⟩)
    (c_of : PySem.W.codeIn K cd_of "_law_of" = true)
    (k_of : PySem.W.keepIn K (.ref f_of) = true)
    (a_lnum : PySem.W.nsIn K mainGlobals "_law_is_number" = some (some (.ref f_lnum)))
    (l_lnum : K.lookup f_lnum = some ⟨oc_lnum, od_lnum, .func (PySem.W.fnOf "_law_is_number" "_law_is_number" (defArgs s__law_is_number) (defBody s__law_is_number) (defScope s__law_is_number) .none kV_lnum dc_lnum pm_lnum an_lnum cd_lnum ct_lnum), sl_lnum⟩)
    (c_lnum : PySem.W.codeIn K cd_lnum "_law_is_number" = true)
    (k_lnum : PySem.W.keepIn K (.ref f_lnum) = true)
    (a_ink : PySem.W.nsIn K mainGlobals "_law_is_ink" = some (some (.ref f_ink)))
    (l_ink : K.lookup f_ink = some ⟨oc_ink, od_ink, .func (PySem.W.fnOf "_law_is_ink" "_law_is_ink" (defArgs s__law_is_ink) (defBody s__law_is_ink) (defScope s__law_is_ink) .none kV_ink dc_ink pm_ink an_ink cd_ink ct_ink), sl_ink⟩)
    (c_ink : PySem.W.codeIn K cd_ink "_law_is_ink" = true)
    (k_ink : PySem.W.keepIn K (.ref f_ink) = true)
    (a_lst : PySem.W.nsIn K mainGlobals "_law_are_steps" = some (some (.ref f_lst)))
    (l_lst : K.lookup f_lst = some ⟨oc_lst, od_lst, .func (PySem.W.fnOf "_law_are_steps" "_law_are_steps" (defArgs s__law_are_steps) (defBody s__law_are_steps) (defScope s__law_are_steps) .none kV_lst dc_lst pm_lst an_lst cd_lst ct_lst), sl_lst⟩)
    (c_lst : PySem.W.codeIn K cd_lst "_law_are_steps" = true)
    (k_lst : PySem.W.keepIn K (.ref f_lst) = true)
    (a_lsd : PySem.W.nsIn K mainGlobals "_law_are_said" = some (some (.ref f_lsd)))
    (l_lsd : K.lookup f_lsd = some ⟨oc_lsd, od_lsd, .func (PySem.W.fnOf "_law_are_said" "_law_are_said" (defArgs s__law_are_said) (defBody s__law_are_said) (defScope s__law_are_said) .none kV_lsd dc_lsd pm_lsd an_lsd cd_lsd ct_lsd), sl_lsd⟩)
    (c_lsd : PySem.W.codeIn K cd_lsd "_law_are_said" = true)
    (k_lsd : PySem.W.keepIn K (.ref f_lsd) = true)
    (a_lrow : PySem.W.nsIn K mainGlobals "_law_is_row" = some (some (.ref f_lrow)))
    (l_lrow : K.lookup f_lrow = some ⟨oc_lrow, od_lrow, .func (PySem.W.fnOf "_law_is_row" "_law_is_row" (defArgs s__law_is_row) (defBody s__law_is_row) (defScope s__law_is_row) .none kV_lrow dc_lrow pm_lrow an_lrow cd_lrow ct_lrow), sl_lrow⟩)
    (c_lrow : PySem.W.codeIn K cd_lrow "_law_is_row" = true)
    (k_lrow : PySem.W.keepIn K (.ref f_lrow) = true)
    (a_lwr : PySem.W.nsIn K mainGlobals "_law_is_writer" = some (some (.ref f_lwr)))
    (l_lwr : K.lookup f_lwr = some ⟨oc_lwr, od_lwr, .func (PySem.W.fnOf "_law_is_writer" "_law_is_writer" (defArgs s__law_is_writer) (defBody s__law_is_writer) (defScope s__law_is_writer) .none kV_lwr dc_lwr pm_lwr an_lwr cd_lwr ct_lwr), sl_lwr⟩)
    (c_lwr : PySem.W.codeIn K cd_lwr "_law_is_writer" = true)
    (k_lwr : PySem.W.keepIn K (.ref f_lwr) = true)
    (a_said : PySem.W.nsIn K mainGlobals "_law_said" = some (some (.ref f_said)))
    (l_said : K.lookup f_said = some ⟨oc_said, od_said, .func (PySem.W.fnOf "_law_said" "_law_said" (defArgs s__law_said) (defBody s__law_said) (defScope s__law_said) .none kV_said dc_said pm_said an_said cd_said ct_said), sl_said⟩)
    (c_said : PySem.W.codeIn K cd_said "_law_said" = true)
    (k_said : PySem.W.keepIn K (.ref f_said) = true)
    (a_stp : PySem.W.nsIn K mainGlobals "_law_steps" = some (some (.ref f_stp)))
    (l_stp : K.lookup f_stp = some ⟨oc_stp, od_stp, .func (PySem.W.fnOf "_law_steps" "_law_steps" (defArgs s__law_steps) (defBody s__law_steps) (defScope s__law_steps) .none kV_stp dc_stp pm_stp an_stp cd_stp ct_stp), sl_stp⟩)
    (c_stp : PySem.W.codeIn K cd_stp "_law_steps" = true)
    (k_stp : PySem.W.keepIn K (.ref f_stp) = true)
    (a_draw : PySem.W.nsIn K mainGlobals "_law_drawn_writer" = some (some (.ref f_draw)))
    (l_draw : K.lookup f_draw = some ⟨oc_draw, od_draw, .func (PySem.W.fnOf "_law_drawn_writer" "_law_drawn_writer" (defArgs s__law_drawn_writer) (defBody s__law_drawn_writer) (defScope s__law_drawn_writer) .none kV_draw dc_draw pm_draw an_draw cd_draw ct_draw), sl_draw⟩)
    (c_draw : PySem.W.codeIn K cd_draw "_law_drawn_writer" = true)
    (k_draw : PySem.W.keepIn K (.ref f_draw) = true)
    (a_bare : PySem.W.nsIn K mainGlobals "_law_bare" = some (some (.ref f_bare)))
    (l_bare : K.lookup f_bare = some ⟨oc_bare, od_bare, .func (PySem.W.fnOf "_law_bare" "_law_bare" (defArgs s__law_bare) (defBody s__law_bare) (defScope s__law_bare) .none kV_bare dc_bare pm_bare an_bare cd_bare ct_bare), sl_bare⟩)
    (c_bare : PySem.W.codeIn K cd_bare "_law_bare" = true)
    (k_bare : PySem.W.keepIn K (.ref f_bare) = true)
    (a_odd : PySem.W.nsIn K mainGlobals "_law_odd" = some (some (.ref f_odd)))
    (l_odd : K.lookup f_odd = some ⟨oc_odd, od_odd, .func (PySem.W.fnOf "_law_odd" "_law_odd" (defArgs s__law_odd) (defBody s__law_odd) (defScope s__law_odd) .none kV_odd dc_odd pm_odd an_odd cd_odd ct_odd), sl_odd⟩)
    (c_odd : PySem.W.codeIn K cd_odd "_law_odd" = true)
    (k_odd : PySem.W.keepIn K (.ref f_odd) = true)
    (a_bent : PySem.W.nsIn K mainGlobals "_law_bent" = some (some (.ref f_bent)))
    (l_bent : K.lookup f_bent = some ⟨oc_bent, od_bent, .func (PySem.W.fnOf "_law_bent" "_law_bent" (defArgs s__law_bent) (defBody s__law_bent) (defScope s__law_bent) .none kV_bent dc_bent pm_bent an_bent cd_bent ct_bent), sl_bent⟩)
    (c_bent : PySem.W.codeIn K cd_bent "_law_bent" = true)
    (k_bent : PySem.W.keepIn K (.ref f_bent) = true)
    (a_asked : PySem.W.nsIn K mainGlobals "_law_asked_right" = some (some (.ref f_asked)))
    (l_asked : K.lookup f_asked = some ⟨oc_asked, od_asked, .func (PySem.W.fnOf "_law_asked_right" "_law_asked_right" (defArgs s__law_asked_right) (defBody s__law_asked_right) (defScope s__law_asked_right) .none kV_asked dc_asked pm_asked an_asked cd_asked ct_asked), sl_asked⟩)
    (c_asked : PySem.W.codeIn K cd_asked "_law_asked_right" = true)
    (k_asked : PySem.W.keepIn K (.ref f_asked) = true)
    (a_right : PySem.W.nsIn K mainGlobals "_law_right" = some (some (.ref f_right)))
    (l_right : K.lookup f_right = some ⟨oc_right, od_right, .func (PySem.W.fnOf "_law_right" "_law_right" (defArgs s__law_right) (defBody s__law_right) (defScope s__law_right) .none kV_right dc_right pm_right an_right cd_right ct_right), sl_right⟩)
    (c_right : PySem.W.codeIn K cd_right "_law_right" = true)
    (k_right : PySem.W.keepIn K (.ref f_right) = true)
    (a_law : PySem.W.nsIn K mainGlobals "law" = some (some (.ref f_law)))
    (l_law : K.lookup f_law = some ⟨oc_law, od_law, .func (PySem.W.fnOf "law" "law" (defArgs s_law) (defBody s_law) (defScope s_law) .none kV_law dc_law pm_law an_law cd_law ct_law), sl_law⟩)
    (c_law : PySem.W.codeIn K cd_law "law" = true)
    (k_law : PySem.W.keepIn K (.ref f_law) = true)
    (a_sin : PySem.W.findIn K (.ref CS) "__init__" = some (some (.ref f_sin)))
    (i_sin : PySem.W.isFn K (.ref f_sin) = true)
    (l_sin : K.lookup f_sin = some ⟨oc_sin, od_sin, .func (PySem.W.fnOf "__init__" "Statement.__init__" (defArgs s_Statement___init__) (defBody s_Statement___init__) (defScope s_Statement___init__) .none kV_sin dc_sin pm_sin an_sin cd_sin ct_sin), sl_sin⟩)
    (c_sin : PySem.W.codeIn K cd_sin "Statement.__init__" = true)
    (k_sin : PySem.W.keepIn K (.ref f_sin) = true)
    (a_pin : PySem.W.findIn K (.ref C) "__init__" = some (some (.ref f_pin)))
    (i_pin : PySem.W.isFn K (.ref f_pin) = true)
    (l_pin : K.lookup f_pin = some ⟨oc_pin, od_pin, .func (PySem.W.fnOf "__init__" "Parser.__init__" (defArgs s_Parser_init) (defBody s_Parser_init) (defScope s_Parser_init) .none kV_pin dc_pin pm_pin an_pin cd_pin ct_pin), sl_pin⟩)
    (c_pin : PySem.W.codeIn K cd_pin "Parser.__init__" = true)
    (k_pin : PySem.W.keepIn K (.ref f_pin) = true)
    (a_words_at : PySem.W.findIn K (.ref C) "words_at" = some (some (.ref f_words_at)))
    (i_words_at : PySem.W.isFn K (.ref f_words_at) = true)
    (l_words_at : K.lookup f_words_at = some ⟨oc_words_at, od_words_at, .func (PySem.W.fnOf "words_at" "Parser.words_at" (defArgs s_Parser_words_at) (defBody s_Parser_words_at) (defScope s_Parser_words_at) .none kV_words_at dc_words_at pm_words_at an_words_at cd_words_at ct_words_at), sl_words_at⟩)
    (c_words_at : PySem.W.codeIn K cd_words_at "Parser.words_at" = true)
    (k_words_at : PySem.W.keepIn K (.ref f_words_at) = true)
    (a_read_program : PySem.W.findIn K (.ref C) "read_program" = some (some (.ref f_read_program)))
    (i_read_program : PySem.W.isFn K (.ref f_read_program) = true)
    (l_read_program : K.lookup f_read_program = some ⟨oc_read_program, od_read_program, .func (PySem.W.fnOf "read_program" "Parser.read_program" (defArgs s_Parser_read_program) (defBody s_Parser_read_program) (defScope s_Parser_read_program) .none kV_read_program dc_read_program pm_read_program an_read_program cd_read_program ct_read_program), sl_read_program⟩)
    (c_read_program : PySem.W.codeIn K cd_read_program "Parser.read_program" = true)
    (k_read_program : PySem.W.keepIn K (.ref f_read_program) = true)
    (a_read_symbols : PySem.W.findIn K (.ref C) "read_symbols" = some (some (.ref f_read_symbols)))
    (i_read_symbols : PySem.W.isFn K (.ref f_read_symbols) = true)
    (l_read_symbols : K.lookup f_read_symbols = some ⟨oc_read_symbols, od_read_symbols, .func (PySem.W.fnOf "read_symbols" "Parser.read_symbols" (defArgs s_Parser_read_symbols) (defBody s_Parser_read_symbols) (defScope s_Parser_read_symbols) .none kV_read_symbols dc_read_symbols pm_read_symbols an_read_symbols cd_read_symbols ct_read_symbols), sl_read_symbols⟩)
    (c_read_symbols : PySem.W.codeIn K cd_read_symbols "Parser.read_symbols" = true)
    (k_read_symbols : PySem.W.keepIn K (.ref f_read_symbols) = true)
    (a_read_cell : PySem.W.findIn K (.ref C) "read_cell" = some (some (.ref f_read_cell)))
    (i_read_cell : PySem.W.isFn K (.ref f_read_cell) = true)
    (l_read_cell : K.lookup f_read_cell = some ⟨oc_read_cell, od_read_cell, .func (PySem.W.fnOf "read_cell" "Parser.read_cell" (defArgs s_Parser_read_cell) (defBody s_Parser_read_cell) (defScope s_Parser_read_cell) .none kV_read_cell dc_read_cell pm_read_cell an_read_cell cd_read_cell ct_read_cell), sl_read_cell⟩)
    (c_read_cell : PySem.W.codeIn K cd_read_cell "Parser.read_cell" = true)
    (k_read_cell : PySem.W.keepIn K (.ref f_read_cell) = true)
    (a_read_part : PySem.W.findIn K (.ref C) "read_part" = some (some (.ref f_read_part)))
    (i_read_part : PySem.W.isFn K (.ref f_read_part) = true)
    (l_read_part : K.lookup f_read_part = some ⟨oc_read_part, od_read_part, .func (PySem.W.fnOf "read_part" "Parser.read_part" (defArgs s_Parser_read_part) (defBody s_Parser_read_part) (defScope s_Parser_read_part) .none kV_read_part dc_read_part pm_read_part an_read_part cd_read_part ct_read_part), sl_read_part⟩)
    (c_read_part : PySem.W.codeIn K cd_read_part "Parser.read_part" = true)
    (k_read_part : PySem.W.keepIn K (.ref f_read_part) = true)
    (a_is_new_name : PySem.W.findIn K (.ref C) "is_new_name" = some (some (.ref f_is_new_name)))
    (i_is_new_name : PySem.W.isFn K (.ref f_is_new_name) = true)
    (l_is_new_name : K.lookup f_is_new_name = some ⟨oc_is_new_name, od_is_new_name, .func (PySem.W.fnOf "is_new_name" "Parser.is_new_name" (defArgs s_Parser_is_new_name) (defBody s_Parser_is_new_name) (defScope s_Parser_is_new_name) .none kV_is_new_name dc_is_new_name pm_is_new_name an_is_new_name cd_is_new_name ct_is_new_name), sl_is_new_name⟩)
    (c_is_new_name : PySem.W.codeIn K cd_is_new_name "Parser.is_new_name" = true)
    (k_is_new_name : PySem.W.keepIn K (.ref f_is_new_name) = true)
    (a_read_whole_body : PySem.W.findIn K (.ref C) "read_whole_body" = some (some (.ref f_read_whole_body)))
    (i_read_whole_body : PySem.W.isFn K (.ref f_read_whole_body) = true)
    (l_read_whole_body : K.lookup f_read_whole_body = some ⟨oc_read_whole_body, od_read_whole_body, .func (PySem.W.fnOf "read_whole_body" "Parser.read_whole_body" (defArgs s_Parser_read_whole_body) (defBody s_Parser_read_whole_body) (defScope s_Parser_read_whole_body) .none kV_read_whole_body dc_read_whole_body pm_read_whole_body an_read_whole_body cd_read_whole_body ct_read_whole_body), sl_read_whole_body⟩)
    (c_read_whole_body : PySem.W.codeIn K cd_read_whole_body "Parser.read_whole_body" = true)
    (k_read_whole_body : PySem.W.keepIn K (.ref f_read_whole_body) = true)
    (a_read_body : PySem.W.findIn K (.ref C) "read_body" = some (some (.ref f_read_body)))
    (i_read_body : PySem.W.isFn K (.ref f_read_body) = true)
    (l_read_body : K.lookup f_read_body = some ⟨oc_read_body, od_read_body, .func (PySem.W.fnOf "read_body" "Parser.read_body" (defArgs s_Parser_read_body) (defBody s_Parser_read_body) (defScope s_Parser_read_body) .none kV_read_body dc_read_body pm_read_body an_read_body cd_read_body ct_read_body), sl_read_body⟩)
    (c_read_body : PySem.W.codeIn K cd_read_body "Parser.read_body" = true)
    (k_read_body : PySem.W.keepIn K (.ref f_read_body) = true)
    (a_read_statement : PySem.W.findIn K (.ref C) "read_statement" = some (some (.ref f_read_statement)))
    (i_read_statement : PySem.W.isFn K (.ref f_read_statement) = true)
    (l_read_statement : K.lookup f_read_statement = some ⟨oc_read_statement, od_read_statement, .func (PySem.W.fnOf "read_statement" "Parser.read_statement" (defArgs s_Parser_read_statement) (defBody s_Parser_read_statement) (defScope s_Parser_read_statement) .none kV_read_statement dc_read_statement pm_read_statement an_read_statement cd_read_statement ct_read_statement), sl_read_statement⟩)
    (c_read_statement : PySem.W.codeIn K cd_read_statement "Parser.read_statement" = true)
    (k_read_statement : PySem.W.keepIn K (.ref f_read_statement) = true)
    (a_given_by : PySem.W.findIn K (.ref C) "given_by" = some (some (.ref f_given_by)))
    (i_given_by : PySem.W.isFn K (.ref f_given_by) = true)
    (l_given_by : K.lookup f_given_by = some ⟨oc_given_by, od_given_by, .func (PySem.W.fnOf "given_by" "Parser.given_by" (defArgs s_Parser_given_by) (defBody s_Parser_given_by) (defScope s_Parser_given_by) .none kV_given_by dc_given_by pm_given_by an_given_by cd_given_by ct_given_by), sl_given_by⟩)
    (c_given_by : PySem.W.codeIn K cd_given_by "Parser.given_by" = true)
    (k_given_by : PySem.W.keepIn K (.ref f_given_by) = true)
    (a_setting_by : PySem.W.findIn K (.ref C) "setting_by" = some (some (.ref f_setting_by)))
    (i_setting_by : PySem.W.isFn K (.ref f_setting_by) = true)
    (l_setting_by : K.lookup f_setting_by = some ⟨oc_setting_by, od_setting_by, .func (PySem.W.fnOf "setting_by" "Parser.setting_by" (defArgs s_Parser_setting_by) (defBody s_Parser_setting_by) (defScope s_Parser_setting_by) .none kV_setting_by dc_setting_by pm_setting_by an_setting_by cd_setting_by ct_setting_by), sl_setting_by⟩)
    (c_setting_by : PySem.W.codeIn K cd_setting_by "Parser.setting_by" = true)
    (k_setting_by : PySem.W.keepIn K (.ref f_setting_by) = true)
    (a_sum_by : PySem.W.findIn K (.ref C) "sum_by" = some (some (.ref f_sum_by)))
    (i_sum_by : PySem.W.isFn K (.ref f_sum_by) = true)
    (l_sum_by : K.lookup f_sum_by = some ⟨oc_sum_by, od_sum_by, .func (PySem.W.fnOf "sum_by" "Parser.sum_by" (defArgs s_Parser_sum_by) (defBody s_Parser_sum_by) (defScope s_Parser_sum_by) .none kV_sum_by dc_sum_by pm_sum_by an_sum_by cd_sum_by ct_sum_by), sl_sum_by⟩)
    (c_sum_by : PySem.W.codeIn K cd_sum_by "Parser.sum_by" = true)
    (k_sum_by : PySem.W.keepIn K (.ref f_sum_by) = true)
    (a_condition_by : PySem.W.findIn K (.ref C) "condition_by" = some (some (.ref f_condition_by)))
    (i_condition_by : PySem.W.isFn K (.ref f_condition_by) = true)
    (l_condition_by : K.lookup f_condition_by = some ⟨oc_condition_by, od_condition_by, .func (PySem.W.fnOf "condition_by" "Parser.condition_by" (defArgs s_Parser_condition_by) (defBody s_Parser_condition_by) (defScope s_Parser_condition_by) .none kV_condition_by dc_condition_by pm_condition_by an_condition_by cd_condition_by ct_condition_by), sl_condition_by⟩)
    (c_condition_by : PySem.W.codeIn K cd_condition_by "Parser.condition_by" = true)
    (k_condition_by : PySem.W.keepIn K (.ref f_condition_by) = true)
    (a_gin : PySem.W.findIn K (.ref CP) "__init__" = some (some (.ref f_gin)))
    (i_gin : PySem.W.isFn K (.ref f_gin) = true)
    (l_gin : K.lookup f_gin = some ⟨oc_gin, od_gin, .func (PySem.W.fnOf "__init__" "Program.__init__" (defArgs s_Program_init) (defBody s_Program_init) (defScope s_Program_init) .none kV_gin dc_gin pm_gin an_gin cd_gin ct_gin), sl_gin⟩)
    (c_gin : PySem.W.codeIn K cd_gin "Program.__init__" = true)
    (k_gin : PySem.W.keepIn K (.ref f_gin) = true)
    (z_len : PySem.W.nsIn K mainGlobals "len" = some none)
    (z_int : PySem.W.nsIn K mainGlobals "int" = some none)
    (z_abs : PySem.W.nsIn K mainGlobals "abs" = some none)
    (z_str : PySem.W.nsIn K mainGlobals "str" = some none)
    (z_list : PySem.W.nsIn K mainGlobals "list" = some none)
    (z_tuple : PySem.W.nsIn K mainGlobals "tuple" = some none)
    (z_range : PySem.W.nsIn K mainGlobals "range" = some none)
    (z_all : PySem.W.nsIn K mainGlobals "all" = some none)
    (z_sorted : PySem.W.nsIn K mainGlobals "sorted" = some none)
    (z_set : PySem.W.nsIn K mainGlobals "set" = some none)
    (z_zip : PySem.W.nsIn K mainGlobals "zip" = some none)
    (z_isinstance : PySem.W.nsIn K mainGlobals "isinstance" = some none)
    (z_bool : PySem.W.nsIn K mainGlobals "bool" = some none)
    (z_repr : PySem.W.nsIn K mainGlobals "repr" = some none)
    (z_max : PySem.W.nsIn K mainGlobals "max" = some none)
    (z_min : PySem.W.nsIn K mainGlobals "min" = some none)
    (v_ALPHABET : PySem.W.nsIn K mainGlobals "ALPHABET" = some (some (.str alpha t1)))
    (v_MOST_CELLS : PySem.W.nsIn K mainGlobals "MOST_CELLS" = some (some (.int 2 t2)))
    (v_MOST_PARTS : PySem.W.nsIn K mainGlobals "MOST_PARTS" = some (some (.int 2 t3)))
    (v_MOST_STATEMENTS : PySem.W.nsIn K mainGlobals "MOST_STATEMENTS" = some (some (.int 20 t4)))
    (v_MOST_BODIES : PySem.W.nsIn K mainGlobals "MOST_BODIES" = some (some (.int 4 t5)))
    (v_LONGEST_NAME : PySem.W.nsIn K mainGlobals "LONGEST_NAME" = some (some (.int 8 t6)))
    (v_VALUES : PySem.W.nsIn K mainGlobals "VALUES" = some (some (.ref aV)))
    (l_VALUES : K.lookup aV = some ⟨.type "tuple", od_aV, .seq #[.str "0" k_aV_0, .str "1" k_aV_1, .str "2" k_aV_2] n_aV, sl_aV⟩)
    (v_BARE_WORDS : PySem.W.nsIn K mainGlobals "BARE_WORDS" = some (some (.ref aB)))
    (l_BARE_WORDS : K.lookup aB = some ⟨.type "tuple", od_aB, .seq #[.str "right" k_aB_0, .str "left" k_aB_1, .str "copy" k_aB_2, .str "stop" k_aB_3] n_aB, sl_aB⟩)
    (v_WORDS : PySem.W.nsIn K mainGlobals "WORDS" = some (some (.ref aW)))
    (l_WORDS : K.lookup aW = some ⟨.type "tuple", od_aW, .seq #[.str "symbols" k_aW_0, .str "cell" k_aW_1, .str "part" k_aW_2, .str "main" k_aW_3, .str "right" k_aW_4, .str "left" k_aW_5, .str "write" k_aW_6, .str "copy" k_aW_7, .str "set" k_aW_8, .str "add" k_aW_9, .str "if" k_aW_10, .str "else" k_aW_11, .str "while" k_aW_12, .str "do" k_aW_13, .str "stop" k_aW_14, .str "at" k_aW_15, .str "not" k_aW_16] n_aW, sl_aW⟩)
    (d1 : CP ≠ CS)
    (d2 : CP ≠ C)
    (d3 : C ≠ CS) :
    ∃ fd : FuncData, (∀ (s : Shared) (v : Value), BindsTo s fd ⟨[v], []⟩ [("_law_script", v)]) ∧ ∀ base : Heap, K.In base → base.Ns mainGlobals mg → FnOkG l.prog w K mg base 21 fa fd ["_law_script"] (spLaw K) := by
  have e := hfa.symm.trans (PySem.W.mg_of X G a_law)
  cases e
  have F_link := fun_mk (st := s_link) l_link c_link k_link
  have b_link := F_link.binds (ps := ["body", "end"]) fun _ _ _ _ _ _ us hl => match us, hl with | [_, _], _ => rfl
  have m_link := PySem.W.mg_of X G a_link
  have F_parse := fun_mk (st := s_parse) l_parse c_parse k_parse
  have b_parse := F_parse.binds (ps := ["text"]) fun _ _ _ _ _ _ us hl => match us, hl with | [_], _ => rfl
  have m_parse := PySem.W.mg_of X G a_parse
  have F_iol := fun_mk (st := s_is_of_letters) l_iol c_iol k_iol
  have b_iol := F_iol.binds (ps := ["word"]) fun _ _ _ _ _ _ us hl => match us, hl with | [_], _ => rfl
  have m_iol := PySem.W.mg_of X G a_iol
  have F_iio := fun_mk (st := s_is_in_order) l_iio c_iio k_iio
  have b_iio := F_iio.binds (ps := ["word", "order"]) fun _ _ _ _ _ _ us hl => match us, hl with | [_, _], _ => rfl
  have m_iio := PySem.W.mg_of X G a_iio
  have F_let := fun_mk (st := s_letters_of) l_let c_let k_let
  have b_let := F_let.binds (ps := ["program"]) fun _ _ _ _ _ _ us hl => match us, hl with | [_], _ => rfl
  have m_let := PySem.W.mg_of X G a_let
  have F_num := fun_mk (st := s_is_number) l_num c_num k_num
  have b_num := F_num.binds (ps := ["value"]) fun _ _ _ _ _ _ us hl => match us, hl with | [_], _ => rfl
  have m_num := PySem.W.mg_of X G a_num
  have F_form := fun_mk (st := s_has_form) l_form c_form k_form
  have b_form := F_form.binds (ps := ["symbols", "value"]) fun _ _ _ _ _ _ us hl => match us, hl with | [_, _], _ => rfl
  have m_form := PySem.W.mg_of X G a_form
  have F_moves := fun_mk (st := s_is_moves) l_moves c_moves k_moves
  have b_moves := F_moves.binds (ps := ["symbols", "value"]) fun _ _ _ _ _ _ us hl => match us, hl with | [_, _], _ => rfl
  have m_moves := PySem.W.mg_of X G a_moves
  have F_state := fun_mk (st := s_is_state) l_state c_state k_state
  have b_state := F_state.binds (ps := ["value", "many"]) fun _ _ _ _ _ _ us hl => match us, hl with | [_, _], _ => rfl
  have m_state := PySem.W.mg_of X G a_state
  have F_word := fun_mk (st := s_is_word) l_word c_word k_word
  have b_word := F_word.binds (ps := ["value"]) fun _ _ _ _ _ _ us hl => match us, hl with | [_], _ => rfl
  have m_word := PySem.W.mg_of X G a_word
  have F_marks := fun_mk (st := s_is_marks) l_marks c_marks k_marks
  have b_marks := F_marks.binds (ps := ["value", "many"]) fun _ _ _ _ _ _ us hl => match us, hl with | [_, _], _ => rfl
  have m_marks := PySem.W.mg_of X G a_marks
  have F_words := fun_mk (st := s_is_words) l_words c_words k_words
  have b_words := F_words.binds (ps := ["symbols", "value", "lefts", "rights"]) fun _ _ _ _ _ _ us hl => match us, hl with | [_, _, _, _], _ => rfl
  have m_words := PySem.W.mg_of X G a_words
  have F_place := fun_mk (st := s_is_place) l_place c_place k_place
  have b_place := F_place.binds (ps := ["symbols", "row", "lefts", "rights"]) fun _ _ _ _ _ _ us hl => match us, hl with | [_, _, _, _], _ => rfl
  have m_place := PySem.W.mg_of X G a_place
  have F_asc := fun_mk (st := s_is_ascending) l_asc c_asc k_asc
  have b_asc := F_asc.binds (ps := ["keys"]) fun _ _ _ _ _ _ us hl => match us, hl with | [_], _ => rfl
  have m_asc := PySem.W.mg_of X G a_asc
  have F_writer := fun_mk (st := s_is_writer) l_writer c_writer k_writer
  have b_writer := F_writer.binds (ps := ["program", "value"]) fun _ _ _ _ _ _ us hl => match us, hl with | [_, _], _ => rfl
  have m_writer := PySem.W.mg_of X G a_writer
  have F_pot := fun_mk (st := s__law_pot_of) l_pot c_pot k_pot
  have b_pot := F_pot.binds (ps := ["_law_script", "_law_k"]) fun _ _ _ _ _ _ us hl => match us, hl with | [_, _], _ => rfl
  have m_pot := PySem.W.mg_of X G a_pot
  have F_take := fun_mk (st := s__law_take) l_take c_take k_take
  have b_take := F_take.binds (ps := ["_law_pot", "_law_upto"]) fun _ _ _ _ _ _ us hl => match us, hl with | [_, _], _ => rfl
  have m_take := PySem.W.mg_of X G a_take
  have F_of := fun_mk (st := s__law_of) l_of c_of k_of
  have b_of := F_of.binds (ps := ["_law_pot", "_law_some"]) fun _ _ _ _ _ _ us hl => match us, hl with | [_, _], _ => rfl
  have m_of := PySem.W.mg_of X G a_of
  have F_lnum := fun_mk (st := s__law_is_number) l_lnum c_lnum k_lnum
  have b_lnum := F_lnum.binds (ps := ["_law_thing", "_law_upto"]) fun _ _ _ _ _ _ us hl => match us, hl with | [_, _], _ => rfl
  have m_lnum := PySem.W.mg_of X G a_lnum
  have F_ink := fun_mk (st := s__law_is_ink) l_ink c_ink k_ink
  have b_ink := F_ink.binds (ps := ["_law_thing"]) fun _ _ _ _ _ _ us hl => match us, hl with | [_], _ => rfl
  have m_ink := PySem.W.mg_of X G a_ink
  have F_lst := fun_mk (st := s__law_are_steps) l_lst c_lst k_lst
  have b_lst := F_lst.binds (ps := ["_law_thing", "_law_many"]) fun _ _ _ _ _ _ us hl => match us, hl with | [_, _], _ => rfl
  have m_lst := PySem.W.mg_of X G a_lst
  have F_lsd := fun_mk (st := s__law_are_said) l_lsd c_lsd k_lsd
  have b_lsd := F_lsd.binds (ps := ["_law_thing", "_law_upto"]) fun _ _ _ _ _ _ us hl => match us, hl with | [_, _], _ => rfl
  have m_lsd := PySem.W.mg_of X G a_lsd
  have F_lrow := fun_mk (st := s__law_is_row) l_lrow c_lrow k_lrow
  have b_lrow := F_lrow.binds (ps := ["_law_symbols", "_law_thing", "_law_many_lefts", "_law_many_rights"]) fun _ _ _ _ _ _ us hl => match us, hl with | [_, _, _, _], _ => rfl
  have m_lrow := PySem.W.mg_of X G a_lrow
  have F_lwr := fun_mk (st := s__law_is_writer) l_lwr c_lwr k_lwr
  have b_lwr := F_lwr.binds (ps := ["_law_symbols", "_law_thing"]) fun _ _ _ _ _ _ us hl => match us, hl with | [_, _], _ => rfl
  have m_lwr := PySem.W.mg_of X G a_lwr
  have F_said := fun_mk (st := s__law_said) l_said c_said k_said
  have b_said := F_said.binds (ps := ["_law_pot", "_law_upto"]) fun _ _ _ _ _ _ us hl => match us, hl with | [_, _], _ => rfl
  have m_said := PySem.W.mg_of X G a_said
  have F_stp := fun_mk (st := s__law_steps) l_stp c_stp k_stp
  have b_stp := F_stp.binds (ps := ["_law_pot", "_law_many", "_law_upto"]) fun _ _ _ _ _ _ us hl => match us, hl with | [_, _, _], _ => rfl
  have m_stp := PySem.W.mg_of X G a_stp
  have F_draw := fun_mk (st := s__law_drawn_writer) l_draw c_draw k_draw
  have b_draw := F_draw.binds (ps := ["_law_pot", "_law_symbols", "_law_most"]) fun _ _ _ _ _ _ us hl => match us, hl with | [_, _, _], _ => rfl
  have m_draw := PySem.W.mg_of X G a_draw
  have F_bare := fun_mk (st := s__law_bare) l_bare c_bare k_bare
  have b_bare := F_bare.binds (ps := ["_law_pot"]) fun _ _ _ _ _ _ us hl => match us, hl with | [_], _ => rfl
  have m_bare := PySem.W.mg_of X G a_bare
  have F_odd := fun_mk (st := s__law_odd) l_odd c_odd k_odd
  have b_odd := F_odd.binds (ps := ["_law_pot"]) fun _ _ _ _ _ _ us hl => match us, hl with | [_], _ => rfl
  have m_odd := PySem.W.mg_of X G a_odd
  have F_bent := fun_mk (st := s__law_bent) l_bent c_bent k_bent
  have b_bent := F_bent.binds (ps := ["_law_pot", "_law_thing", "_law_deep"]) fun _ _ _ _ _ _ us hl => match us, hl with | [_, _, _], _ => rfl
  have m_bent := PySem.W.mg_of X G a_bent
  have F_asked := fun_mk (st := s__law_asked_right) l_asked c_asked k_asked
  have b_asked := F_asked.binds (ps := ["_law_engine", "_law_symbols", "_law_thing"]) fun _ _ _ _ _ _ us hl => match us, hl with | [_, _, _], _ => rfl
  have m_asked := PySem.W.mg_of X G a_asked
  have F_right := fun_mk (st := s__law_right) l_right c_right k_right
  have b_right := F_right.binds (ps := ["_law_pot"]) fun _ _ _ _ _ _ us hl => match us, hl with | [_], _ => rfl
  have m_right := PySem.W.mg_of X G a_right
  have F_law := fun_mk (st := s_law) l_law c_law k_law
  have b_law := F_law.binds (ps := ["_law_script"]) fun _ _ _ _ _ _ us hl => match us, hl with | [_], _ => rfl
  have m_law := PySem.W.mg_of X G a_law
  have F_sin := fun_mk (st := s_Statement___init__) l_sin c_sin k_sin
  have b_sin := F_sin.binds (ps := ["self", "line", "word", "given"]) fun _ _ _ _ _ _ us hl => match us, hl with | [_, _, _, _], _ => rfl
  have m_sin : Meth K CS "__init__" f_sin := ⟨a_sin, i_sin, k_sin⟩
  have F_pin := fun_mk (st := s_Parser_init) l_pin c_pin k_pin
  have b_pin := F_pin.binds (ps := ["self", "text"]) fun _ _ _ _ _ _ us hl => match us, hl with | [_, _], _ => rfl
  have m_pin : Meth K C "__init__" f_pin := ⟨a_pin, i_pin, k_pin⟩
  have F_words_at := fun_mk (st := s_Parser_words_at) l_words_at c_words_at k_words_at
  have b_words_at := F_words_at.binds (ps := ["self", "depth"]) fun _ _ _ _ _ _ us hl => match us, hl with | [_, _], _ => rfl
  have m_words_at : Meth K C "words_at" f_words_at := ⟨a_words_at, i_words_at, k_words_at⟩
  have F_read_program := fun_mk (st := s_Parser_read_program) l_read_program c_read_program k_read_program
  have b_read_program := F_read_program.binds (ps := ["self"]) fun _ _ _ _ _ _ us hl => match us, hl with | [_], _ => rfl
  have m_read_program : Meth K C "read_program" f_read_program := ⟨a_read_program, i_read_program, k_read_program⟩
  have F_read_symbols := fun_mk (st := s_Parser_read_symbols) l_read_symbols c_read_symbols k_read_symbols
  have b_read_symbols := F_read_symbols.binds (ps := ["self"]) fun _ _ _ _ _ _ us hl => match us, hl with | [_], _ => rfl
  have m_read_symbols : Meth K C "read_symbols" f_read_symbols := ⟨a_read_symbols, i_read_symbols, k_read_symbols⟩
  have F_read_cell := fun_mk (st := s_Parser_read_cell) l_read_cell c_read_cell k_read_cell
  have b_read_cell := F_read_cell.binds (ps := ["self"]) fun _ _ _ _ _ _ us hl => match us, hl with | [_], _ => rfl
  have m_read_cell : Meth K C "read_cell" f_read_cell := ⟨a_read_cell, i_read_cell, k_read_cell⟩
  have F_read_part := fun_mk (st := s_Parser_read_part) l_read_part c_read_part k_read_part
  have b_read_part := F_read_part.binds (ps := ["self"]) fun _ _ _ _ _ _ us hl => match us, hl with | [_], _ => rfl
  have m_read_part : Meth K C "read_part" f_read_part := ⟨a_read_part, i_read_part, k_read_part⟩
  have F_is_new_name := fun_mk (st := s_Parser_is_new_name) l_is_new_name c_is_new_name k_is_new_name
  have b_is_new_name := F_is_new_name.binds (ps := ["self", "word"]) fun _ _ _ _ _ _ us hl => match us, hl with | [_, _], _ => rfl
  have m_is_new_name : Meth K C "is_new_name" f_is_new_name := ⟨a_is_new_name, i_is_new_name, k_is_new_name⟩
  have F_read_whole_body := fun_mk (st := s_Parser_read_whole_body) l_read_whole_body c_read_whole_body k_read_whole_body
  have b_read_whole_body := F_read_whole_body.binds (ps := ["self"]) fun _ _ _ _ _ _ us hl => match us, hl with | [_], _ => rfl
  have m_read_whole_body : Meth K C "read_whole_body" f_read_whole_body := ⟨a_read_whole_body, i_read_whole_body, k_read_whole_body⟩
  have F_read_body := fun_mk (st := s_Parser_read_body) l_read_body c_read_body k_read_body
  have b_read_body := F_read_body.binds (ps := ["self", "depth"]) fun _ _ _ _ _ _ us hl => match us, hl with | [_, _], _ => rfl
  have m_read_body : Meth K C "read_body" f_read_body := ⟨a_read_body, i_read_body, k_read_body⟩
  have F_read_statement := fun_mk (st := s_Parser_read_statement) l_read_statement c_read_statement k_read_statement
  have b_read_statement := F_read_statement.binds (ps := ["self", "depth"]) fun _ _ _ _ _ _ us hl => match us, hl with | [_, _], _ => rfl
  have m_read_statement : Meth K C "read_statement" f_read_statement := ⟨a_read_statement, i_read_statement, k_read_statement⟩
  have F_given_by := fun_mk (st := s_Parser_given_by) l_given_by c_given_by k_given_by
  have b_given_by := F_given_by.binds (ps := ["self", "words"]) fun _ _ _ _ _ _ us hl => match us, hl with | [_, _], _ => rfl
  have m_given_by : Meth K C "given_by" f_given_by := ⟨a_given_by, i_given_by, k_given_by⟩
  have F_setting_by := fun_mk (st := s_Parser_setting_by) l_setting_by c_setting_by k_setting_by
  have b_setting_by := F_setting_by.binds (ps := ["self", "words"]) fun _ _ _ _ _ _ us hl => match us, hl with | [_, _], _ => rfl
  have m_setting_by : Meth K C "setting_by" f_setting_by := ⟨a_setting_by, i_setting_by, k_setting_by⟩
  have F_sum_by := fun_mk (st := s_Parser_sum_by) l_sum_by c_sum_by k_sum_by
  have b_sum_by := F_sum_by.binds (ps := ["self", "words"]) fun _ _ _ _ _ _ us hl => match us, hl with | [_, _], _ => rfl
  have m_sum_by : Meth K C "sum_by" f_sum_by := ⟨a_sum_by, i_sum_by, k_sum_by⟩
  have F_condition_by := fun_mk (st := s_Parser_condition_by) l_condition_by c_condition_by k_condition_by
  have b_condition_by := F_condition_by.binds (ps := ["self", "words"]) fun _ _ _ _ _ _ us hl => match us, hl with | [_, _], _ => rfl
  have m_condition_by : Meth K C "condition_by" f_condition_by := ⟨a_condition_by, i_condition_by, k_condition_by⟩
  have F_gin := fun_mk (st := s_Program_init) l_gin c_gin k_gin
  have b_gin := F_gin.binds (ps := ["self", "text"]) fun _ _ _ _ _ _ us hl => match us, hl with | [_, _], _ => rfl
  have m_gin : Meth K CP "__init__" f_gin := ⟨a_gin, i_gin, k_gin⟩
  have T_C : PTxt K C := ⟨⟨pg_C, hd_C, po_C, sa_C⟩, n_C_lines, n_C_number, n_C_symbols, n_C_mosts, n_C_starts, n_C_statements, n_C_first⟩
  have g_C := PySem.W.mg_of X G a_C
  have T_CS : STxt K CS := ⟨⟨pg_CS, hd_CS, po_CS, sa_CS⟩, n_CS_line, n_CS_word, n_CS_given, n_CS_inside, n_CS_otherwise, n_CS_follow⟩
  have g_CS := PySem.W.mg_of X G a_CS
  have T_CP : GTxt K CP := ⟨⟨pg_CP, hd_CP, po_CP, sa_CP⟩, n_CP_text, n_CP_symbols, n_CP_cells, n_CP_parts, n_CP_statements, n_CP_first, n_CP_letters⟩
  have g_CP := PySem.W.mg_of X G a_CP
  have y_len := PySem.W.mg_none_of X G z_len
  have y_int := PySem.W.mg_none_of X G z_int
  have y_abs := PySem.W.mg_none_of X G z_abs
  have y_str := PySem.W.mg_none_of X G z_str
  have y_list := PySem.W.mg_none_of X G z_list
  have y_tuple := PySem.W.mg_none_of X G z_tuple
  have y_range := PySem.W.mg_none_of X G z_range
  have y_all := PySem.W.mg_none_of X G z_all
  have y_sorted := PySem.W.mg_none_of X G z_sorted
  have y_set := PySem.W.mg_none_of X G z_set
  have y_zip := PySem.W.mg_none_of X G z_zip
  have y_isinstance := PySem.W.mg_none_of X G z_isinstance
  have y_bool := PySem.W.mg_none_of X G z_bool
  have y_repr := PySem.W.mg_none_of X G z_repr
  have y_max := PySem.W.mg_none_of X G z_max
  have y_min := PySem.W.mg_none_of X G z_min
  have T : Bare mg := ⟨y_len, y_int, y_abs, y_str, y_list, y_tuple, y_range⟩
  have T1 : Consts K mg := ⟨⟨_, PySem.W.mg_of X G v_ALPHABET⟩, ⟨_, PySem.W.mg_of X G v_MOST_CELLS⟩, ⟨_, PySem.W.mg_of X G v_MOST_PARTS⟩, ⟨_, PySem.W.mg_of X G v_MOST_STATEMENTS⟩, ⟨_, PySem.W.mg_of X G v_MOST_BODIES⟩, ⟨_, PySem.W.mg_of X G v_LONGEST_NAME⟩, y_all, y_sorted, y_set⟩
  have T2 : Consts2 K mg := ⟨⟨_, PySem.W.mg_of X G v_VALUES, tup_in l_VALUES (Nat.le_of_ble_eq_true rfl) (.cons ⟨_, rfl⟩ (.cons ⟨_, rfl⟩ (.cons ⟨_, rfl⟩ .nil)))⟩, ⟨_, PySem.W.mg_of X G v_BARE_WORDS, tup_in l_BARE_WORDS (Nat.le_of_ble_eq_true rfl) (.cons ⟨_, rfl⟩ (.cons ⟨_, rfl⟩ (.cons ⟨_, rfl⟩ (.cons ⟨_, rfl⟩ .nil))))⟩, ⟨_, PySem.W.mg_of X G v_WORDS, tup_in l_WORDS (Nat.le_of_ble_eq_true rfl) (.cons ⟨_, rfl⟩ (.cons ⟨_, rfl⟩ (.cons ⟨_, rfl⟩ (.cons ⟨_, rfl⟩ (.cons ⟨_, rfl⟩ (.cons ⟨_, rfl⟩ (.cons ⟨_, rfl⟩ (.cons ⟨_, rfl⟩ (.cons ⟨_, rfl⟩ (.cons ⟨_, rfl⟩ (.cons ⟨_, rfl⟩ (.cons ⟨_, rfl⟩ (.cons ⟨_, rfl⟩ (.cons ⟨_, rfl⟩ (.cons ⟨_, rfl⟩ (.cons ⟨_, rfl⟩ (.cons ⟨_, rfl⟩ .nil)))))))))))))))))⟩⟩
  have CC : Con K mg := ⟨y_isinstance, y_bool, y_all, y_repr, y_zip, y_max, y_min, y_sorted, y_set⟩
  refine ⟨PySem.W.fnOf "law" "law" (defArgs s_law) (defBody s_law) (defScope s_law) .none kV_law dc_law pm_law an_law cd_law ct_law, fun s v => .of_eq rfl, fun base _ _ => ?_⟩
  have CT : Callee l.prog w K mg base 1 "_law_take" ["_law_pot", "_law_upto"] spTake := ⟨f_take, _, ok_take F_take T, m_take, k_take, b_take⟩
  have CO : Callee l.prog w K mg base 2 "_law_of" ["_law_pot", "_law_some"] (spOf K) := ⟨f_of, _, ok_of F_of T CT, m_of, k_of, b_of⟩
  have CPot : Callee l.prog w K mg base 1 "_law_pot_of" ["_law_script", "_law_k"] (spPotOf K) := ⟨f_pot, _, ok_pot_of F_pot T, m_pot, k_pot, b_pot⟩
  have CLet : Callee l.prog w K mg base 1 "is_of_letters" ["word"] (spText1 ofLetters) := ⟨f_iol, _, ok_is_of_letters F_iol T1, m_iol, k_iol, b_iol⟩
  have COrd : Callee l.prog w K mg base 1 "is_in_order" ["word", "order"] spOrder := ⟨f_iio, _, ok_is_in_order F_iio T1, m_iio, k_iio, b_iio⟩
  have MW : Meter l.prog w K mg base C 1 "words_at" ["self", "depth"] (spWords C) := ⟨f_words_at, _, ok_words_at F_words_at T T_C, m_words_at, b_words_at⟩
  have MSet : Meter l.prog w K mg base C 1 "setting_by" ["self", "words"] (spSetting K C) := ⟨f_setting_by, _, ok_setting_by F_setting_by T T2 T_C, m_setting_by, b_setting_by⟩
  have MSum : Meter l.prog w K mg base C 1 "sum_by" ["self", "words"] (spSum K C) := ⟨f_sum_by, _, ok_sum_by F_sum_by T T_C, m_sum_by, b_sum_by⟩
  have MCo : Meter l.prog w K mg base C 2 "condition_by" ["self", "words"] (spCond K C) := ⟨f_condition_by, _, ok_condition_by F_condition_by T T_C COrd MSet, m_condition_by, b_condition_by⟩
  have MGi : Meter l.prog w K mg base C 3 "given_by" ["self", "words"] (spGiven K C) := ⟨f_given_by, _, ok_given_by F_given_by T T2 T_C CLet MSet MSum MCo, m_given_by, b_given_by⟩
  let MI : Maker l.prog w K mg base CS 1 "Statement" ["self", "line", "word", "given"] (spStInit CS) := ⟨f_sin, _, ok_st_init F_sin T_CS, ⟨mk_CS, a_sin, i_sin, kc_CS⟩, g_CS, b_sin⟩
  have OB : FnOk l.prog w K mg base CX0 12 f_read_body _ ["self", "depth"] (spBod C CS 1) := ok_bodies F_read_body F_read_statement m_read_body m_read_statement b_read_body b_read_statement T T1 T_C T_CS MW MGi MI 4 (by decide)
  have MBo : Meter l.prog w K mg base C 12 "read_body" ["self", "depth"] (spBod C CS 1) := ⟨f_read_body, _, OB, m_read_body, b_read_body⟩
  have CLi : Callee l.prog w K mg base 5 "link" ["body", "end"] (spLink CS 5) := ⟨f_link, _, ok_link F_link T_CS y_zip m_link b_link 5, m_link, k_link, b_link⟩
  have MWh : Meter l.prog w K mg base C 13 "read_whole_body" ["self"] (spWhole C CS) := ⟨f_read_whole_body, _, ok_read_whole_body F_read_whole_body T_C T_CS MBo CLi, m_read_whole_body, b_read_whole_body⟩
  have MNew : Meter l.prog w K mg base C 2 "is_new_name" ["self", "word"] (spNew C) := ⟨f_is_new_name, _, ok_is_new_name F_is_new_name T T1 T2 T_C CLet, m_is_new_name, b_is_new_name⟩
  have MCe : Meter l.prog w K mg base C 3 "read_cell" ["self"] (spCell C CS) := ⟨f_read_cell, _, ok_read_cell F_read_cell T T1 T_C MW MNew, m_read_cell, b_read_cell⟩
  have MPa : Meter l.prog w K mg base C 14 "read_part" ["self"] (spPart C CS) := ⟨f_read_part, _, ok_read_part F_read_part T T1 T_C MW MNew MWh, m_read_part, b_read_part⟩
  have MSy : Meter l.prog w K mg base C 2 "read_symbols" ["self"] (spSyms C CS) := ⟨f_read_symbols, _, ok_read_symbols F_read_symbols T T1 T_C MW COrd, m_read_symbols, b_read_symbols⟩
  have MPr : Meter l.prog w K mg base C 15 "read_program" ["self"] (spProg C CS) := ⟨f_read_program, _, ok_read_program F_read_program T T_C MW MSy MCe MPa MWh, m_read_program, b_read_program⟩
  let MK : Maker l.prog w K mg base C 1 "Parser" ["self", "text"] (spPInit C) := ⟨f_pin, _, ok_parser_init F_pin T_C, ⟨mk_C, a_pin, i_pin, kc_C⟩, g_C, b_pin⟩
  have CPa : Callee l.prog w K mg base 16 "parse" ["text"] (spParse C CS) := ⟨f_parse, _, ok_parse F_parse T y_isinstance T_C d3 MK MPr, m_parse, k_parse, b_parse⟩
  have CLs : Callee l.prog w K mg base 1 "letters_of" ["program"] (spLetters CP CS) := ⟨f_let, _, ok_letters_of F_let T y_set y_sorted T_CP T_CS, m_let, k_let, b_let⟩
  let MG : Maker l.prog w K mg base CP 17 "Program" ["self", "text"] (spGInit CP CS) := ⟨f_gin, _, ok_program_init F_gin T T_C T_CP d1 d2 CPa CLs, ⟨mk_CP, a_gin, i_gin, kc_CP⟩, g_CP, b_gin⟩
  have CNu : Callee l.prog w K mg base 1 "is_number" ["value"] (spNum K) := ⟨f_num, _, ok_num F_num T CC, m_num, k_num, b_num⟩
  have CSt : Callee l.prog w K mg base 2 "is_state" ["value", "many"] (spTestN K isState) := ⟨f_state, _, ok_state F_state CNu, m_state, k_state, b_state⟩
  have CWo : Callee l.prog w K mg base 2 "is_word" ["value"] (spTest K inkOk) := ⟨f_word, _, ok_word F_word T CC CLet, m_word, k_word, b_word⟩
  have CAs : Callee l.prog w K mg base 1 "is_ascending" ["keys"] (spAsc K) := ⟨f_asc, _, ok_asc F_asc CC, m_asc, k_asc, b_asc⟩
  have CMv : Callee l.prog w K mg base 3 "is_moves" ["symbols", "value"] (spMoves K) := ⟨f_moves, _, ok_moves F_moves T CC CSt, m_moves, k_moves, b_moves⟩
  have CMk : Callee l.prog w K mg base 3 "is_marks" ["value", "many"] (spTestN K marksOk) := ⟨f_marks, _, ok_marks F_marks T CC CSt CWo CAs, m_marks, k_marks, b_marks⟩
  have CPc : Callee l.prog w K mg base 3 "is_place" ["symbols", "row", "lefts", "rights"] (spPlace K) := ⟨f_place, _, ok_place F_place T CC CSt CWo, m_place, k_place, b_place⟩
  have CWs : Callee l.prog w K mg base 4 "is_words" ["symbols", "value", "lefts", "rights"] (spPlaces K) := ⟨f_words, _, ok_places F_words T CC CPc CAs, m_words, k_words, b_words⟩
  have CFo : Callee l.prog w K mg base 5 "has_form" ["symbols", "value"] (spForm K) := ⟨f_form, _, ok_form F_form T CC CMv CMk CWs, m_form, k_form, b_form⟩
  let CWr : Callee l.prog w K mg base 6 "is_writer" ["program", "value"] (spWriter K CP) := ⟨f_writer, _, ok_writer F_writer T_CP CFo, m_writer, k_writer, b_writer⟩
  have CLn : Callee l.prog w K mg base 1 "_law_is_number" ["_law_thing", "_law_upto"] (spTestN K isState) := ⟨f_lnum, _, ok_lnum F_lnum T CC, m_lnum, k_lnum, b_lnum⟩
  have CIk : Callee l.prog w K mg base 1 "_law_is_ink" ["_law_thing"] (spTest K inkOk) := ⟨f_ink, _, ok_lawink F_ink T CC, m_ink, k_ink, b_ink⟩
  have CLt : Callee l.prog w K mg base 2 "_law_are_steps" ["_law_thing", "_law_many"] (spTestN K movesOk) := ⟨f_lst, _, ok_lsteps F_lst T CC CLn, m_lst, k_lst, b_lst⟩
  have CLd : Callee l.prog w K mg base 2 "_law_are_said" ["_law_thing", "_law_upto"] (spTestN K marksOk) := ⟨f_lsd, _, ok_lsaid F_lsd T CC CLn CIk, m_lsd, k_lsd, b_lsd⟩
  have CLr : Callee l.prog w K mg base 2 "_law_is_row" ["_law_symbols", "_law_thing", "_law_many_lefts", "_law_many_rights"] (spRow K) := ⟨f_lrow, _, ok_lrow F_lrow T CC CLn CIk, m_lrow, k_lrow, b_lrow⟩
  have CLw : Callee l.prog w K mg base 3 "_law_is_writer" ["_law_symbols", "_law_thing"] (spForm K) := ⟨f_lwr, _, ok_lwriter F_lwr T CC CLt CLd CLr, m_lwr, k_lwr, b_lwr⟩
  have CSd : Callee l.prog w K mg base 3 "_law_said" ["_law_pot", "_law_upto"] (spSaid K) := ⟨f_said, _, ok_said F_said T CT CO, m_said, k_said, b_said⟩
  have CSp : Callee l.prog w K mg base 2 "_law_steps" ["_law_pot", "_law_many", "_law_upto"] (spSteps K) := ⟨f_stp, _, ok_steps F_stp T CC CT, m_stp, k_stp, b_stp⟩
  have CDr : Callee l.prog w K mg base 4 "_law_drawn_writer" ["_law_pot", "_law_symbols", "_law_most"] (spDraw K) := ⟨f_draw, _, ok_draw F_draw T CT CO CSp CSd, m_draw, k_draw, b_draw⟩
  have CBa : Callee l.prog w K mg base 19 "_law_bare" ["_law_pot"] (spBare CP CS) := ⟨f_bare, _, ok_bare F_bare CO MG, m_bare, k_bare, b_bare⟩
  have COd : Callee l.prog w K mg base 3 "_law_odd" ["_law_pot"] (spOdd K) := ⟨f_odd, _, ok_odd F_odd T CO, m_odd, k_odd, b_odd⟩
  have CBe : Callee l.prog w K mg base 8 "_law_bent" ["_law_pot", "_law_thing", "_law_deep"] (spBents K 5) := ⟨f_bent, _, ok_bent F_bent T CC CT CO COd m_bent b_bent 5, m_bent, k_bent, b_bent⟩
  have OA := ok_asked F_asked CC CWr (Fun.kbinds2 F_writer fun _ _ _ _ _ _ _ _ => ⟨rfl, rfl, rfl⟩) CLw
  have OR := ok_right F_right T CT CBa CDr CLw CBe COd OA m_asked k_asked b_asked
  exact ok_law F_law T CC CPot OR m_right k_right b_right
end Fh
open PySem PySem.W PyProof.Rows L2
set_option maxRecDepth 100000 in
set_option maxHeartbeats 0 in
theorem PySem.Challenge.cw_fewgoings_k42_writers_of_any_value_holds : PySem.Challenge.rw_fewgoings_k42_writers_of_any_value.Holds := by
  w_on; o_law; k_head; (case hw => w_witness2)
  k_fill
  refine Fh.walk_G (l := PySem.Challenge.rw_fewgoings_k42_writers_of_any_value) (n := 63) (k := 21) (x := "_law_script") (sp := Fh.spLaw) rfl (by decide) rfl ⟨rfl, by decide, by decide⟩ (fun w h Y => PySem.W.kIn_of Y) ?F (fun _ _ a ns hl _ hS => ⟨a, ns, rfl, hS, hl, fun _ => rfl⟩)
  case F =>
    intro w mg fa h KX G hmg
    refine' Fh.all_mk KX G hmg ?a_C ?pg_C ?hd_C ?po_C ?sa_C ?mk_C ?kc_C ?n_C_lines ?n_C_number ?n_C_symbols ?n_C_mosts ?n_C_starts ?n_C_statements ?n_C_first ?a_CS ?pg_CS ?hd_CS ?po_CS ?sa_CS ?mk_CS ?kc_CS ?n_CS_line ?n_CS_word ?n_CS_given ?n_CS_inside ?n_CS_otherwise ?n_CS_follow ?a_CP ?pg_CP ?hd_CP ?po_CP ?sa_CP ?mk_CP ?kc_CP ?n_CP_text ?n_CP_symbols ?n_CP_cells ?n_CP_parts ?n_CP_statements ?n_CP_first ?n_CP_letters ?a_link ?l_link ?c_link ?k_link ?a_parse ?l_parse ?c_parse ?k_parse ?a_iol ?l_iol ?c_iol ?k_iol ?a_iio ?l_iio ?c_iio ?k_iio ?a_let ?l_let ?c_let ?k_let ?a_num ?l_num ?c_num ?k_num ?a_form ?l_form ?c_form ?k_form ?a_moves ?l_moves ?c_moves ?k_moves ?a_state ?l_state ?c_state ?k_state ?a_word ?l_word ?c_word ?k_word ?a_marks ?l_marks ?c_marks ?k_marks ?a_words ?l_words ?c_words ?k_words ?a_place ?l_place ?c_place ?k_place ?a_asc ?l_asc ?c_asc ?k_asc ?a_writer ?l_writer ?c_writer ?k_writer ?a_pot ?l_pot ?c_pot ?k_pot ?a_take ?l_take ?c_take ?k_take ?a_of ?l_of ?c_of ?k_of ?a_lnum ?l_lnum ?c_lnum ?k_lnum ?a_ink ?l_ink ?c_ink ?k_ink ?a_lst ?l_lst ?c_lst ?k_lst ?a_lsd ?l_lsd ?c_lsd ?k_lsd ?a_lrow ?l_lrow ?c_lrow ?k_lrow ?a_lwr ?l_lwr ?c_lwr ?k_lwr ?a_said ?l_said ?c_said ?k_said ?a_stp ?l_stp ?c_stp ?k_stp ?a_draw ?l_draw ?c_draw ?k_draw ?a_bare ?l_bare ?c_bare ?k_bare ?a_odd ?l_odd ?c_odd ?k_odd ?a_bent ?l_bent ?c_bent ?k_bent ?a_asked ?l_asked ?c_asked ?k_asked ?a_right ?l_right ?c_right ?k_right ?a_law ?l_law ?c_law ?k_law ?a_sin ?i_sin ?l_sin ?c_sin ?k_sin ?a_pin ?i_pin ?l_pin ?c_pin ?k_pin ?a_words_at ?i_words_at ?l_words_at ?c_words_at ?k_words_at ?a_read_program ?i_read_program ?l_read_program ?c_read_program ?k_read_program ?a_read_symbols ?i_read_symbols ?l_read_symbols ?c_read_symbols ?k_read_symbols ?a_read_cell ?i_read_cell ?l_read_cell ?c_read_cell ?k_read_cell ?a_read_part ?i_read_part ?l_read_part ?c_read_part ?k_read_part ?a_is_new_name ?i_is_new_name ?l_is_new_name ?c_is_new_name ?k_is_new_name ?a_read_whole_body ?i_read_whole_body ?l_read_whole_body ?c_read_whole_body ?k_read_whole_body ?a_read_body ?i_read_body ?l_read_body ?c_read_body ?k_read_body ?a_read_statement ?i_read_statement ?l_read_statement ?c_read_statement ?k_read_statement ?a_given_by ?i_given_by ?l_given_by ?c_given_by ?k_given_by ?a_setting_by ?i_setting_by ?l_setting_by ?c_setting_by ?k_setting_by ?a_sum_by ?i_sum_by ?l_sum_by ?c_sum_by ?k_sum_by ?a_condition_by ?i_condition_by ?l_condition_by ?c_condition_by ?k_condition_by ?a_gin ?i_gin ?l_gin ?c_gin ?k_gin ?z_len ?z_int ?z_abs ?z_str ?z_list ?z_tuple ?z_range ?z_all ?z_sorted ?z_set ?z_zip ?z_isinstance ?z_bool ?z_repr ?z_max ?z_min ?v_ALPHABET ?v_MOST_CELLS ?v_MOST_PARTS ?v_MOST_STATEMENTS ?v_MOST_BODIES ?v_LONGEST_NAME ?v_VALUES ?l_VALUES ?v_BARE_WORDS ?l_BARE_WORDS ?v_WORDS ?l_WORDS ?d1 ?d2 ?d3
    (case a_C => k_is)
    (case pg_C => k_is)
    (case hd_C => k_is)
    (case po_C => k_is)
    (case sa_C => k_is)
    (case mk_C => k_is)
    (case kc_C => k_is)
    (case n_C_lines => k_is)
    (case n_C_number => k_is)
    (case n_C_symbols => k_is)
    (case n_C_mosts => k_is)
    (case n_C_starts => k_is)
    (case n_C_statements => k_is)
    (case n_C_first => k_is)
    (case a_CS => k_is)
    (case pg_CS => k_is)
    (case hd_CS => k_is)
    (case po_CS => k_is)
    (case sa_CS => k_is)
    (case mk_CS => k_is)
    (case kc_CS => k_is)
    (case n_CS_line => k_is)
    (case n_CS_word => k_is)
    (case n_CS_given => k_is)
    (case n_CS_inside => k_is)
    (case n_CS_otherwise => k_is)
    (case n_CS_follow => k_is)
    (case a_CP => k_is)
    (case pg_CP => k_is)
    (case hd_CP => k_is)
    (case po_CP => k_is)
    (case sa_CP => k_is)
    (case mk_CP => k_is)
    (case kc_CP => k_is)
    (case n_CP_text => k_is)
    (case n_CP_symbols => k_is)
    (case n_CP_cells => k_is)
    (case n_CP_parts => k_is)
    (case n_CP_statements => k_is)
    (case n_CP_first => k_is)
    (case n_CP_letters => k_is)
    (case a_link => k_is)
    (case l_link => k_is)
    (case c_link => k_is)
    (case k_link => k_is)
    (case a_parse => k_is)
    (case l_parse => k_is)
    (case c_parse => k_is)
    (case k_parse => k_is)
    (case a_iol => k_is)
    (case l_iol => k_is)
    (case c_iol => k_is)
    (case k_iol => k_is)
    (case a_iio => k_is)
    (case l_iio => k_is)
    (case c_iio => k_is)
    (case k_iio => k_is)
    (case a_let => k_is)
    (case l_let => k_is)
    (case c_let => k_is)
    (case k_let => k_is)
    (case a_num => k_is)
    (case l_num => k_is)
    (case c_num => k_is)
    (case k_num => k_is)
    (case a_form => k_is)
    (case l_form => k_is)
    (case c_form => k_is)
    (case k_form => k_is)
    (case a_moves => k_is)
    (case l_moves => k_is)
    (case c_moves => k_is)
    (case k_moves => k_is)
    (case a_state => k_is)
    (case l_state => k_is)
    (case c_state => k_is)
    (case k_state => k_is)
    (case a_word => k_is)
    (case l_word => k_is)
    (case c_word => k_is)
    (case k_word => k_is)
    (case a_marks => k_is)
    (case l_marks => k_is)
    (case c_marks => k_is)
    (case k_marks => k_is)
    (case a_words => k_is)
    (case l_words => k_is)
    (case c_words => k_is)
    (case k_words => k_is)
    (case a_place => k_is)
    (case l_place => k_is)
    (case c_place => k_is)
    (case k_place => k_is)
    (case a_asc => k_is)
    (case l_asc => k_is)
    (case c_asc => k_is)
    (case k_asc => k_is)
    (case a_writer => k_is)
    (case l_writer => k_is)
    (case c_writer => k_is)
    (case k_writer => k_is)
    (case a_pot => k_is)
    (case l_pot => k_is)
    (case c_pot => k_is)
    (case k_pot => k_is)
    (case a_take => k_is)
    (case l_take => k_is)
    (case c_take => k_is)
    (case k_take => k_is)
    (case a_of => k_is)
    (case l_of => k_is)
    (case c_of => k_is)
    (case k_of => k_is)
    (case a_lnum => k_is)
    (case l_lnum => k_is)
    (case c_lnum => k_is)
    (case k_lnum => k_is)
    (case a_ink => k_is)
    (case l_ink => k_is)
    (case c_ink => k_is)
    (case k_ink => k_is)
    (case a_lst => k_is)
    (case l_lst => k_is)
    (case c_lst => k_is)
    (case k_lst => k_is)
    (case a_lsd => k_is)
    (case l_lsd => k_is)
    (case c_lsd => k_is)
    (case k_lsd => k_is)
    (case a_lrow => k_is)
    (case l_lrow => k_is)
    (case c_lrow => k_is)
    (case k_lrow => k_is)
    (case a_lwr => k_is)
    (case l_lwr => k_is)
    (case c_lwr => k_is)
    (case k_lwr => k_is)
    (case a_said => k_is)
    (case l_said => k_is)
    (case c_said => k_is)
    (case k_said => k_is)
    (case a_stp => k_is)
    (case l_stp => k_is)
    (case c_stp => k_is)
    (case k_stp => k_is)
    (case a_draw => k_is)
    (case l_draw => k_is)
    (case c_draw => k_is)
    (case k_draw => k_is)
    (case a_bare => k_is)
    (case l_bare => k_is)
    (case c_bare => k_is)
    (case k_bare => k_is)
    (case a_odd => k_is)
    (case l_odd => k_is)
    (case c_odd => k_is)
    (case k_odd => k_is)
    (case a_bent => k_is)
    (case l_bent => k_is)
    (case c_bent => k_is)
    (case k_bent => k_is)
    (case a_asked => k_is)
    (case l_asked => k_is)
    (case c_asked => k_is)
    (case k_asked => k_is)
    (case a_right => k_is)
    (case l_right => k_is)
    (case c_right => k_is)
    (case k_right => k_is)
    (case a_law => k_is)
    (case l_law => k_is)
    (case c_law => k_is)
    (case k_law => k_is)
    (case a_sin => k_is)
    (case i_sin => k_is)
    (case l_sin => k_is)
    (case c_sin => k_is)
    (case k_sin => k_is)
    (case a_pin => k_is)
    (case i_pin => k_is)
    (case l_pin => k_is)
    (case c_pin => k_is)
    (case k_pin => k_is)
    (case a_words_at => k_is)
    (case i_words_at => k_is)
    (case l_words_at => k_is)
    (case c_words_at => k_is)
    (case k_words_at => k_is)
    (case a_read_program => k_is)
    (case i_read_program => k_is)
    (case l_read_program => k_is)
    (case c_read_program => k_is)
    (case k_read_program => k_is)
    (case a_read_symbols => k_is)
    (case i_read_symbols => k_is)
    (case l_read_symbols => k_is)
    (case c_read_symbols => k_is)
    (case k_read_symbols => k_is)
    (case a_read_cell => k_is)
    (case i_read_cell => k_is)
    (case l_read_cell => k_is)
    (case c_read_cell => k_is)
    (case k_read_cell => k_is)
    (case a_read_part => k_is)
    (case i_read_part => k_is)
    (case l_read_part => k_is)
    (case c_read_part => k_is)
    (case k_read_part => k_is)
    (case a_is_new_name => k_is)
    (case i_is_new_name => k_is)
    (case l_is_new_name => k_is)
    (case c_is_new_name => k_is)
    (case k_is_new_name => k_is)
    (case a_read_whole_body => k_is)
    (case i_read_whole_body => k_is)
    (case l_read_whole_body => k_is)
    (case c_read_whole_body => k_is)
    (case k_read_whole_body => k_is)
    (case a_read_body => k_is)
    (case i_read_body => k_is)
    (case l_read_body => k_is)
    (case c_read_body => k_is)
    (case k_read_body => k_is)
    (case a_read_statement => k_is)
    (case i_read_statement => k_is)
    (case l_read_statement => k_is)
    (case c_read_statement => k_is)
    (case k_read_statement => k_is)
    (case a_given_by => k_is)
    (case i_given_by => k_is)
    (case l_given_by => k_is)
    (case c_given_by => k_is)
    (case k_given_by => k_is)
    (case a_setting_by => k_is)
    (case i_setting_by => k_is)
    (case l_setting_by => k_is)
    (case c_setting_by => k_is)
    (case k_setting_by => k_is)
    (case a_sum_by => k_is)
    (case i_sum_by => k_is)
    (case l_sum_by => k_is)
    (case c_sum_by => k_is)
    (case k_sum_by => k_is)
    (case a_condition_by => k_is)
    (case i_condition_by => k_is)
    (case l_condition_by => k_is)
    (case c_condition_by => k_is)
    (case k_condition_by => k_is)
    (case a_gin => k_is)
    (case i_gin => k_is)
    (case l_gin => k_is)
    (case c_gin => k_is)
    (case k_gin => k_is)
    (case z_len => k_is)
    (case z_int => k_is)
    (case z_abs => k_is)
    (case z_str => k_is)
    (case z_list => k_is)
    (case z_tuple => k_is)
    (case z_range => k_is)
    (case z_all => k_is)
    (case z_sorted => k_is)
    (case z_set => k_is)
    (case z_zip => k_is)
    (case z_isinstance => k_is)
    (case z_bool => k_is)
    (case z_repr => k_is)
    (case z_max => k_is)
    (case z_min => k_is)
    (case v_ALPHABET => k_is)
    (case v_MOST_CELLS => k_is)
    (case v_MOST_PARTS => k_is)
    (case v_MOST_STATEMENTS => k_is)
    (case v_MOST_BODIES => k_is)
    (case v_LONGEST_NAME => k_is)
    (case v_VALUES => k_is)
    (case l_VALUES => k_is)
    (case v_BARE_WORDS => k_is)
    (case l_BARE_WORDS => k_is)
    (case v_WORDS => k_is)
    (case l_WORDS => k_is)
    (case d1 => decide)
    (case d2 => decide)
    (case d3 => decide)
