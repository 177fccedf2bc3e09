import PyProof.Rows.All
import Wide.All
import OpenK.AllK
import Wide.FinOn
import HandS.ForMost
import HandS.IsInst
import HandS.TupAny
import HandS.TupMul
import PyProof.ReprRoads
import PyProof.ReprLen
import PyProof.StrLawsRepr
import PyProof.FitsInt
import HandS.Call
import HandS.Walk
import HandS.Style
import HandS.Zip
import PySem.Challenge.RW_fewgoings_k14_outputs_of_other_traces
set_option Elab.async false
set_option linter.all false
set_option maxRecDepth 100000
namespace Fk
open PySem L2
def top (i : Nat) : Stmt := PySem.Challenge.pw_fewgoings_k14_outputs_of_other_traces.main.body.getD i (.Pass ⟨0, 0, 0, 0⟩)
/-- a def of the text that stands ready to be called -/
structure Callee (P : Program) (w : World) (K : PySem.W.Frag) (mg : Str → Option Value) (base : Heap) (k : Nat) (x : Str) (ps : List Str) (sp : Sp) where
  f : Addr
  fd : FuncData
  ok : FnOk P w K mg base CX0 k f fd ps sp
  mg : mg x = some (.ref f)
  kp : PySem.W.keepIn K (.ref f) = true
  b : Binds K fd ps []
/-- the built-in names that are nobody's -/
structure Bare (mg : Str → Option Value) : Prop where
  len : mg "len" = none
  int : mg "int" = none
  abs : mg "abs" = none
  str : mg "str" = none
  list : mg "list" = none
  tuple : mg "tuple" = none
  range : mg "range" = none
theorem same_new {H : Hp} {p : Addr} (h : H p = none) (o : HO) : Same H (upd H p o) := fun b u q => by rw [upd_ne (ne_of_none q h)]; exact q
/-- all but what stands at p is as it was -/
def But (p : Addr) (H H' : Hp) : Prop := ∀ b o, H b = some o → b ≠ p → H' b = some o
theorem But.refl (p : Addr) (H : Hp) : But p H H := fun _ _ h _ => h
theorem But.trans {p : Addr} {H H1 H2 : Hp} (a : But p H H1) (b : But p H1 H2) : But p H H2 := fun c o h n => b c o (a c o h n) n
theorem But.of_same {p : Addr} {H H' : Hp} (s : Same H H') : But p H H' := fun b o h _ => s b o h
theorem But.upd {p : Addr} {H : Hp} {o : HO} : But p H (L2.upd H p o) := fun b u q n => by rw [upd_ne n]; exact q
theorem small {n : Nat} (h : n ≤ 1000) : n ≤ sizeLine := Nat.le_of_lt (small1000 h)
end Fk
set_option Elab.async false
set_option linter.all false
set_option maxRecDepth 100000
set_option maxHeartbeats 2000000
namespace Fk
open PySem PySem.Spec PyProof.Rows L2
/-! ### data of any kind: what a value is, all through -/
mutual
inductive Dv (K : PySem.W.Frag) (H : Hp) : V → PyData → Prop
  | non : Dv K H .non .none
  | bl (b : Bool) : Dv K H (.bl b) (.bool b)
  | int (i : Int) : Dv K H (.int i) (.int i)
  | str (x : Str) (h : x.length ≤ 1000000) : Dv K H (.str x) (.str x)
  | lst {a : Addr} {xs : List V} {ds : List PyData} (h : SqL K H a xs) (g : DvAll K H xs ds) : Dv K H (.ref a) (.list ds)
  | tup {a : Addr} {xs : List V} {ds : List PyData} (h : SqT K H a xs) (g : DvAll K H xs ds) : Dv K H (.ref a) (.tuple ds)
  | dct {a : Addr} (h : H a = some (.dK [])) : Dv K H (.ref a) (.dict [])
inductive DvAll (K : PySem.W.Frag) (H : Hp) : List V → List PyData → Prop
  | nil : DvAll K H [] []
  | cons {v : V} {vs : List V} {d : PyData} {ds : List PyData} (h : Dv K H v d) (g : DvAll K H vs ds) : DvAll K H (v :: vs) (d :: ds)
end
mutual
def noList : PyData → Bool
  | .list _ => false
  | .tuple xs => noListAll xs
  | .dict kvs => kvs.isEmpty
  | _ => true
def noListAll : List PyData → Bool
  | [] => true
  | x :: xs => noList x && noListAll xs
end
theorem same_sqL {K : PySem.W.Frag} {H H' : Hp} {a : Addr} {xs : List V} (s : Same H H') (h : SqL K H a xs) : SqL K H' a xs := by
  rcases h with (h | ⟨o, h⟩) | h
  · exact .inl (.inl (s _ _ h))
  · exact .inl (.inr ⟨o, s _ _ h⟩)
  · exact .inr h
theorem same_sqT {K : PySem.W.Frag} {H H' : Hp} {a : Addr} {xs : List V} (s : Same H H') (h : SqT K H a xs) : SqT K H' a xs := by
  rcases h with (h | ⟨o, h⟩) | h
  · exact .inl (.inl (s _ _ h))
  · exact .inl (.inr ⟨o, s _ _ h⟩)
  · exact .inr h
mutual
theorem Dv.same {K : PySem.W.Frag} {H H' : Hp} (s : Same H H') : ∀ {d : PyData} {v : V}, Dv K H v d → Dv K H' v d
  | _, _, .non => .non
  | _, _, .bl b => .bl b
  | _, _, .int i => .int i
  | _, _, .str x h => .str x h
  | _, _, .lst h g => .lst (same_sqL s h) (DvAll.same s g)
  | _, _, .tup h g => .tup (same_sqT s h) (DvAll.same s g)
  | _, _, .dct h => .dct (s _ _ h)
theorem DvAll.same {K : PySem.W.Frag} {H H' : Hp} (s : Same H H') : ∀ {ds : List PyData} {vs : List V}, DvAll K H vs ds → DvAll K H' vs ds
  | _, _, .nil => .nil
  | _, _, .cons h g => .cons (Dv.same s h) (DvAll.same s g)
end
theorem DvAll.len {K : PySem.W.Frag} {H : Hp} : ∀ {vs : List V} {ds : List PyData}, DvAll K H vs ds → vs.length = ds.length
  | _, _, .nil => rfl
  | _, _, .cons _ g => congrArg (· + 1) (DvAll.len g)
theorem DvAll.get {K : PySem.W.Frag} {H : Hp} : ∀ {vs : List V} {ds : List PyData}, DvAll K H vs ds → ∀ {i : Nat} {v : V}, vs[i]? = some v → ∃ d, ds[i]? = some d ∧ Dv K H v d
  | _, _, .nil, i, v, h => by cases i <;> cases h
  | _, _, .cons h g, 0, v, e => by
    cases e
    exact ⟨_, rfl, h⟩
  | _, _, .cons h g, i + 1, v, e => DvAll.get g (i := i) e
theorem DvAll.append {K : PySem.W.Frag} {H : Hp} : ∀ {vs ws : List V} {ds es : List PyData}, DvAll K H vs ds → DvAll K H ws es → DvAll K H (vs ++ ws) (ds ++ es)
  | _, _, _, _, .nil, g => g
  | _, _, _, _, .cons h t, g => .cons h (DvAll.append t g)
theorem DvAll.take {K : PySem.W.Frag} {H : Hp} : ∀ {vs : List V} {ds : List PyData}, DvAll K H vs ds → ∀ n, DvAll K H (vs.take n) (ds.take n)
  | _, _, _, 0 => .nil
  | _, _, .nil, n + 1 => .nil
  | _, _, .cons h t, n + 1 => .cons h (DvAll.take t n)
theorem DvAll.drop {K : PySem.W.Frag} {H : Hp} : ∀ {vs : List V} {ds : List PyData}, DvAll K H vs ds → ∀ n, DvAll K H (vs.drop n) (ds.drop n)
  | _, _, g, 0 => g
  | _, _, .nil, n + 1 => .nil
  | _, _, .cons h t, n + 1 => DvAll.drop t n
/-- a value's type by its name -/
def tyN : PyData → String
  | .none => "NoneType"
  | .bool _ => "bool"
  | .int _ => "int"
  | .str _ => "str"
  | .list _ => "list"
  | .tuple _ => "tuple"
  | .dict _ => "dict"
theorem Dv.ty {K : PySem.W.Frag} {H : Hp} {v : V} {d : PyData} (h : Dv K H v d) : TyX K H v (.type (tyN d)) := by
  cases h with
  | non => exact .base .non
  | bl b => exact .base (.bl b)
  | int i => exact .base (.int i)
  | str x h => exact .base (.str x)
  | lst h g =>
    rcases h with (h | ⟨o, h⟩) | ⟨o, _, _, e, c, _⟩
    · exact .base (.lst h)
    · exact .base (.frz h)
    · exact .kList e c
  | tup h g =>
    rcases h with (h | ⟨o, h⟩) | ⟨o, _, _, e, c, _⟩
    · exact .base (.tup h)
    · exact .fTuple h
    · exact .kTuple e c
  | dct h => exact .base (.dK h)
def isT (T : String) (d : PyData) : Bool := match kitB (tyN d) T with
  | some b => b
  | none => false
theorem kit_isT {K : PySem.W.Frag} {T : String} (hT : T = "tuple" ∨ T = "str" ∨ T = "int" ∨ T = "bool") (d : PyData) : PySem.W.kitOne K (.type (tyN d)) (.type T) = some (isT T d) := by
  refine kit_ty ?_
  unfold isT
  have : (kitB (tyN d) T).isSome = true := by
    rcases hT with rfl | rfl | rfl | rfl <;> cases d <;> (simp only [tyN]; decide +kernel)
  obtain ⟨b, hb⟩ := Option.isSome_iff_exists.mp this
  rw [hb]
theorem isT_tuple (d : PyData) : isT "tuple" d = true ↔ ∃ xs, d = .tuple xs := by
  cases d with
  | tuple xs => exact ⟨fun _ => ⟨xs, rfl⟩, fun _ => by show isT "tuple" (.tuple []) = true; decide +kernel⟩
  | none => exact ⟨fun h => absurd h (by decide +kernel), fun ⟨_, e⟩ => by cases e⟩
  | bool b => exact ⟨fun h => absurd h (by show ¬ isT "tuple" (.bool true) = true; decide +kernel), fun ⟨_, e⟩ => by cases e⟩
  | int b => exact ⟨fun h => absurd h (by show ¬ isT "tuple" (.int 0) = true; decide +kernel), fun ⟨_, e⟩ => by cases e⟩
  | str b => exact ⟨fun h => absurd h (by show ¬ isT "tuple" (.str Str.empty) = true; decide +kernel), fun ⟨_, e⟩ => by cases e⟩
  | list b => exact ⟨fun h => absurd h (by show ¬ isT "tuple" (.list []) = true; decide +kernel), fun ⟨_, e⟩ => by cases e⟩
  | dict b => exact ⟨fun h => absurd h (by show ¬ isT "tuple" (.dict []) = true; decide +kernel), fun ⟨_, e⟩ => by cases e⟩
theorem isT_str (d : PyData) : isT "str" d = true ↔ ∃ x, d = .str x := by
  cases d with
  | str x => exact ⟨fun _ => ⟨x, rfl⟩, fun _ => by show isT "str" (.str Str.empty) = true; decide +kernel⟩
  | none => exact ⟨fun h => absurd h (by decide +kernel), fun ⟨_, e⟩ => by cases e⟩
  | bool b => exact ⟨fun h => absurd h (by show ¬ isT "str" (.bool true) = true; decide +kernel), fun ⟨_, e⟩ => by cases e⟩
  | int b => exact ⟨fun h => absurd h (by show ¬ isT "str" (.int 0) = true; decide +kernel), fun ⟨_, e⟩ => by cases e⟩
  | tuple b => exact ⟨fun h => absurd h (by show ¬ isT "str" (.tuple []) = true; decide +kernel), fun ⟨_, e⟩ => by cases e⟩
  | list b => exact ⟨fun h => absurd h (by show ¬ isT "str" (.list []) = true; decide +kernel), fun ⟨_, e⟩ => by cases e⟩
  | dict b => exact ⟨fun h => absurd h (by show ¬ isT "str" (.dict []) = true; decide +kernel), fun ⟨_, e⟩ => by cases e⟩
/-- a whole number that is no bool -/
theorem isT_num (d : PyData) : (isT "int" d = true ∧ isT "bool" d = false) ↔ ∃ i, d = .int i := by
  cases d with
  | int x => exact ⟨fun _ => ⟨x, rfl⟩, fun _ => by show isT "int" (.int 0) = true ∧ isT "bool" (.int 0) = false; decide +kernel⟩
  | none => exact ⟨fun h => absurd h.1 (by decide +kernel), fun ⟨_, e⟩ => by cases e⟩
  | bool b => exact ⟨fun h => absurd h.2 (by show ¬ isT "bool" (.bool true) = false; decide +kernel), fun ⟨_, e⟩ => by cases e⟩
  | str b => exact ⟨fun h => absurd h.1 (by show ¬ isT "int" (.str Str.empty) = true; decide +kernel), fun ⟨_, e⟩ => by cases e⟩
  | tuple b => exact ⟨fun h => absurd h.1 (by show ¬ isT "int" (.tuple []) = true; decide +kernel), fun ⟨_, e⟩ => by cases e⟩
  | list b => exact ⟨fun h => absurd h.1 (by show ¬ isT "int" (.list []) = true; decide +kernel), fun ⟨_, e⟩ => by cases e⟩
  | dict b => exact ⟨fun h => absurd h.1 (by show ¬ isT "int" (.dict []) = true; decide +kernel), fun ⟨_, e⟩ => by cases e⟩
section
variable {X : Cx} {pins : List (Addr × Obj)} {σ : L2.St} {H : Hp} {s : Shared}
/-- isinstance of data -/
theorem call_isD : CallR X (.builtin "isinstance") (fun xs H Q => ∃ (v : V) (d : PyData) (T : String), xs = [v, .ty T] ∧ Dv X.K H v d ∧ (T = "tuple" ∨ T = "str" ∨ T = "int" ∨ T = "bool") ∧ Q (.bl (isT T d)) H) := by
  intro pins s σ H xs us Q I r h
  obtain ⟨v, d, T, rfl, hd, hT, q⟩ := h
  exact call_isi pins s σ H _ us Q I r ⟨v, .ty T, _, .type T, isT T d, rfl, .ty T, hd.ty, kit_isT hT d, q⟩
mutual
theorem Dv.reads (I : Inv X pins σ H s) : ∀ (d : PyData) (v : V) (u : Value), Dv X.K H v d → RelV v u → ∃ as, Reads s.heap u d as ∧ (noList d = true → sysModules ∉ as)
  | .none, _, _, h, r => by
    cases h
    cases r
    exact ⟨[], Reads.none, fun _ z => nomatch z⟩
  | .bool b, _, _, h, r => by
    cases h
    cases r
    exact ⟨[], Reads.bool b, fun _ z => nomatch z⟩
  | .int i, _, _, h, r => by
    cases h
    obtain ⟨t, e⟩ := r
    subst e
    exact ⟨[], Reads.int i t, fun _ z => nomatch z⟩
  | .str x, _, _, h, r => by
    cases h
    obtain ⟨t, e⟩ := r
    subst e
    exact ⟨[], Reads.str x t, fun _ z => nomatch z⟩
  | .list ds, _, _, h, r => by
    cases h with
    | lst hq ga =>
      cases r
      obtain ⟨its, rv, ⟨o, n, ho, hc, _, hd⟩, _⟩ := I.list hq
      obtain ⟨as, hr, _⟩ := Dv.readsAll I ds _ its ga rv
      exact ⟨_, Reads.list ho hc hd hr, fun z => by cases z⟩
  | .tuple ds, _, _, h, r => by
    cases h with
    | tup hq ga =>
      cases r
      obtain ⟨its, rv, ⟨o, ho, hc, n, hd⟩, _⟩ := I.tuple hq
      obtain ⟨as, hr, hn⟩ := Dv.readsAll I ds _ its ga rv
      exact ⟨_, Reads.tuple ho hc hd hr, fun z => hn (by simpa only [noList] using z)⟩
  | .dict kvs, _, _, h, r => by
    cases h with
    | dct ha =>
      cases r
      obtain ⟨_, hsm, vs, kv, o, es, ep, e1, e2, e3, _, e4, _⟩ := dk_of I.hok ha
      cases kv
      have ee : es = #[] := by
        have : es.toList = [] := by cases e4' : es.toList with
          | nil => rfl
          | cons x l =>
            rw [e4'] at e4
            cases e4
        exact Array.toList_eq_nil_iff.mp this
      subst ee
      refine ⟨_, Reads.dict (kvs := []) e1 e2.1 e3 .nil .nil, fun _ z => ?_⟩
      rcases List.mem_cons.mp z with z | z
      · rw [← z] at hsm
        simp at hsm
      · cases z
theorem Dv.readsAll (I : Inv X pins σ H s) : ∀ (ds : List PyData) (vs : List V) (us : List Value), DvAll X.K H vs ds → Vals vs us → ∃ as, ReadsAll s.heap us ds as ∧ (noListAll ds = true → sysModules ∉ as)
  | [], _, _, h, r => by
    cases h
    cases r
    exact ⟨_, ReadsAll.nil, fun _ z => nomatch z⟩
  | d :: ds, _, _, h, r => by
    cases h with
    | cons k1 k2 =>
      cases r with
      | cons r1 r2 =>
        obtain ⟨as, q1, n1⟩ := Dv.reads I d _ _ k1 r1
        obtain ⟨bs, q2, n2⟩ := Dv.readsAll I ds _ _ k2 r2
        exact ⟨_, ReadsAll.cons q1 q2, fun z m => by
          have z' : (noList d && noListAll ds) = true := by simpa only [noListAll] using z
          obtain ⟨z1, z2⟩ := Bool.and_eq_true_iff.mp z'
          rcases List.mem_append.mp m with m | m
          · exact n1 z1 m
          · exact n2 z2 m⟩
end
/-- data that can be shown -/
structure Dok (n m : Nat) (d : PyData) : Prop where
  sh : d.showable = true
  sys : d.hasDict = false ∨ noList d = true
  dp : d.depth ≤ m
  len : d.shown.length ≤ n
theorem Dok.mono {n m n' m' : Nat} {d : PyData} (h : Dok n m d) (a : n ≤ n') (b : m ≤ m') : Dok n' m' d := ⟨h.sh, h.sys, Nat.le_trans h.dp b, Nat.le_trans h.len a⟩
/-- repr of such, where no repr is under way -/
theorem call_reprV (hgu : X.A.guards = some []) (hu : X.A.units + 64 < cLine) : CallR X (.builtin "repr") (fun xs H Q => ∃ (v : V) (d : PyData) (n : Nat), xs = [v] ∧ Dv X.K H v d ∧ Dok n 40 d ∧ n ≤ sizeLine ∧ Q (.str d.shown) H) := by
  intro pins s σ H xs us Q I rv h
  obtain ⟨v, d, n, rfl, hd, ok, hn, q⟩ := h
  obtain ⟨u, rfl, ru⟩ := rv.one
  have hz := Nat.le_trans ok.len hn
  have obj : ∀ a, u = .ref a → wpAny (model X.prog X.w) X.A (call (.builtin "repr") [u]) (EP X pins σ Q) X.xe s := fun a e => by
    obtain ⟨as, rd, hs⟩ := Dv.reads I d v u hd ru
    subst e
    refine repr_of_reads' rd ok.sh (fun e => ?_) hgu (by have := ok.dp; omega) (fun _ _ e => e) (fun h' u tk kp => ?_) hz
    · rcases ok.sys with z | z
      · rw [z] at e
        cases e
      · exact hs z
    · exact ⟨.str d.shown, H, I.kept (t' := tk) kp, ⟨u, rfl⟩, q⟩
  cases hd with
  | non =>
    cases ru
    exact P.repr_of_none ⟨.str "None", H, I.tok _, ⟨_, rfl⟩, by simpa only [PyData.shown] using q⟩
  | bl b =>
    cases ru
    exact P.repr_of_bool ⟨.str (if b then "True" else "False"), H, I.tok _, ⟨_, by cases b <;> rfl⟩, by simpa only [PyData.shown] using q⟩
  | int i =>
    obtain ⟨t, rfl⟩ := ru
    have hi : i.natAbs.log2 < 1920 := by simpa [PyData.showable] using ok.sh
    exact P.repr_of_int hi ⟨.str (toString i), H, I.tok _, ⟨_, rfl⟩, by simpa only [PyData.shown] using q⟩
  | str x _ =>
    obtain ⟨t, rfl⟩ := ru
    exact P.repr_of_str ⟨.str (reprText x), H, I.tok _, ⟨_, rfl⟩, by simpa only [PyData.shown] using q⟩ (by simpa only [PyData.shown] using hz)
  | @lst a xs ds hq g => cases ru; exact obj a rfl
  | @tup a xs ds hq g => cases ru; exact obj a rfl
  | @dct a hq => cases ru; exact obj a rfl
end
end Fk
set_option Elab.async false
set_option linter.all false
set_option maxRecDepth 100000
set_option maxHeartbeats 2000000
namespace Fk
open PySem L2
abbrev s__law_take : Stmt := top 12
abbrev sc__law_takeN : List Str := ["_law_pot", "_law_upto", "_law_digit", "_law_prime", "_law_mixed"]
theorem sc__law_take : FnScope sc__law_takeN ["_law_pot", "_law_upto"] (defScope s__law_take) := ⟨rfl, rfl, rfl, by decide +kernel, rfl, by decide +kernel, by decide +kernel⟩
/-- a pot: what is left of the cell, a number, how many were taken -/
structure Pot (H : Hp) (p : Addr) (n : Nat) : Prop where
  at_ : ∃ o b c : Int, H p = some (.lst [.int o, .int b, .int c]) ∧ 0 ≤ o ∧ 0 ≤ b ∧ b < 2305843009213693952 ∧ 0 ≤ c ∧ c ≤ (n : Int)
theorem Pot.more {H : Hp} {p : Addr} {n m : Nat} (h : Pot H p n) (l : n ≤ m) : Pot H p m := by
  obtain ⟨o, b, c, e, h1, h2, h3, h4, h5⟩ := h
  exact ⟨o, b, c, e, h1, h2, h3, h4, by omega⟩
theorem Pot.same {H H' : Hp} {p : Addr} {n : Nat} (h : Pot H p n) (s : Same H H') : Pot H' p n := by
  obtain ⟨o, b, c, e, r⟩ := h
  exact ⟨o, b, c, s _ _ e, r⟩
def spTake : Sp := fun vs H Q _ => ∃ (p : Addr) (u : Int) (n : Nat), vs = [.ref p, .int u] ∧ Pot H p n ∧ n < 1000000 ∧ 0 < u ∧ u < 1000 ∧
  ∀ (d : Int) (H' : Hp), 0 ≤ d → d < u → Pot H' p (n + 1) → But p H H' → Q (.int d) H'
theorem at3_0 (x y z : V) : atI [x, y, z] 0 = some x := rfl
theorem at3_1 (x y z : V) : atI [x, y, z] 1 = some y := rfl
theorem at3_2 (x y z : V) : atI [x, y, z] 2 = some z := rfl
theorem five {i : Int} (h0 : 0 ≤ i) (h1 : i < 5) : ∃ v : Int, atI ([.int 2147483647, .int 2147483629, .int 2147483587, .int 2147483579, .int 2147483563] : List V) i = some (.int v) ∧ 0 < v ∧ v ≤ 2147483647 := by
  have h : i = 0 ∨ i = 1 ∨ i = 2 ∨ i = 3 ∨ i = 4 := by omega
  rcases h with rfl | rfl | rfl | rfl | rfl
  · exact ⟨2147483647, rfl, by decide, by decide⟩
  · exact ⟨2147483629, rfl, by decide, by decide⟩
  · exact ⟨2147483587, rfl, by decide, by decide⟩
  · exact ⟨2147483579, rfl, by decide, by decide⟩
  · exact ⟨2147483563, rfl, by decide, by decide⟩
abbrev s__law_of : Stmt := top 13
abbrev sc__law_ofN : List Str := ["_law_pot", "_law_some"]
theorem sc__law_of : FnScope sc__law_ofN ["_law_pot", "_law_some"] (defScope s__law_of) := ⟨rfl, rfl, rfl, by decide +kernel, rfl, by decide +kernel, by decide +kernel⟩
abbrev s__law_pot_of : Stmt := top 11
abbrev sc__law_pot_ofN : List Str := ["_law_script", "_law_k", "_law_cell", "_law_own"]
theorem sc__law_pot_of : FnScope sc__law_pot_ofN ["_law_script", "_law_k"] (defScope s__law_pot_of) := ⟨rfl, rfl, rfl, by decide +kernel, rfl, by decide +kernel, by decide +kernel⟩
section
variable {P : Program} {w : World} {K : PySem.W.Frag} {mg : Str → Option Value} {base : Heap}
theorem ok_take {f : Addr} {fd : FuncData} (F : Fun K "_law_take" "_law_take" s__law_take f fd) (T : Bare mg) : FnOk P w K mg base CX0 1 f fd ["_law_pot", "_law_upto"] spTake := by
  refine F.ok sc__law_take (fun vs H Q E h => ?_) (fun cdv A outer s H vs Q E hr h => ?_)
  · obtain ⟨p, u, n, rfl, _⟩ := h
    rfl
  obtain ⟨p, u, n, rfl, ⟨o, b, c, hp, o0, b0, b1, c0, c1⟩, hn, u0, u1, q⟩ := h
  refine ⟨_, (pss_cons (ps_if (pt_cmpR op_gt (pe_ix ix_list (pv 0) pe_int (fun _ _ => rfl)) pe_int (nomark _))
(pss_cons (ps_set (i := 2) sc__law_take.nd rfl (Or.inl rfl) (pe_op op_mod (pe_callTy call_int1 (by rfl) T.int (by decide +kernel) (pa_cons (pe_ix ix_list (pv 0) pe_int (fun _ _ => rfl)) pa_nil)) (pv 1)))
(pss_cons (ps_asg (pe_op op_fdiv (pe_ix ix_list (pv 0) pe_int (fun _ _ => rfl)) (pv 1)) (pg_sub (pv 0) pe_int set_list))
(pss_one (ps_ret (pv 2)))))
pss_nil)
(pss_cons (ps_asg (pe_op op_add (pe_ix ix_list (pv 0) pe_int (fun _ _ => rfl)) pe_int) (pg_sub (pv 0) pe_int set_list))
(pss_cons (ps_set (i := 3) sc__law_take.nd rfl (Or.inl rfl) (pe_ix ix_list (pe_lst (pa_cons pe_int (pa_cons pe_int (pa_cons pe_int (pa_cons pe_int (pa_cons pe_int pa_nil)))))) (pe_op op_mod (pe_callTy call_int1 (by rfl) T.int (by decide +kernel) (pa_cons (pe_ix ix_list (pv 0) pe_int (fun _ _ => rfl)) pa_nil)) pe_int) (fun _ _ => rfl)))
(pss_cons (ps_set (i := 4) sc__law_take.nd rfl (Or.inl rfl) (pe_op op_mod (pe_callTy call_int1 (by rfl) T.int (by decide +kernel) (pa_cons (pe_op op_pow (pe_op op_add (pe_op op_add (pe_ix ix_list (pv 0) pe_int (fun _ _ => rfl)) (pe_op op_mul (pe_op op_mul pe_int (pe_ix ix_list (pv 0) pe_int (fun _ _ => rfl))) (pe_ix ix_list (pv 0) pe_int (fun _ _ => rfl)))) pe_int) pe_int) pa_nil)) (pv 3)))
(pss_one (ps_ret (pe_op op_mod (pe_callTy call_int1 (by rfl) T.int (by decide +kernel) (pa_cons (pe_op op_fdiv (pe_op op_mul (pv 4) (pe_op op_add (pe_op op_mod (pe_callTy call_int1 (by rfl) T.int (by decide +kernel) (pa_cons (pv 4) pa_nil)) pe_int) (pe_op op_mul pe_int (pe_ix ix_list (pv 0) pe_int (fun _ _ => rfl))))) pe_int) pa_nil)) (pv 1)))))))), ?_⟩
  have hS : SqL K H p [.int o, .int b, .int c] := .inl (.inl hp)
  -- if pot[0] > 0
  refine ⟨.ref p, rfl, p, _, 0, _, rfl, rfl, hS, rfl, o, 0, rfl, rfl, _, rfl, ?_⟩
  refine ite2 (fun h => ?_) (fun h => ?_)
  · have ho : (0 : Int) < o := of_decide_eq_true h
    -- digit = int(pot[0]) % upto
    refine ⟨.ref p, rfl, p, _, 0, _, rfl, rfl, hS, rfl, .inl ⟨o, rfl, ?_⟩⟩
    refine ⟨.int u, rfl, o, u, rfl, rfl, u0, ?_⟩
    -- pot[0] = pot[0] // upto
    refine ⟨.ref p, rfl, p, _, 0, _, rfl, rfl, hS, rfl, .int u, rfl, o, u, rfl, rfl, ⟨u0, by omega⟩, ?_⟩
    refine ⟨.ref p, rfl, p, _, 0, 0, rfl, rfl, hp, rfl, ?_⟩
    refine ⟨_, rfl, ?_⟩
    refine q (o % u) _ (Int.emod_nonneg _ (by omega)) (Int.emod_lt_of_pos _ u0) ⟨o / u, b, c, upd_same, Int.ediv_nonneg (by omega) (by omega), b0, b1, c0, by omega⟩ But.upd
  · -- pot[2] = pot[2] + 1
    refine ⟨.ref p, rfl, p, _, 2, _, rfl, rfl, hS, rfl, c, 1, rfl, rfl, .ref p, rfl, p, _, 2, 2, rfl, rfl, hp, rfl, ?_⟩
    have hp2 : (upd H p (.lst [.int o, .int b, .int (c + 1)])) p = some (.lst [.int o, .int b, .int (c + 1)]) := upd_same
    have hS2 : SqL K (upd H p (.lst [.int o, .int b, .int (c + 1)])) p [.int o, .int b, .int (c + 1)] := .inl (.inl hp2)
    -- prime = [..][int(pot[2]) % 5]
    refine ⟨small (by show 5 ≤ 1000; decide), fun l hl => ?_⟩
    have npl : p ≠ l := ne_of_none hp2 hl
    have e1 : ∀ o', upd (upd H p (.lst [.int o, .int b, .int (c + 1)])) l o' p = some (.lst [.int o, .int b, .int (c + 1)]) := fun o' => by rw [upd_ne npl]; exact hp2
    obtain ⟨v, hv, v0, v1⟩ := five (i := (c + 1) % 5) (Int.emod_nonneg _ (by decide)) (Int.emod_lt_of_pos _ (by decide))
    refine ⟨.ref p, rfl, p, _, 2, _, rfl, rfl, .inl (.inl (e1 _)), rfl, .inl ⟨c + 1, rfl, ?_⟩⟩
    refine ⟨c + 1, 5, rfl, rfl, (by show (0 : Int) < 5; decide), l, _, _, _, rfl, rfl, .inl (.inl upd_same), hv, ?_⟩
    -- mixed
    have sz : (70001 * (c + 1)) * (c + 1) ≤ 70001 * 1000001 * 1000001 := by
      have a1 : 0 ≤ c + 1 := by omega
      have a2 : c + 1 ≤ 1000001 := by omega
      have a3 : 70001 * (c + 1) ≤ 70001 * 1000001 := by omega
      exact Int.mul_le_mul a3 a2 a1 (by decide)
    have sz0 : 0 ≤ (70001 * (c + 1)) * (c + 1) := Int.mul_nonneg (by omega) (by omega)
    refine ⟨.ref p, rfl, p, _, 1, _, rfl, rfl, .inl (.inl (e1 _)), rfl, ?_⟩
    refine ⟨.ref p, rfl, p, _, 2, _, rfl, rfl, .inl (.inl (e1 _)), rfl, 70001, c + 1, rfl, rfl, .inl ⟨by decide, by decide⟩, ?_⟩
    refine ⟨.ref p, rfl, p, _, 2, _, rfl, rfl, .inl (.inl (e1 _)), rfl, 70001 * (c + 1), c + 1, rfl, rfl, .inl ⟨by omega, by omega⟩, ?_⟩
    refine ⟨b, 70001 * (c + 1) * (c + 1), rfl, rfl, b + 70001 * (c + 1) * (c + 1), 53, rfl, rfl, ?_⟩
    refine ⟨b + 70001 * (c + 1) * (c + 1) + 53, 3, rfl, rfl, ⟨by decide, by decide, by omega⟩, .inl ⟨_, rfl, ?_⟩⟩
    refine ⟨.int v, rfl, _, v, rfl, rfl, v0, ?_⟩
    dsimp only
    generalize em : (b + 70001 * (c + 1) * (c + 1) + 53) ^ (3 : Int).toNat % v = m
    have m0 : 0 ≤ m := by rw [← em]; exact Int.emod_nonneg _ (by omega)
    have m1 : m < 2147483647 := by
      have := Int.emod_lt_of_pos ((b + 70001 * (c + 1) * (c + 1) + 53) ^ (3 : Int).toNat) v0
      omega
    -- return
    refine ⟨.int m, rfl, .int m, rfl, .inl ⟨m, rfl, m, 10007, rfl, rfl, (by show (0 : Int) < 10007; decide), ?_⟩⟩
    refine ⟨.ref p, rfl, p, _, 2, _, rfl, rfl, .inl (.inl (e1 _)), rfl, 83, c + 1, rfl, rfl, .inl ⟨by decide, by decide⟩, ?_⟩
    refine ⟨m % 10007, 83 * (c + 1), rfl, rfl, m, m % 10007 + 83 * (c + 1), rfl, rfl, .inl ⟨by omega, by omega⟩, ?_⟩
    refine ⟨_, 101, rfl, rfl, ⟨by decide, by decide⟩, .inl ⟨_, rfl, ?_⟩⟩
    refine ⟨.int u, rfl, _, u, rfl, rfl, u0, ?_⟩
    refine q _ _ (Int.emod_nonneg _ (by omega)) (Int.emod_lt_of_pos _ u0) ⟨o, b, c + 1, e1 _, o0, b0, b1, by omega, by omega⟩ ?_
    exact But.trans But.upd (But.of_same (same_new hl _))
/-! ### _law_of -/
theorem But.seq {p : Addr} {H H' : Hp} {a : Addr} {xs : List V} (e : But p H H') (n : a ≠ p) (h : SqL K H a xs) : SqL K H' a xs := by
  rcases h with (h | ⟨o, h⟩) | h
  · exact .inl (.inl (e _ _ h n))
  · exact .inl (.inr ⟨o, e _ _ h n⟩)
  · exact .inr h
/-- the items of what is drawn from: a list's, a tuple's, a text's signs -/
def Pick (K : PySem.W.Frag) (H : Hp) (l : V) (xs : List V) : Prop := (∃ a, l = .ref a ∧ (SqL K H a xs ∨ SqT K H a xs)) ∨ ∃ z : Str, l = .str z ∧ xs = z.cps.toList.map fun c => .str ⟨#[c]⟩
def spOf (K : PySem.W.Frag) : Sp := fun vs H Q _ => ∃ (p : Addr) (l : V) (xs : List V) (n : Nat), vs = [.ref p, l] ∧ Pot H p n ∧ n < 1000000 ∧ Pick K H l xs ∧ l ≠ .ref p ∧ 0 < xs.length ∧ xs.length < 1000 ∧
  ∀ (i : Nat) (v : V) (H' : Hp), xs[i]? = some v → Pot H' p (n + 1) → But p H H' → Q v H'
theorem But.seqT {p : Addr} {H H' : Hp} {a : Addr} {xs : List V} (e : But p H H') (n : a ≠ p) (h : SqT K H a xs) : SqT K H' a xs := by
  rcases h with (h | ⟨o, h⟩) | h
  · exact .inl (.inl (e _ _ h n))
  · exact .inl (.inr ⟨o, e _ _ h n⟩)
  · exact .inr h
theorem ok_of {f : Addr} {fd : FuncData} (F : Fun K "_law_of" "_law_of" s__law_of f fd) (T : Bare mg) (C : Callee P w K mg base 1 "_law_take" ["_law_pot", "_law_upto"] spTake) : FnOk P w K mg base CX0 2 f fd ["_law_pot", "_law_some"] (spOf K) := by
  refine F.ok sc__law_of (fun vs H Q E h => ?_) (fun cdv A outer s H vs Q E hr h => ?_)
  · obtain ⟨p, l, xs, n, rfl, _⟩ := h
    rfl
  obtain ⟨p, l, xs, n, rfl, hp, hn, hS, npl, l0, l1, q⟩ := h
  refine ⟨_, (pss_one (ps_ret (pe_ix ix_seq (pv 1) (pe_call C.ok hr rfl C.mg C.kp C.b .nil pass0 (pa_cons (pv 0) (pa_cons (pe_callB call_len (by rfl) T.len PySem.boot_len (pa_cons (pv 1) pa_nil)) pa_nil))) (fun _ _ => rfl)))), ?_⟩
  have hz : sizeLine = 16777216 := sizeLine_eq
  rcases hS with ⟨a, rfl, hS⟩ | ⟨z, rfl, rfl⟩
  · refine ⟨.ref a, rfl, .ref p, rfl, .ref a, rfl, .ref a, xs.length, rfl, ?_, p, (xs.length : Int), n, rfl, hp, hn, by omega, by omega, fun d H' d0 d1 hp' b => ?_⟩
    · rcases hS with hS | hS
      · exact .inl ⟨_, hS, rfl⟩
      · exact .inr ⟨_, hS, rfl⟩
    have hd : d.toNat < xs.length := by omega
    have na : a ≠ p := fun e => npl (by rw [e])
    have hat : atI xs d = some xs[d.toNat] := at_of (j := d.toNat) (by omega) (List.getElem?_eq_getElem hd)
    have hq := q d.toNat _ H' (List.getElem?_eq_getElem hd) hp' b
    rcases hS with hS | hS
    · exact .inl ⟨a, xs, d, _, rfl, rfl, b.seq na hS, hat, hq⟩
    · exact .inr (.inl ⟨a, xs, d, _, rfl, rfl, b.seqT na hS, hat, hq⟩)
  · rw [List.length_map] at l0 l1
    have hl : z.cps.toList.length = z.length := Array.length_toList
    refine ⟨.str z, rfl, .ref p, rfl, .str z, rfl, .str z, z.length, rfl, ⟨by omega, rfl⟩, p, (z.length : Int), n, rfl, hp, hn, by omega, by omega, fun d H' d0 d1 hp' b => ?_⟩
    obtain ⟨k, rfl⟩ : ∃ k : Nat, d = k := ⟨d.toNat, by omega⟩
    have hd : k < z.cps.toList.length := by omega
    refine .inr (.inr ⟨z, _, _, rfl, rfl, by omega, atI_nat (List.getElem?_eq_getElem hd), q k _ H' ?_ hp' b⟩)
    rw [List.getElem?_map, List.getElem?_eq_getElem hd]
    rfl
/-! ### _law_pot_of -/
theorem op_powB {X : Cx} : OpR X (binaryOp .Pow) (rI (fun i j => 0 ≤ j ∧ (Builtin.Int.intBits i : Int) * j ≤ 2 ^ 27) fun i j => .int (i ^ j.toNat)) := opI fun _ _ _ _ _ _ _ hc q => PyProof.Rows.pow_int hc.1 hc.2 q
def spPotOf (K : PySem.W.Frag) : Sp := fun vs H Q _ => ∃ (a : Addr) (ns : List Int) (j : Nat), vs = [.ref a, .int (j : Int)] ∧ SqL K H a (ns.map V.int) ∧ j ≤ 100 ∧
  ∀ (p : Addr) (H' : Hp), H p = none → Same H H' → Pot H' p 0 → Q (.ref p) H'
theorem ok_pot_of {f : Addr} {fd : FuncData} (F : Fun K "_law_pot_of" "_law_pot_of" s__law_pot_of f fd) (T : Bare mg) : FnOk P w K mg base CX0 1 f fd ["_law_script", "_law_k"] (spPotOf K) := by
  refine F.ok sc__law_pot_of (fun vs H Q E h => ?_) (fun cdv A outer s H vs Q E hr h => ?_)
  · obtain ⟨a, ns, j, rfl, _⟩ := h
    rfl
  obtain ⟨a, ns, j, rfl, hS, hj, q⟩ := h
  refine ⟨_, (pss_cons (ps_set (i := 2) sc__law_pot_of.nd rfl (Or.inl rfl) (pe_ifExp (pt_cmpR op_lt (pv 1) (pe_callB call_len_seq (by rfl) T.len PySem.boot_len (pa_cons (pv 0) pa_nil)) (nomark _)) (pe_ix ix_list (pv 0) (pv 1) (fun _ _ => rfl)) (pe_op op_add (pe_op op_mul pe_int (pv 1)) pe_int)))
(pss_cons (ps_set (i := 3) sc__law_pot_of.nd rfl (Or.inl rfl) (pe_op op_mul (pe_op op_mod (pe_callTy call_int1 (by rfl) T.int (by decide +kernel) (pa_cons (pe_callB call_abs (by rfl) T.abs (by decide +kernel) (pa_cons (pv 2) pa_nil)) pa_nil)) (pe_op op_powB (pe_op op_pow pe_int pe_int) pe_int)) (pe_callTy call_int1 (by rfl) T.int (by decide +kernel) (pa_cons (pe_cmpR op_ge (pe_callB call_abs (by rfl) T.abs (by decide +kernel) (pa_cons (pv 2) pa_nil)) (pe_op op_pow pe_int pe_int) (nomark _)) pa_nil))))
(pss_one (ps_ret (pe_lst (pa_cons (pv 3) (pa_cons (pe_op op_mod (pe_callTy call_int1 (by rfl) T.int (by decide +kernel) (pa_cons (pe_op op_add (pe_op op_add (pe_op op_mul (pe_op op_mod (pe_callTy call_int1 (by rfl) T.int (by decide +kernel) (pa_cons (pv 2) pa_nil)) pe_int) pe_int) (pe_op op_mul (pe_op op_mul pe_int (pv 1)) (pv 1))) pe_int) pa_nil)) pe_int) (pa_cons pe_int pa_nil)))))))), ?_⟩
  have hl : (ns.map V.int).length = ns.length := List.length_map _
  refine ⟨_, rfl, _, rfl, a, _, rfl, .inl hS, _, _, rfl, rfl, _, rfl, ?_⟩
  refine ite2 (fun h => ?_) (fun h => ?_)
  rotate_left
  refine ⟨_, rfl, 31, _, rfl, rfl, .inl ⟨by decide, by decide⟩, _, 17, rfl, rfl, ?_⟩
  dsimp only
  generalize (31 * (j : Int) + 17) = c
  rotate_left
  have hlt : j < ns.length := by
    have := of_decide_eq_true h
    rw [hl] at this
    omega
  refine ⟨_, rfl, _, rfl, a, _, _, _, rfl, rfl, hS, atI_nat (by rw [List.getElem?_map, List.getElem?_eq_getElem hlt] <;> rfl), ?_⟩
  generalize ns[j] = c
  all_goals
    refine ⟨.int c, rfl, c, rfl, .inl ⟨_, rfl, ?_⟩⟩
    refine ⟨10, 60, rfl, rfl, ⟨by decide, by decide, by decide⟩, 10 ^ 60, 5, rfl, rfl, ⟨by decide, by decide +kernel⟩, _, _, rfl, rfl, (by show (0 : Int) < (10 ^ 60) ^ 5; decide +kernel), ?_⟩
    refine ⟨.int c, rfl, c, rfl, 10, 18, rfl, rfl, ⟨by decide, by decide, by decide⟩, _, _, rfl, rfl, .inr ⟨_, rfl, ?_⟩⟩
    generalize ha : (if c < 0 then -c else c) = a0
    have ha0 : 0 ≤ a0 := by rw [← ha]; split <;> omega
    refine ⟨_, _, rfl, rfl, .inr (by split <;> decide), ?_⟩
    have own0 : 0 ≤ a0 % (10 ^ (60 : Int).toNat) ^ (5 : Int).toNat * (if decide ((10 : Int) ^ (18 : Int).toNat ≤ a0) = true then 1 else 0) := by
      refine Int.mul_nonneg (Int.emod_nonneg _ (by decide +kernel)) ?_
      split <;> decide
    -- return
    refine ⟨_, rfl, .int c, rfl, .inl ⟨c, rfl, c, _, rfl, rfl, (by show (0 : Int) < 2305843009213693951; decide), _, _, rfl, rfl, .inr ⟨by decide, by decide⟩, ?_⟩⟩
    refine ⟨.int (j : Int), rfl, 7043, j, rfl, rfl, .inl ⟨by decide, by decide⟩, .int (j : Int), rfl, _, j, rfl, rfl, .inr ⟨by omega, by omega⟩, ?_⟩
    refine ⟨_, _, rfl, rfl, _, 29, rfl, rfl, .inl ⟨_, rfl, _, _, rfl, rfl, (by show (0 : Int) < 2305843009213693921; decide), small (by show 3 ≤ 1000; decide), fun p hp => ?_⟩⟩
    refine q p _ hp (same_new hp _) ⟨_, _, 0, upd_same, own0, Int.emod_nonneg _ (by decide), ?_, by decide, by decide⟩
    exact Int.lt_trans (Int.emod_lt_of_pos _ (by decide)) (by decide)
end
end Fk
set_option Elab.async false
set_option linter.all false
set_option maxRecDepth 100000
set_option maxHeartbeats 1000000
namespace Fk
open PySem L2
abbrev alpha : Str := "abcdefghijklmnopqrstuvwxyz"
abbrev tl (z : Str) : List Nat := z.cps.toList
def ofL (z : Str) : Bool := (tl z).all fun c => decide (c ∈ tl alpha)
/-! ### the constants -/
structure Con (K : PySem.W.Frag) (mg : Str → Option Value) : Prop where
  alpha : ∃ t, mg "ALPHABET" = some (.str alpha t)
  isi : mg "isinstance" = none
  all : mg "all" = none
  sum : mg "sum" = none
  repr : mg "repr" = none
  max : mg "max" = none
  min : mg "min" = none
  enum : mg "enumerate" = none
  zip : mg "zip" = none
theorem boot_isi : bootBuiltins "isinstance" = some (.builtin "isinstance") := by decide +kernel
theorem Same.trans {H H1 H2 : Hp} (a : Same H H1) (b : Same H1 H2) : Same H H2 := fun c o h => b c o (a c o h)
/-! ### data that can be shown, by sizes -/
structure Ok (N M : Nat) (d : PyData) : Prop where
  sh : d.showable = true
  nd : d.hasDict = false
  dp : d.depth ≤ M
  len : d.shown.length ≤ N
theorem Ok.mono {N M N' M' : Nat} {d : PyData} (h : Ok N M d) (a : N ≤ N') (b : M ≤ M') : Ok N' M' d := ⟨h.sh, h.nd, Nat.le_trans h.dp b, Nat.le_trans h.len a⟩
theorem Ok.dok {N M : Nat} {d : PyData} (h : Ok N M d) : Dok N M d := ⟨h.sh, .inl h.nd, h.dp, h.len⟩
theorem ok_non {N M : Nat} (h : 5 ≤ N) : Ok N M .none := ⟨by simp only [PyData.showable], by simp only [PyData.hasDict], by simp only [PyData.depth]; omega, by
  have e : (PyData.shown .none).length = 4 := rfl
  omega⟩
theorem ok_bool {N M : Nat} (b : Bool) (h : 5 ≤ N) : Ok N M (.bool b) := ⟨by simp only [PyData.showable], by simp only [PyData.hasDict], by simp only [PyData.depth]; omega, by
  have e : (PyData.shown (.bool b)).length ≤ 5 := by cases b <;> decide
  omega⟩
theorem ok_int {N M : Nat} {i : Int} (h : i.natAbs < 10000000000000000000) (hN : 20 ≤ N) : Ok N M (.int i) := ⟨by
  simp only [PyData.showable]
  refine decide_eq_true ?_
  by_cases z : i.natAbs = 0
  · rw [z]; decide
  · rw [Nat.log2_lt z]
    exact Nat.lt_of_lt_of_le (Nat.lt_of_lt_of_le h (by decide : 10000000000000000000 ≤ 2 ^ 64)) (Nat.pow_le_pow_right (by decide) (by decide)), by simp only [PyData.hasDict], by simp only [PyData.depth]; omega, by
  simp only [PyData.shown]
  have e := int_text_length_le10 (k := 19) (by decide) h
  show (Str.ofString (toString i)).length ≤ N
  rw [ofString_length]
  omega⟩
theorem ok_str {n N M : Nat} {z : Str} (h : ∀ c ∈ tl z, c < 16 ^ 8) (hz : z.length ≤ n) (hN : 10 * n + 2 ≤ N) : Ok N M (.str z) := ⟨by simp only [PyData.showable], by simp only [PyData.hasDict], by simp only [PyData.depth]; omega, by
  simp only [PyData.shown]
  have := StrLaws.reprText_len z h
  omega⟩
theorem sh_all : ∀ {ds : List PyData}, (∀ d ∈ ds, d.showable = true) → PyData.showableAll ds = true
  | [], _ => by simp only [PyData.showableAll]
  | d :: ds, h => by
    simp only [PyData.showableAll, Bool.and_eq_true]
    exact ⟨h d List.mem_cons_self, sh_all fun x hx => h x (List.mem_cons_of_mem _ hx)⟩
theorem nd_all : ∀ {ds : List PyData}, (∀ d ∈ ds, d.hasDict = false) → PyData.hasDictAll ds = false
  | [], _ => by simp only [PyData.hasDictAll]
  | d :: ds, h => by
    simp only [PyData.hasDictAll, Bool.or_eq_false_iff]
    exact ⟨h d List.mem_cons_self, nd_all fun x hx => h x (List.mem_cons_of_mem _ hx)⟩
theorem dp_all {M : Nat} : ∀ {ds : List PyData}, (∀ d ∈ ds, d.depth ≤ M) → PyData.depthAll ds ≤ M
  | [], _ => by simp only [PyData.depthAll]; omega
  | d :: ds, h => by
    have h1 := h d List.mem_cons_self
    have h2 := dp_all fun x hx => h x (List.mem_cons_of_mem _ hx)
    simp only [PyData.depthAll]
    omega
/-- the signs of all, and two for each -/
def lens (ds : List PyData) : Nat := (ds.map fun d => d.shown.length + 2).sum
theorem lens_shown : ∀ (ds : List PyData), ((PyData.shownAll ds).map (·.length)).sum + 2 * (PyData.shownAll ds).length = lens ds
  | [] => by simp only [PyData.shownAll]; rfl
  | d :: ds => by
    have ih := lens_shown ds
    unfold lens at ih ⊢
    simp only [PyData.shownAll, List.map_cons, List.sum_cons, List.length_cons]
    omega
theorem lens_cons (d : PyData) (ds : List PyData) : lens (d :: ds) = d.shown.length + 2 + lens ds := by
  unfold lens
  rw [List.map_cons, List.sum_cons]
theorem lens_nil : lens [] = 0 := rfl
theorem lens_append (ds es : List PyData) : lens (ds ++ es) = lens ds + lens es := by
  unfold lens
  rw [List.map_append, List.sum_append]
theorem lens_le {N : Nat} : ∀ {ds : List PyData}, (∀ d ∈ ds, d.shown.length ≤ N) → lens ds ≤ ds.length * (N + 2)
  | [], _ => Nat.zero_le _
  | d :: ds, h => by
    have h1 := h d List.mem_cons_self
    have h2 := lens_le fun x hx => h x (List.mem_cons_of_mem _ hx)
    rw [lens_cons, List.length_cons, Nat.succ_mul]
    omega
theorem ok_tup {N M : Nat} {ds : List PyData} (h : ∀ d ∈ ds, ∃ N', Ok N' M d) (l : lens ds + 3 ≤ N) : Ok N (M + 1) (.tuple ds) := ⟨by
  simp only [PyData.showable]
  exact sh_all fun d hd => (h d hd).elim fun _ k => k.sh, by
  simp only [PyData.hasDict]
  exact nd_all fun d hd => (h d hd).elim fun _ k => k.nd, by
  simp only [PyData.depth]
  have := dp_all fun d hd => (h d hd).elim fun _ k => k.dp
  omega, by
  simp only [PyData.shown]
  have := tupleText_len_le (PyData.shownAll ds)
  have := lens_shown ds
  omega⟩
theorem ok_lst {N M : Nat} {ds : List PyData} (h : ∀ d ∈ ds, ∃ N', Ok N' M d) (l : lens ds + 3 ≤ N) : Ok N (M + 1) (.list ds) := ⟨by
  simp only [PyData.showable]
  exact sh_all fun d hd => (h d hd).elim fun _ k => k.sh, by
  simp only [PyData.hasDict]
  exact nd_all fun d hd => (h d hd).elim fun _ k => k.nd, by
  simp only [PyData.depth]
  have := dp_all fun d hd => (h d hd).elim fun _ k => k.dp
  omega, by
  simp only [PyData.shown]
  have := listText_len_le (PyData.shownAll ds)
  have := lens_shown ds
  omega⟩
theorem mem2 {α : Type} {a b x : α} (h : x ∈ [a, b]) : x = a ∨ x = b := by simpa using h
theorem mem3 {α : Type} {a b c x : α} (h : x ∈ [a, b, c]) : x = a ∨ x = b ∨ x = c := by simpa using h
theorem nl_all : ∀ {ds : List PyData}, (∀ d ∈ ds, noList d = true) → noListAll ds = true
  | [], _ => by simp only [noListAll]
  | d :: ds, h => by
    simp only [noListAll, Bool.and_eq_true]
    exact ⟨h d List.mem_cons_self, nl_all fun x hx => h x (List.mem_cons_of_mem _ hx)⟩
/-! ### data without lists stand where a list is changed -/
theorem seqT_but {K : PySem.W.Frag} {p a : Addr} {H H' : Hp} {xs : List V} (e : But p H H') (hp : ∃ ys, H p = some (.lst ys)) (h : SqT K H a xs) : SqT K H' a xs := by
  obtain ⟨ys, hp⟩ := hp
  rcases h with (h | ⟨o, h⟩) | h
  · refine .inl (.inl (e _ _ h fun z => ?_))
    rw [z, hp] at h
    cases h
  · refine .inl (.inr ⟨o, e _ _ h fun z => ?_⟩)
    rw [z, hp] at h
    cases h
  · exact .inr h
mutual
theorem Dv.but {K : PySem.W.Frag} {p : Addr} {H H' : Hp} (e : But p H H') (hp : ∃ ys, H p = some (.lst ys)) : ∀ {d : PyData} {v : V}, noList d = true → Dv K H v d → Dv K H' v d
  | _, _, _, .non => .non
  | _, _, _, .bl b => .bl b
  | _, _, _, .int i => .int i
  | _, _, _, .str x h => .str x h
  | _, _, n, .lst h g => by simp only [noList] at n; cases n
  | _, _, n, .tup h g => .tup (seqT_but e hp h) (DvAll.but e hp (by simpa only [noList] using n) g)
  | _, _, _, .dct h => .dct (e _ _ h fun z => by
      obtain ⟨ys, hp⟩ := hp
      rw [z, hp] at h
      cases h)
theorem DvAll.but {K : PySem.W.Frag} {p : Addr} {H H' : Hp} (e : But p H H') (hp : ∃ ys, H p = some (.lst ys)) : ∀ {ds : List PyData} {vs : List V}, noListAll ds = true → DvAll K H vs ds → DvAll K H' vs ds
  | _, _, _, .nil => .nil
  | _, _, n, .cons h g => by
    simp only [noListAll, Bool.and_eq_true] at n
    exact .cons (Dv.but e hp n.1 h) (DvAll.but e hp n.2 g)
end
/-! ### the heap without the pot -/
def hid (l : List Addr) (H : Hp) : Hp := fun b => if b ∈ l then none else H b
theorem hid_get {l : List Addr} {H : Hp} {b : Addr} {o : HO} : hid l H b = some o ↔ b ∉ l ∧ H b = some o := by
  unfold hid
  by_cases h : b ∈ l
  · rw [if_pos h]
    exact ⟨fun z => (by cases z), fun z => absurd h z.1⟩
  · rw [if_neg h]
    exact ⟨fun z => ⟨h, z⟩, fun z => z.2⟩
theorem hid_same {l : List Addr} {H : Hp} : Same (hid l H) H := fun b o h => (hid_get.mp h).2
theorem But.hid {p : Addr} {H H' : Hp} {l : List Addr} (e : But p H H') (hp : p ∈ l) : Same (hid l H) (hid l H') := fun b o h => by
  obtain ⟨n, h⟩ := hid_get.mp h
  exact hid_get.mpr ⟨n, e b o h fun z => n (z ▸ hp)⟩
theorem Same.hid {H H' : Hp} {l : List Addr} (e : Same H H') : Same (hid l H) (hid l H') := fun b o h => by
  obtain ⟨n, h⟩ := hid_get.mp h
  exact hid_get.mpr ⟨n, e b o h⟩
theorem Pot.is {H : Hp} {p : Addr} {n : Nat} (h : Pot H p n) : ∃ ys, H p = some (.lst ys) := by
  obtain ⟨o, b, c, e, _⟩ := h
  exact ⟨_, e⟩
theorem hid_new {H : Hp} {p q : Addr} {o : HO} {n : Nat} (hp : Pot H p n) (hq : H q = none) : hid [p] (upd H q o) q = some o := by
  obtain ⟨u, hp⟩ := hp.is
  exact hid_get.mpr ⟨fun z => ne_of_none hp hq (List.mem_singleton.mp z).symm, upd_same⟩
theorem Pot.new {H : Hp} {p q : Addr} {n : Nat} (h : Pot H p n) (hq : H q = none) (o : HO) : Pot (upd H q o) p n := h.same (same_new hq o)
theorem same_but {p : Addr} {H H1 H2 : Hp} (a : Same H H1) (b : But p H1 H2) : But p H H2 := (But.of_same a).trans b
/-- data without lists, the pot hidden -/
theorem Dv.hidP {K : PySem.W.Frag} {H : Hp} {p : Addr} {n : Nat} {d : PyData} {v : V} (hp : Pot H p n) (nl : noList d = true) (h : Dv K H v d) : Dv K (Fk.hid [p] H) v d :=
  Dv.but (p := p) (fun b o e z => hid_get.mpr ⟨fun m => z (List.mem_singleton.mp m), e⟩) hp.is nl h
end Fk
set_option Elab.async false
set_option linter.all false
set_option maxRecDepth 100000
set_option maxHeartbeats 2000000
namespace Fk
open PySem PySem.Spec PyProof.Rows L2
/-! ### promises that hold where no repr is under way -/
structure FnOkG (P : Program) (w : World) (K : PySem.W.Frag) (mg : Str → Option Value)
    (base : Heap) (k : Nat) (f : Addr) (fd : FuncData) (ps : List Str) (sp : Sp) : Prop where
  size : ∀ vs H Q E, sp vs H Q E → vs.length = ps.length
  runs : ∀ (A : Around) (outer : List Env) (s : Shared) (H : Hp) (args : Args) (us : List Value) (vs : List V)
    (Q : VK) (E : XK), A.guards = some [] → Room k A → Env0 P w K mg base A outer s H →
    BindsTo s fd args (ps.zip us) → Vals vs us → sp vs H Q E →
    codeAny (model P w) A (.call (.ref f) args) (CR CX0 outer P w H s Q E) s
theorem Fun.okG {P : Program} {w : World} {K : PySem.W.Frag} {mg : Str → Option Value} {base : Heap}
    {x qual : Str} {st : Stmt} {f : Addr} {fd : FuncData} {N ps : List Str} {k : Nat} {sp : Sp}
    (F : Fun K x qual st f fd) (S : FnScope N ps (defScope st)) (size : ∀ vs H Q E, sp vs H Q E → vs.length = ps.length)
    (body : ∀ (cdv : Value) (A : Around) (outer : List Env) (s : Shared) (H : Hp) (vs : List V) (Q : VK) (E : XK),
      A.guards = some [] → Room k (A.deeper (envOfC qual (defScope st) s.heap.objs.size f cdv)) → sp vs H Q E →
      ∃ t, PSs (cxOf CX0 P w K mg base N qual (defScope st) f cdv A outer s H E).nox (defBody st) t ∧
        t { nx := fun _ H' => Q .non H', rt := Q } (start N vs) H) :
    FnOkG P w K mg base (k + 1) f fd ps sp := by
  obtain ⟨oc, od, kV, doc, pm, an, cdv, ct, osl, rfl, inK, hcd⟩ := F.ex
  refine ⟨size, fun A outer s H args us vs Q E hgu hr e0 hb rv hsp => ?_⟩
  have lenV := size _ _ _ _ hsp
  have KX : K.In s.heap := e0.mod.kin.keeps fun b o e =>
    (e0.bs b o e).1
  have lims : s.heap.NoLimit := e0.mod.nolimit.keeps fun b o e =>
    (e0.bs b o e).1
  refine codeAny_call_function hr.depth (KX _ _ inK) rfl S.co S.gen rfl
    (PySem.W.codeRec_of KX hcd) (hb _ _ _ _ ?_)
  refine wpAny_newFunctionEnv_cells S.kind (fun y hy => ?_) fun env he s1 call => ?_
  · rcases S.par y.1 (List.of_mem_zip (show (y.1, y.2) ∈ ps.zip us from hy)).1 with q | q
    · exact .inl q
    · exact .inr ⟨q, PySem.W.cellsFrom_some _ _ _ (.inl q)⟩
  · subst he
    refine ⟨lims.keeps call.toInCall.keep, codeAny_func ?_⟩
    obtain ⟨t, ht, hq⟩ := body cdv A outer s H vs Q E hgu (hr.deeper _) hsp
    refine wpAny_mono (ht.nox.run [] s1 (start N vs) H _ (inv_start S hr.hd e0 lenV rv call) hq) (fun fl s' ends => ?_)
      fun e s' ends => ends
    match fl, ends with
    | .ret u, ⟨v, σ', H', J, rel, q⟩ => exact ⟨v, H', J.os, J.bare, J.base, J.hok, rel, q⟩
    | .next, ⟨σ', H', J, q⟩ => exact ⟨.non, H', J.os, J.bare, J.base, J.hok, rfl, q⟩
    | .brk, ⟨_, _, _, q⟩ => exact q.elim
    | .cont, ⟨_, _, _, q⟩ => exact q.elim
section
variable {X : Cx}
/-- f(e, ..) of such a def -/
theorem pe_callG {f : Addr} {fd : FuncData} {ps : List Str} {sp : Sp} {k : Nat} {x : Str} {p pos : Pos} {e : Expr} {es : List Expr} {t : TA}
    (F : FnOkG X.prog X.w X.K X.mg X.base k f fd ps sp) (hgu : X.A.guards = some []) (hr : Room k X.A) (hg : Gl X x)
    (hm : X.mg x = some (.ref f)) (hk : PySem.W.keepIn X.K (.ref f) = true) (hb : Binds X.K fd ps [])
    (ha : PA X (e :: es) t) (hdb : (x == ("__debug__" : Str)) = false := by decide)
    (he : starEach (e :: es) X.env = (false, eval e X.env) :: starEach es X.env := by rfl)
    (hpl : (backTo pos (starEach es X.env)).any (·.1) = false := by rfl) :
    PE X (.Call (.Name x p) (e :: es) [] pos) (tCall sp [] (fun _ _ _ => False) t) := by
  refine ⟨fun pins s σ H Q I h => wpAny_Call_Name_kw (ld_glob I hg hm ?_ hdb)⟩
  refine PySem.W.callWith_K (h₀ := X.base) I.ok.mod.kin hk
    (thn (ha.run pos pins s σ H _ I h) fun us s1 ⟨vs, H1, I1, rv, q⟩ => ⟨I1.kIn, ?_⟩) he hpl
  have q' : sp (vs ++ []) H1 Q (fun _ _ _ => False) := q
  rw [List.append_nil] at q'
  have lenU : us.length = ps.length := by
    rw [← rv.length]
    exact F.size _ _ _ _ q'
  have bind := hb s1 us I1.kIn (by simpa using lenU)
  rw [List.append_nil] at bind
  refine wpAny_call (codeAny_mono (F.runs X.A X.stack s1 H1 ⟨us, []⟩ us vs Q _ hgu hr I1.env0 bind rv q') fun r s' ends => ?_)
  match r, ends with
  | .error e, ends => exact ends.elim
  | .ok (.ret u), ends => exact I1.after ends
  | .ok .next, ends => exact ends.elim
  | .ok .brk, ends => exact ends.elim
  | .ok .cont, ends => exact ends.elim
end
end Fk
set_option Elab.async false
set_option linter.all false
set_option maxRecDepth 100000
set_option maxHeartbeats 4000000
namespace Fk
open PySem PySem.Spec PyProof.Rows L2
/-! ### the head of a law whose promise holds where no repr is under way -/
/-- how the law's call has to end -/
def LawEnds (s : Shared) : Result → Shared → Prop := fun r s' =>
  r = .ok (.ret (.bool true)) ∧ OldK s.heap s'.heap ∧ s'.os = s.os ∧ AllBare s'.gens
section
variable {P : Program} {w : World} {K : PySem.W.Frag} {mg mb : Str → Option Value} {k : Nat} {fa a : Addr}
  {fd : FuncData} {x : Str} {sp : Sp} {s : Shared} {vs : List Value} {ns : List Int}
/-- from a heap in which at most the script is tracked -/
theorem call_from (H : Hp) (KX : K.In s.heap) (hns : s.heap.Ns mainGlobals mg) (hb : s.heap.Ns builtinsNs mb)
    (hbb : ∀ x : Str, x ≠ "__name__" → mb x = bootBuiltins x) (hlim : s.heap.NoLimit) (hg : s.gens = #[])
    (ha : s.heap.get? a = some { cls := .type "list", data := .seq vs.toArray }) (hr : Room k callerA)
    (F : ∀ base : Heap, K.In base → base.Ns mainGlobals mg → FnOkG P w K mg base k fa fd [x] sp)
    (hbind : ∀ (s : Shared) (u : Value), BindsTo s fd ⟨[u], []⟩ [(x, u)]) (only : Only H) (hok : HOk P w H s.heap)
    (one : ∀ b, H b ≠ none → b = a) (notK : H a ≠ none → K.lookup a = none)
    (hsp : sp [.ref a] H (fun v _ => v = .bl true) fun _ _ _ => False) :
    codeAny (model P w) callerA (.call (.ref fa) ⟨[.ref a], []⟩) (LawEnds s) s := by
  have stays : ∀ {b : Addr} {o : Obj}, s.heap.get? b = some o → (b = a → False) → (hidT s.heap H).get? b = some o :=
    fun {b o} e n => hidT_get e (Classical.byContradiction fun z => n (one b z))
  have dicts : ∀ {b : Addr} {m : Str → Option Value}, s.heap.Ns b m → (hidT s.heap H).Ns b m := fun {b m} n => by
    obtain ⟨o, es, ep, e, d, r⟩ := n
    refine ⟨o, es, ep, stays e fun z => ?_, d, r⟩
    rw [z, ha] at e
    cases e
    cases (show Data.seq vs.toArray _ = Data.dict es ep from d)
  have inK : K.In (hidT s.heap H) := fun b o e => hidT_get (KX b o e) (Classical.byContradiction fun z => by
    have eb := one b z
    subst eb
    rw [notK z] at e
    cases e)
  have hM : Mod K mg (hidT s.heap H) := by
    obtain ⟨mc, h1, h2⟩ := hlim
    exact ⟨inK, dicts hns, ⟨mb, dicts hb, hbb⟩, ⟨mc, dicts h1, h2⟩⟩
  have e0 : Env0 P w K mg (hidT s.heap H) callerA [] s H := by
    refine ⟨rfl, hM, fun b o e => of_hidT e, ?_, trivial, fun b hb => ?_, hok, .of_eq hg⟩
    · exact Nat.le_of_eq (hidT_size _ _)
    · cases (show b ∈ ([] : List Addr) from hb)
  have run := (F _ inK (dicts hns)).runs callerA [] s H ⟨[.ref a], []⟩ [.ref a] [.ref a] _ _ rfl hr e0
    (hbind s (.ref a)) (.cons rfl .nil) hsp
  refine codeAny_mono run fun r s' ends => ?_
  match r, ends with
  | .error e, ends => exact ends.elim
  | .ok .next, ends => exact ends.elim
  | .ok .brk, ends => exact ends.elim
  | .ok .cont, ends => exact ends.elim
  | .ok (.ret u), ⟨v, H', os, bare, un, hok', rel, ev⟩ =>
    have ev : v = .bl true := ev
    subst ev
    have eu : u = Value.bool true := rel
    subst eu
    refine ⟨rfl, OldK.of_keep fun b o e => ?_, os, bare⟩
    rcases only b with z | ⟨ob, xs, z⟩
    · refine un.keep b o e z (fun h => ?_) (by simp)
      cases (show b ∈ ([] : List Addr) from h)
    · have was := (hok b _ z).1
      have is := (hok' b _ (un.frzs b ob _ z)).1
      rw [e] at was
      cases was
      exact is
theorem law_callG (KX : K.In s.heap) (hns : s.heap.Ns mainGlobals mg) (hb : s.heap.Ns builtinsNs mb)
    (hbb : ∀ x : Str, x ≠ "__name__" → mb x = bootBuiltins x) (hlim : s.heap.NoLimit) (hg : s.gens = #[])
    (ha : s.heap.get? a = some { cls := .type "list", data := .seq vs.toArray }) (hi : IntsAre vs ns) (hl : ns.length ≤ sizeLine) (hr : Room k callerA)
    (F : ∀ base : Heap, K.In base → base.Ns mainGlobals mg → FnOkG P w K mg base k fa fd [x] sp)
    (hbind : ∀ (s : Shared) (u : Value), BindsTo s fd ⟨[u], []⟩ [(x, u)])
    (hsp : ∀ H : Hp, Only H → SqL K H a (ns.map V.int) → sp [.ref a] H (fun v _ => v = .bl true) fun _ _ _ => False) :
    codeAny (model P w) callerA (.call (.ref fa) ⟨[.ref a], []⟩) (LawEnds s) s := by
  have rv := vals_ints hi
  have lenV := hi.length
  by_cases hk : K.lookup a = none
  · have atA : ∀ b, (if b = a then some (HO.frz { cls := .type "list", data := .seq vs.toArray } (.lst (ns.map V.int))) else none) ≠ none → b = a :=
      fun b z => Classical.byContradiction fun n => z (if_neg n)
    refine call_from (fun b => if b = a then some (.frz { cls := .type "list", data := .seq vs.toArray } (.lst (ns.map V.int))) else none)
      KX hns hb hbb hlim hg ha hr F hbind (fun b => ?_) (fun b u z => ?_) atA (fun _ => hk) (hsp _ (fun b => ?_) (.inl (.inr ⟨_, if_pos rfl⟩)))
    · by_cases e : b = a
      · exact .inr ⟨_, _, if_pos e⟩
      · exact .inl (if_neg e)
    · have e : b = a := atA b fun y => by (have z := z.symm.trans y; cases z)
      subst e
      have z := (if_pos rfl).symm.trans z
      cases z
      exact ⟨ha, by rw [List.length_map]; exact hl, vs, _, rv, ha⟩
    · by_cases e : b = a
      · exact .inr ⟨_, _, if_pos e⟩
      · exact .inl (if_neg e)
  · obtain ⟨o, ho⟩ := Option.ne_none_iff_exists'.mp hk
    have same := KX a o ho
    rw [ha] at same
    cases same
    have none_ : ∀ b : Addr, (fun _ => none : Hp) b = none := fun _ => rfl
    refine call_from (fun _ => none) KX hns hb hbb hlim hg ha hr F hbind (fun b => .inl rfl) (fun b u z => by cases z) (fun b z => absurd rfl z) (fun z => absurd rfl z)
      (hsp _ (fun b => .inl rfl) (.inr ⟨_, vs.toArray, _, ho, rfl, rfl, rfl, ?_, by simpa using rv⟩))
    rw [List.size_toArray, lenV]
    exact hl
end
/-- the goal that the head leaves, from the law's promise -/
theorem walk_G {l : PySem.W.OpenLaw} {n k : Nat} {q : Program} {loose : List Str} {XP : (Str → Option Value) → Heap → Prop}
    {YP : World → Heap → Prop} {d : DefRec} {K : Params → PySem.W.Frag} {sp : PySem.W.Frag → Sp} {x : Str}
    (hn : l.most = some n) (hn2 : n ≤ sizeLine) (hdf : d.params.defaults = []) (hr : Room k callerA) (hY : ∀ (w : World) (h : Heap), YP w h → (K w.params).In h)
    (F : ∀ (w : World) (mg : Str → Option Value) (fa : Addr) (h : Heap), (K w.params).In h → h.Ns mainGlobals mg → mg d.name = some (.ref fa) → ∃ fd : FuncData,
      (∀ (s : Shared) (u : Value), BindsTo s fd ⟨[u], []⟩ [(x, u)]) ∧ ∀ base : Heap, (K w.params).In base → base.Ns mainGlobals mg → FnOkG l.prog w (K w.params) mg base k fa fd [x] (sp (K w.params)))
    (hsp : ∀ (K : PySem.W.Frag) (H : Hp) (a : Addr) (ns : List Int), ns.length ≤ n → Only H → SqL K H a (ns.map V.int) → sp K [.ref a] H (fun v _ => v = .bl true) fun _ _ _ => False) :
    PySem.W.WalkO q loose XP YP l.row.toRowW d [] (fun f vs => PySem.call f vs) := by
  refine Att.attach_call hn hdf fun w s₀ s₁ mg mb fa o pm cd doc a vs ns G Y ho hd hcd hmg hobj hints hlen hg => ?_
  have KX := hY w _ Y
  obtain ⟨fd, hbind, hF⟩ := F w mg fa _ KX G.T.g hmg
  exact law_callG KX G.T.g G.T.b G.T.builtins G.T.nolimit hg hobj hints (Nat.le_trans hlen hn2) hr hF hbind fun H only sq => hsp _ H a ns hlen only sq
end Fk
set_option Elab.async false
set_option linter.all false
set_option maxRecDepth 100000
set_option maxHeartbeats 2000000
namespace Fk
/-! ### outputs and their traces -/
inductive Wd (α : Type) where
  | up
  | dn
  | lt (c : α)
deriving DecidableEq
variable {α : Type} [DecidableEq α]
def Wd.isLt : Wd α → Bool
  | .lt _ => true
  | _ => false
def word (r : Nat) (e : α × Nat) : Wd α := if e.2 = r then .lt e.1 else if e.2 < r then .dn else .up
def push (t : List (Wd α)) (w : Wd α) : List (Wd α) := if w.isLt = true ∨ t.getLast? ≠ some w then t ++ [w] else t
def tr (o : List (α × Nat)) (r : Nat) : List (Wd α) := o.foldl (fun t e => push t (word r e)) []
theorem tr_snoc (o : List (α × Nat)) (e : α × Nat) (r : Nat) : tr (o ++ [e]) r = push (tr o r) (word r e) := by
  unfold tr
  rw [List.foldl_append]
  rfl
theorem last_tr (o : List (α × Nat)) (e : α × Nat) (r : Nat) : (tr (o ++ [e]) r).getLast? = some (word r e) := by
  rw [tr_snoc]
  unfold push
  split
  · rw [List.getLast?_append]
    rfl
  · rename_i h
    exact Decidable.byContradiction fun n => h (.inr n)
/-- what a letter at q, behind one at p, puts to the trace at r -/
def app (p : Nat) (e : α × Nat) (r : Nat) : Option (Wd α) := if r = e.2 then some (.lt e.1) else if p ≤ r ∧ r < e.2 then some .up else if e.2 < r ∧ r ≤ p then some .dn else none
theorem tr_ext (o : List (α × Nat)) (d : α × Nat) (e : α × Nat) (r : Nat) : tr (o ++ [d] ++ [e]) r = tr (o ++ [d]) r ++ (app d.2 e r).toList := by
  rw [tr_snoc]
  unfold push
  rw [last_tr]
  obtain ⟨c, p⟩ := d
  obtain ⟨c', q⟩ := e
  unfold app word
  by_cases h1 : q = r
  · subst h1
    simp [Wd.isLt]
  · have h1' : ¬ r = q := fun e => h1 e.symm
    by_cases h2 : p = r
    · subst h2
      by_cases h3 : q < p
      · simp [h1, h1', h3, Wd.isLt, show ¬ p < q by omega]
      · simp [h1, h1', h3, Wd.isLt, show p < q by omega]
    · by_cases h3 : q < r
      · by_cases h4 : p < r
        · simp [h1, h1', h2, h3, h4, Wd.isLt, show ¬ r < q by omega, show ¬ r ≤ p by omega]
        · simp [h1, h1', h2, h3, h4, Wd.isLt, show ¬ r < q by omega, show r ≤ p by omega]
      · by_cases h4 : p < r
        · simp [h1, h1', h2, h3, h4, Wd.isLt, show r < q by omega, show p ≤ r by omega]
        · simp [h1, h1', h2, h3, h4, Wd.isLt, show r < q by omega, show ¬ p ≤ r by omega]
theorem tr_one (e : α × Nat) (r : Nat) : tr [e] r = [word r e] := by
  show push [] (word r e) = _
  unfold push
  rw [if_pos (.inr (by simp))]
  rfl
/-- an output whose traces are begun in v -/
def Begun (v : List (List (Wd α))) (o : List (α × Nat)) : Prop := (∀ e ∈ o, e.2 < v.length) ∧ ∀ r t, v[r]? = some t → tr o r <+: t
/-- .. and are all of v -/
def Whole (v : List (List (Wd α))) (o : List (α × Nat)) : Prop := (∀ e ∈ o, e.2 < v.length) ∧ ∀ r t, v[r]? = some t → tr o r = t
/-- the word that comes next at r -/
def nxt (v : List (List (Wd α))) (o : List (α × Nat)) (r : Nat) : Option (Wd α) := (v[r]?.getD [])[(tr o r).length]?
theorem pre_app {a t : List (Wd α)} {w : Wd α} (h : a <+: t) : a ++ [w] <+: t ↔ t[a.length]? = some w := by
  obtain ⟨b, rfl⟩ := h
  rw [List.getElem?_append_right (Nat.le_refl _), Nat.sub_self]
  cases b with
  | nil =>
    simp only [List.append_nil, List.getElem?_nil]
    refine ⟨fun h => ?_, fun h => by cases h⟩
    have := h.length_le
    rw [List.length_append, List.length_singleton] at this
    exact absurd this (Nat.not_succ_le_self _)
  | cons x b =>
    rw [List.prefix_append_right_inj]
    simp only [List.getElem?_cons_zero, Option.some.injEq]
    constructor
    · rintro ⟨z, hz⟩
      injection hz with e _
      exact e.symm
    · rintro rfl
      exact ⟨b, rfl⟩
theorem begun_ext {v : List (List (Wd α))} {o : List (α × Nat)} {d e : α × Nat} (B : Begun v (o ++ [d])) : Begun v (o ++ [d] ++ [e]) ↔ e.2 < v.length ∧ ∀ r, r < v.length → ∀ w, app d.2 e r = some w → nxt v (o ++ [d]) r = some w := by
  constructor
  · rintro ⟨h1, h2⟩
    refine ⟨h1 e (by simp), fun r hr w hw => ?_⟩
    have hv : v[r]? = some v[r] := List.getElem?_eq_getElem hr
    have h3 := h2 r _ hv
    rw [tr_ext, hw] at h3
    unfold nxt
    rw [hv]
    exact (pre_app (B.2 r _ hv)).mp h3
  · rintro ⟨h1, h2⟩
    refine ⟨fun x hx => ?_, fun r t ht => ?_⟩
    · rcases List.mem_append.mp hx with hx | hx
      · exact B.1 x hx
      · rw [List.mem_singleton.mp hx]
        exact h1
    · rw [tr_ext]
      cases ha : app d.2 e r with
      | none =>
        show tr (o ++ [d]) r ++ [] <+: t
        rw [List.append_nil]
        exact B.2 r t ht
      | some w =>
        have h3 := h2 r (List.getElem?_eq_some_iff.mp ht).1 w ha
        unfold nxt at h3
        rw [ht] at h3
        exact (pre_app (B.2 r t ht)).mpr h3
theorem app_here (p : Nat) (e : α × Nat) : app p e p = some (if p = e.2 then .lt e.1 else if p < e.2 then .up else .dn) := by
  unfold app
  by_cases h : p = e.2
  · rw [if_pos h, if_pos h]
  · rw [if_neg h, if_neg h]
    by_cases h2 : p < e.2
    · rw [if_pos ⟨Nat.le_refl _, h2⟩, if_pos h2]
    · rw [if_neg (fun z => h2 z.2), if_neg h2, if_pos ⟨by omega, Nat.le_refl _⟩]
theorem app_at (p : Nat) (e : α × Nat) : app p e e.2 = some (.lt e.1) := if_pos rfl
theorem app_up {p : Nat} {e : α × Nat} {r : Nat} (h1 : p ≤ r) (h2 : r < e.2) : app p e r = some .up := by
  unfold app
  rw [if_neg (by omega), if_pos ⟨h1, h2⟩]
theorem app_dn {p : Nat} {e : α × Nat} {r : Nat} (h1 : r ≤ p) (h2 : e.2 < r) : app p e r = some .dn := by
  unfold app
  rw [if_neg (by omega), if_neg (by omega), if_pos ⟨h2, h1⟩]
theorem begun_one {v : List (List (Wd α))} {e : α × Nat} : Begun v [e] ↔ e.2 < v.length ∧ ∀ r, r < v.length → nxt v [] r = some (word r e) := by
  have e0 : ∀ r, nxt v ([] : List (α × Nat)) r = (v[r]?.getD [])[0]? := fun r => rfl
  constructor
  · rintro ⟨h1, h2⟩
    refine ⟨h1 e (by simp), fun r hr => ?_⟩
    have hv : v[r]? = some v[r] := List.getElem?_eq_getElem hr
    have h3 := h2 r _ hv
    rw [tr_one] at h3
    rw [e0, hv]
    obtain ⟨b, hb⟩ := h3
    show v[r][0]? = _
    rw [← hb]
    rfl
  · rintro ⟨h1, h2⟩
    refine ⟨fun x hx => by rw [List.mem_singleton.mp hx]; exact h1, fun r t ht => ?_⟩
    have h3 := h2 r (List.getElem?_eq_some_iff.mp ht).1
    rw [e0, ht] at h3
    rw [tr_one]
    cases t with
    | nil => cases h3
    | cons x b =>
      have h3 : x = word r e := by simpa using h3
      rw [h3]
      exact ⟨b, rfl⟩
theorem lt_inj {c d : α} (h : (Wd.lt c : Wd α) = .lt d) : c = d := by
  injection h
/-- the next letter is one alone -/
theorem ext_one {v : List (List (Wd α))} {o : List (α × Nat)} {d e f : α × Nat} (B : Begun v (o ++ [d])) (h1 : Begun v (o ++ [d] ++ [e])) (h2 : Begun v (o ++ [d] ++ [f])) : e = f := by
  obtain ⟨a1, a2⟩ := (begun_ext B).mp h1
  obtain ⟨b1, b2⟩ := (begun_ext B).mp h2
  have dp : d.2 < v.length := B.1 d (by simp)
  have key : ∀ r w w', r < v.length → app d.2 e r = some w → app d.2 f r = some w' → w = w' := fun r w w' hr x y => Option.some.inj ((a2 r hr w x).symm.trans (b2 r hr w' y))
  have hp := key d.2 _ _ dp (app_here _ _) (app_here _ _)
  obtain ⟨c, q⟩ := e
  obtain ⟨c', q'⟩ := f
  simp only at *
  have hq : q = q' := by
    by_cases g1 : q < q'
    · exfalso
      by_cases g2 : d.2 ≤ q
      · have := key q _ _ a1 (app_at d.2 (c, q)) (app_up g2 g1)
        cases this
      · by_cases g3 : q' ≤ d.2
        · have := key q' _ _ b1 (app_dn g3 g1) (app_at d.2 (c', q'))
          cases this
        · rw [if_neg (by omega), if_neg (by omega), if_neg (by omega), if_pos (by omega)] at hp
          cases hp
    · by_cases g0 : q = q'
      · exact g0
      · exfalso
        have g1 : q' < q := by omega
        by_cases g2 : d.2 ≤ q'
        · have := key q' _ _ b1 (app_up g2 g1) (app_at d.2 (c', q'))
          cases this
        · by_cases g3 : q ≤ d.2
          · have := key q _ _ a1 (app_at d.2 (c, q)) (app_dn g3 g1)
            cases this
          · rw [if_neg (by omega), if_pos (by omega), if_neg (by omega), if_neg (by omega)] at hp
            cases hp
  subst hq
  have := key q _ _ a1 (app_at d.2 (c, q)) (app_at d.2 (c', q))
  have hc : c = c' := lt_inj this
  rw [hc]
/-- going up from p -/
theorem up_is {v : List (List (Wd α))} {o : List (α × Nat)} {d : α × Nat} {q : Nat} (B : Begun v (o ++ [d])) (h0 : d.2 < q) (h1 : ∀ r, d.2 ≤ r → r < q → nxt v (o ++ [d]) r = some .up) (hq : q < v.length) {c : α} (h2 : nxt v (o ++ [d]) q = some (.lt c)) : Begun v (o ++ [d] ++ [(c, q)]) := by
  refine (begun_ext B).mpr ⟨hq, fun r hr w hw => ?_⟩
  unfold app at hw
  simp only at hw
  split at hw
  · rename_i e
    cases hw
    rw [e]
    exact h2
  · split at hw
    · rename_i e
      cases hw
      exact h1 r e.1 e.2
    · split at hw
      · rename_i e
        omega
      · cases hw
theorem up_not {v : List (List (Wd α))} {o : List (α × Nat)} {d : α × Nat} {q : Nat} (B : Begun v (o ++ [d])) (h0 : d.2 < q) (h1 : ∀ r, d.2 ≤ r → r < q → nxt v (o ++ [d]) r = some .up) (h2 : v.length ≤ q ∨ ((∀ c, nxt v (o ++ [d]) q ≠ some (.lt c)) ∧ nxt v (o ++ [d]) q ≠ some .up)) (e : α × Nat) : ¬ Begun v (o ++ [d] ++ [e]) := fun h => by
  obtain ⟨a1, a2⟩ := (begun_ext B).mp h
  have dp : d.2 < v.length := B.1 d (by simp)
  have hp := a2 d.2 dp _ (app_here _ _)
  rw [h1 d.2 (Nat.le_refl _) h0] at hp
  have g : d.2 < e.2 := by
    by_cases g1 : d.2 = e.2
    · rw [if_pos g1] at hp
      cases hp
    · rw [if_neg g1] at hp
      by_cases g2 : d.2 < e.2
      · exact g2
      · rw [if_neg g2] at hp
        cases hp
  have ge := a2 e.2 a1 _ (app_at _ _)
  by_cases g1 : e.2 < q
  · rw [h1 e.2 (by omega) g1] at ge
    cases ge
  · rcases h2 with h2 | ⟨h2, h3⟩
    · omega
    · by_cases g2 : e.2 = q
      · rw [g2] at ge
        exact h2 _ ge
      · exact h3 (a2 q (by omega) _ (app_up (by omega) (by omega)))
/-- going down from p -/
theorem dn_is {v : List (List (Wd α))} {o : List (α × Nat)} {d : α × Nat} {q : Nat} (B : Begun v (o ++ [d])) (h0 : q < d.2) (h1 : ∀ r, r ≤ d.2 → q < r → nxt v (o ++ [d]) r = some .dn) {c : α} (h2 : nxt v (o ++ [d]) q = some (.lt c)) : Begun v (o ++ [d] ++ [(c, q)]) := by
  have dp : d.2 < v.length := B.1 d (by simp)
  refine (begun_ext B).mpr ⟨by show q < _; omega, fun r hr w hw => ?_⟩
  unfold app at hw
  simp only at hw
  split at hw
  · rename_i e
    cases hw
    rw [e]
    exact h2
  · split at hw
    · rename_i e
      omega
    · split at hw
      · rename_i e
        cases hw
        exact h1 r e.2 e.1
      · cases hw
theorem dn_not {v : List (List (Wd α))} {o : List (α × Nat)} {d : α × Nat} (B : Begun v (o ++ [d])) (h0 : nxt v (o ++ [d]) d.2 = some .dn) (h2 : (∀ r, r ≤ d.2 → nxt v (o ++ [d]) r = some .dn) ∨ ∃ q, q < d.2 ∧ (∀ r, r ≤ d.2 → q < r → nxt v (o ++ [d]) r = some .dn) ∧ (∀ c, nxt v (o ++ [d]) q ≠ some (.lt c)) ∧ nxt v (o ++ [d]) q ≠ some .dn) (e : α × Nat) : ¬ Begun v (o ++ [d] ++ [e]) := fun h => by
  obtain ⟨a1, a2⟩ := (begun_ext B).mp h
  have dp : d.2 < v.length := B.1 d (by simp)
  have hp := a2 d.2 dp _ (app_here _ _)
  rw [h0] at hp
  have g : e.2 < d.2 := by
    by_cases g1 : d.2 = e.2
    · rw [if_pos g1] at hp
      cases hp
    · rw [if_neg g1] at hp
      by_cases g2 : d.2 < e.2
      · rw [if_pos g2] at hp
        cases hp
      · omega
  have ge := a2 e.2 a1 _ (app_at _ _)
  rcases h2 with h2 | ⟨q, q0, h1, h2, h3⟩
  · rw [h2 e.2 (by omega)] at ge
    cases ge
  · by_cases g1 : q < e.2
    · rw [h1 e.2 (by omega) g1] at ge
      cases ge
    · by_cases g2 : e.2 = q
      · rw [g2] at ge
        exact h2 _ ge
      · exact h3 (a2 q (by omega) _ (app_dn (by omega) (by omega)))
/-- at p itself -/
theorem here_is {v : List (List (Wd α))} {o : List (α × Nat)} {d : α × Nat} (B : Begun v (o ++ [d])) {c : α} (h2 : nxt v (o ++ [d]) d.2 = some (.lt c)) : Begun v (o ++ [d] ++ [(c, d.2)]) := by
  have dp : d.2 < v.length := B.1 d (by simp)
  refine (begun_ext B).mpr ⟨dp, fun r hr w hw => ?_⟩
  unfold app at hw
  simp only at hw
  split at hw
  · rename_i e
    cases hw
    rw [e]
    exact h2
  · split at hw
    · rename_i e
      omega
    · split at hw
      · rename_i e
        omega
      · cases hw
theorem here_not {v : List (List (Wd α))} {o : List (α × Nat)} {d : α × Nat} (B : Begun v (o ++ [d])) (h0 : nxt v (o ++ [d]) d.2 = none) (e : α × Nat) : ¬ Begun v (o ++ [d] ++ [e]) := fun h => by
  obtain ⟨a1, a2⟩ := (begun_ext B).mp h
  have hp := a2 d.2 (B.1 d (by simp)) _ (app_here _ _)
  rw [h0] at hp
  cases hp
/-- the beginning of what is begun -/
theorem Begun.front {v : List (List (Wd α))} {o : List (α × Nat)} {e : α × Nat} (h : Begun v (o ++ [e])) : Begun v o := by
  refine ⟨fun x hx => h.1 x (List.mem_append_left _ hx), fun r t ht => ?_⟩
  have h2 := h.2 r t ht
  rw [tr_snoc] at h2
  unfold push at h2
  split at h2
  · exact (List.prefix_append _ _).trans h2
  · exact h2
theorem Whole.begun {v : List (List (Wd α))} {o : List (α × Nat)} (h : Whole v o) : Begun v o := ⟨h.1, fun r t ht => by rw [h.2 r t ht]; exact List.prefix_refl _⟩
theorem begun_whole {v : List (List (Wd α))} {o : List (α × Nat)} (h : Begun v o) : Whole v o ↔ ∀ r t, v[r]? = some t → (tr o r).length = t.length := by
  refine ⟨fun w r t ht => by rw [w.2 r t ht], fun g => ⟨h.1, fun r t ht => ?_⟩⟩
  exact (h.2 r t ht).eq_of_length (g r t ht)
end Fk
set_option Elab.async false
set_option linter.all false
set_option maxRecDepth 100000
set_option maxHeartbeats 2000000
namespace Fk
/-! ### the search among all orders keeps the one output -/
variable {α : Type} [DecidableEq α]
def letter? : Wd α → Option α
  | .lt c => some c
  | _ => none
def letters (t : List (Wd α)) : List α := t.filterMap letter?
theorem letters_push (t : List (Wd α)) (w : Wd α) : letters (push t w) = letters t ++ (letter? w).toList := by
  unfold push
  split
  · unfold letters
    rw [List.filterMap_append]
    cases w <;> rfl
  · rename_i h
    cases w with
    | lt c => exact absurd (.inl rfl) h
    | up => exact (List.append_nil _).symm
    | dn => exact (List.append_nil _).symm
/-- how many letters stand at r -/
def many (o : List (α × Nat)) (r : Nat) : Nat := (o.filter fun e => decide (e.2 = r)).length
theorem snoc_ind {β : Type} {P : List β → Prop} (h0 : P []) (h1 : ∀ l x, P l → P (l ++ [x])) : ∀ l, P l := fun l => by
  have : ∀ n (l : List β), l.length = n → P l := by
    intro n
    induction n with
    | zero => intro l h; rw [List.eq_nil_of_length_eq_zero h]; exact h0
    | succ n ih =>
      intro l h
      have hne : l ≠ [] := fun e => by rw [e] at h; cases h
      rw [← List.dropLast_concat_getLast hne]
      exact h1 _ _ (ih _ (by rw [List.length_dropLast, h]; rfl))
  exact this _ l rfl
theorem letters_many (r : Nat) : ∀ o : List (α × Nat), (letters (tr o r)).length = many o r := by
  refine snoc_ind rfl fun o e ih => ?_
  rw [tr_snoc, letters_push, List.length_append, ih]
  unfold many word
  rw [List.filter_append, List.length_append]
  by_cases h : e.2 = r
  · simp [h, letter?]
  · simp only [h, if_false]
    by_cases h2 : e.2 < r
    · simp [h, h2, letter?]
    · simp [h, h2, letter?]
theorem next_letter {v : List (List (Wd α))} {o : List (α × Nat)} {e : α × Nat} {t : List (Wd α)} (h : Begun v (o ++ [e])) (ht : v[e.2]? = some t) : (letters t)[many o e.2]? = some e.1 := by
  have h2 := h.2 _ _ ht
  rw [tr_snoc] at h2
  obtain ⟨b, hb⟩ := h2
  have : letters t = letters (tr o e.2) ++ [e.1] ++ letters b := by
    rw [← hb]
    unfold letters
    rw [List.filterMap_append]
    have h3 := letters_push (tr o e.2) (word e.2 e)
    unfold letters at h3
    rw [h3]
    unfold word
    rw [if_pos rfl]
    rfl
  rw [this, List.append_assoc, List.getElem?_append_right (by rw [letters_many]; exact Nat.le_refl _), letters_many, Nat.sub_self]
  rfl
/-- the next letter is one alone, also the first one -/
theorem any_one {v : List (List (Wd α))} {o : List (α × Nat)} {e f : α × Nat} (h1 : Begun v (o ++ [e])) (h2 : Begun v (o ++ [f])) : e = f := by
  by_cases hne : o = []
  · subst hne
    obtain ⟨a1, a2⟩ := begun_one.mp h1
    obtain ⟨b1, b2⟩ := begun_one.mp h2
    have := Option.some.inj ((a2 _ a1).symm.trans (b2 _ a1))
    unfold word at this
    rw [if_pos rfl] at this
    by_cases g : f.2 = e.2
    · rw [if_pos g] at this
      obtain ⟨c, q⟩ := e
      obtain ⟨c', q'⟩ := f
      have hc : c = c' := lt_inj this
      have hq : q' = q := g
      rw [hc, hq]
    · rw [if_neg g] at this
      split at this <;> cases this
  · have hb := h1.front
    rw [← List.dropLast_concat_getLast hne] at h1 h2 hb
    exact ext_one hb h1 h2
/-- one letter more at r, if one is left there -/
def more (v : List (List (Wd α))) (o : List (α × Nat)) (r : Nat) : List (List (α × Nat)) := (((letters (v[r]?.getD [])).drop (many o r)).take 1).map fun c => o ++ [(c, r)]
def longer (v : List (List (Wd α))) (o : List (α × Nat)) : List (List (α × Nat)) := (List.range v.length).flatMap (more v o)
theorem more_in {v : List (List (Wd α))} {o : List (α × Nat)} {r : Nat} {x : List (α × Nat)} (h : x ∈ more v o r) : ∃ c, x = o ++ [(c, r)] := by
  obtain ⟨c, _, rfl⟩ := List.mem_map.mp h
  exact ⟨c, rfl⟩
theorem flat_none {β γ : Type} {p : γ → Bool} {f : β → List γ} : ∀ {l : List β}, (∀ r ∈ l, (f r).filter p = []) → (l.flatMap f).filter p = []
  | [], _ => rfl
  | a :: l, h => by
    rw [List.flatMap_cons, List.filter_append, h a List.mem_cons_self, flat_none fun r hr => h r (List.mem_cons_of_mem _ hr)]
    rfl
theorem flat_one {β γ : Type} {p : γ → Bool} {f : β → List γ} {q : β} {x : γ} : ∀ {l : List β}, l.Nodup → q ∈ l → (f q).filter p = [x] → (∀ r ∈ l, r ≠ q → (f r).filter p = []) → (l.flatMap f).filter p = [x]
  | [], _, h, _, _ => by cases h
  | a :: l, nd, hq, hx, h => by
    obtain ⟨n1, n2⟩ := List.nodup_cons.mp nd
    rw [List.flatMap_cons, List.filter_append]
    rcases List.mem_cons.mp hq with rfl | hq
    · rw [hx, flat_none fun r hr => h r (List.mem_cons_of_mem _ hr) fun e => n1 (e ▸ hr)]
      rfl
    · rw [h a List.mem_cons_self (fun e => n1 (e ▸ hq)), flat_one n2 hq hx fun r hr => h r (List.mem_cons_of_mem _ hr)]
      rfl
/-- one turn of the search -/
theorem turn_none {v : List (List (Wd α))} {o : List (α × Nat)} {p : List (α × Nat) → Bool} (hp : ∀ e, e.2 < v.length → p (o ++ [e]) = true → Begun v (o ++ [e])) (h : ∀ e, ¬ Begun v (o ++ [e])) : (longer v o).filter p = [] := by
  refine flat_none fun r hr => ?_
  rw [List.filter_eq_nil_iff]
  intro x hx hpx
  obtain ⟨c, rfl⟩ := more_in hx
  exact h _ (hp _ (List.mem_range.mp hr) hpx)
theorem turn_one {v : List (List (Wd α))} {o : List (α × Nat)} {p : List (α × Nat) → Bool} {e : α × Nat} (hp : ∀ e, e.2 < v.length → (p (o ++ [e]) = true ↔ Begun v (o ++ [e]))) (h : Begun v (o ++ [e])) : (longer v o).filter p = [o ++ [e]] := by
  have he : e.2 < v.length := h.1 e (by simp)
  refine flat_one List.nodup_range (List.mem_range.mpr he) ?_ fun r hr n => ?_
  · have hv : v[e.2]? = some v[e.2] := List.getElem?_eq_getElem he
    have hl := next_letter h hv
    unfold more
    rw [hv]
    obtain ⟨h1, h2⟩ := List.getElem?_eq_some_iff.mp hl
    show List.filter p ((((letters v[e.2]).drop (many o e.2)).take 1).map _) = _
    rw [List.drop_eq_getElem_cons h1, h2]
    show List.filter p [o ++ [(e.1, e.2)]] = _
    rw [List.filter_cons_of_pos ((hp e he).mpr h)]
    rfl
  · rw [List.filter_eq_nil_iff]
    intro x hx hpx
    obtain ⟨c, rfl⟩ := more_in hx
    have := any_one h ((hp (c, r) (List.mem_range.mp hr)).mp hpx)
    exact n (by rw [this])
/-- an output whole in v has just as many letters as v -/
theorem sum_many : ∀ (n : Nat) (o : List (α × Nat)), (∀ e ∈ o, e.2 < n) → ((List.range n).map (many o)).sum = o.length := fun n => by
  refine snoc_ind (fun _ => ?_) fun o e ih h => ?_
  · have : ∀ l : List Nat, (l.map (many ([] : List (α × Nat)))).sum = 0 := fun l => by
      induction l with
      | nil => rfl
      | cons a l ih => rw [List.map_cons, List.sum_cons, ih]; rfl
    exact this _
  · have h1 := ih fun x hx => h x (List.mem_append_left _ hx)
    have he := h e (by simp)
    rw [List.length_append, List.length_singleton, ← h1]
    have key : ∀ l : List Nat, l.Nodup → (l.map (many (o ++ [e]))).sum = (l.map (many o)).sum + (if e.2 ∈ l then 1 else 0) := fun l => by
      induction l with
      | nil => intro _; rfl
      | cons a l ih =>
        intro nd
        obtain ⟨n1, n2⟩ := List.nodup_cons.mp nd
        rw [List.map_cons, List.sum_cons, List.map_cons, List.sum_cons, ih n2]
        have e1 : many (o ++ [e]) a = many o a + (if e.2 = a then 1 else 0) := by
          unfold many
          rw [List.filter_append, List.length_append]
          by_cases g : e.2 = a <;> simp [g]
        rw [e1]
        by_cases g : e.2 = a
        · have g2 : e.2 ∉ l := by rw [g]; exact n1
          rw [if_pos g, if_neg g2, if_pos (by rw [g]; exact List.mem_cons_self)]
          omega
        · have g2 : (e.2 ∈ a :: l) ↔ e.2 ∈ l := by
            rw [List.mem_cons]
            exact ⟨fun z => z.resolve_left g, .inr⟩
          rw [if_neg g]
          by_cases g3 : e.2 ∈ l
          · rw [if_pos g3, if_pos (g2.mpr g3)]
            omega
          · rw [if_neg g3, if_neg fun z => g3 (g2.mp z)]
            omega
    rw [key _ List.nodup_range, if_pos (List.mem_range.mpr he)]
end Fk
set_option Elab.async false
set_option linter.all false
set_option maxRecDepth 100000
set_option maxHeartbeats 2000000
namespace Fk
open PySem PySem.Spec PyProof.Rows L2
/-! ### == of data -/
section
variable {X : Cx}
def rEqW (K : PySem.W.Frag) : R2 := fun x y H Q => ∃ d e, Dv K H x d ∧ Dv K H y e ∧ SeqAt.shaped d = true ∧ SeqAt.shaped e = true ∧ Q (.bl (PyData.eqv d e)) H
def rNeW (K : PySem.W.Frag) : R2 := fun x y H Q => ∃ d e, Dv K H x d ∧ Dv K H y e ∧ SeqAt.shaped d = true ∧ SeqAt.shaped e = true ∧ Q (.bl (!PyData.eqv d e)) H
theorem op_eqW (hu : X.A.units + 64 < cLine) : OpR X (compareOp .Eq) (rEqW X.K) := by
  intro pins s σ H x y v u Q I rx ry h
  obtain ⟨d, e, hd, he, sd, se, q⟩ := h
  obtain ⟨as, r1, _⟩ := Dv.reads I d x v hd rx
  obtain ⟨bs, r2, _⟩ := Dv.reads I e y u he ry
  exact SeqAt.compareEq_shaped r1 r2 sd se hu ⟨.bl _, H, I, rfl, q⟩
theorem op_neW (hu : X.A.units + 64 < cLine) : OpR X (compareOp .NotEq) (rNeW X.K) := by
  intro pins s σ H x y v u Q I rx ry h
  obtain ⟨d, e, hd, he, sd, se, q⟩ := h
  obtain ⟨as, r1, _⟩ := Dv.reads I d x v hd rx
  obtain ⟨bs, r2, _⟩ := Dv.reads I e y u he ry
  exact SeqAt.compareNe_shaped r1 r2 sd se hu ⟨.bl _, H, I, rfl, q⟩
end
theorem eqv_strs : ∀ xs ys : List Str, PyData.eqvAll (xs.map .str) (ys.map .str) = decide (xs = ys)
  | [], [] => rfl
  | [], _ :: _ => rfl
  | _ :: _, [] => rfl
  | x :: xs, y :: ys => by
    show ((x == y) && PyData.eqvAll (xs.map .str) (ys.map .str)) = _
    rw [eqv_strs xs ys]
    by_cases e : x = y
    · subst e
      simp
    · have e' : (x == y) = false := beq_eq_false_iff_ne.mpr e
      rw [e', Bool.false_and]
      exact (decide_eq_false fun z => e (by injection z)).symm
def nD (n : Nat) : PyData := .int (n : Int)
theorem eqv_nats : ∀ xs ys : List Nat, PyData.eqvAll (xs.map nD) (ys.map nD) = decide (xs = ys)
  | [], [] => rfl
  | [], _ :: _ => rfl
  | _ :: _, [] => rfl
  | x :: xs, y :: ys => by
    show (((x : Int) == (y : Int)) && PyData.eqvAll (xs.map nD) (ys.map nD)) = _
    rw [eqv_nats xs ys]
    by_cases e : x = y
    · subst e
      simp
    · have e' : ((x : Int) == (y : Int)) = false := beq_eq_false_iff_ne.mpr fun z => e (by omega)
      rw [e', Bool.false_and]
      exact (decide_eq_false fun z => e (by injection z)).symm
theorem eqv_tups : ∀ xs ys : List (List Str), PyData.eqvAll (xs.map fun t => .tuple (t.map .str)) (ys.map fun t => .tuple (t.map .str)) = decide (xs = ys)
  | [], [] => rfl
  | [], _ :: _ => rfl
  | _ :: _, [] => rfl
  | x :: xs, y :: ys => by
    show (PyData.eqvAll (x.map .str) (y.map .str) && PyData.eqvAll (xs.map fun t => .tuple (t.map .str)) (ys.map fun t => .tuple (t.map .str))) = _
    rw [eqv_tups xs ys, eqv_strs]
    by_cases e : x = y
    · subst e
      simp
    · rw [decide_eq_false e, Bool.false_and]
      exact (decide_eq_false fun z => e (by injection z)).symm
theorem lay_all {ds : List PyData} (h : ∀ d ∈ ds, d.canLay0 = true) : PyData.canLayAll0 ds = true := by
  induction ds with
  | nil => rfl
  | cons d ds ih =>
    show (d.canLay0 && PyData.canLayAll0 ds) = true
    rw [h d List.mem_cons_self, ih fun x hx => h x (List.mem_cons_of_mem _ hx)]
    rfl
/-- such data have a shape -/
theorem shaped_of {d : PyData} (h1 : d.canLay0 = true) (h2 : d.depth ≤ 64) : SeqAt.shaped d = true := Bool.and_eq_true_iff.mpr ⟨h1, decide_eq_true h2⟩
def StrOks (zs : List Str) : Prop := ∀ z ∈ zs, PyData.strOk z = true
theorem shaped_strs {zs : List Str} (h : StrOks zs) : SeqAt.shaped (.tuple (zs.map .str)) = true ∧ SeqAt.shaped (.list (zs.map .str)) = true := by
  have l : PyData.canLayAll0 (zs.map .str) = true := lay_all fun d hd => by
    obtain ⟨z, hz, rfl⟩ := List.mem_map.mp hd
    exact h z hz
  have e : PyData.depthAll (zs.map .str) ≤ 0 := dp_all fun d hd => by
    obtain ⟨z, hz, rfl⟩ := List.mem_map.mp hd
    simp only [PyData.depth]
    omega
  refine ⟨shaped_of l ?_, shaped_of l ?_⟩ <;> simp only [PyData.depth] <;> omega
theorem shaped_nats (ns : List Nat) : SeqAt.shaped (.list (ns.map nD)) = true := by
  refine shaped_of (lay_all fun d hd => ?_) ?_
  · obtain ⟨z, hz, rfl⟩ := List.mem_map.mp hd
    rfl
  · have e : PyData.depthAll (ns.map nD) ≤ 0 := dp_all fun d hd => by
      obtain ⟨z, hz, rfl⟩ := List.mem_map.mp hd
      simp only [nD, PyData.depth]
      omega
    simp only [PyData.depth]
    omega
theorem shaped_tups {ts : List (List Str)} (h : ∀ t ∈ ts, StrOks t) : SeqAt.shaped (.tuple (ts.map fun t => .tuple (t.map .str))) = true := by
  refine shaped_of (lay_all fun d hd => ?_) ?_
  · obtain ⟨t, ht, rfl⟩ := List.mem_map.mp hd
    exact (Bool.and_eq_true_iff.mp (shaped_strs (h t ht)).1).1
  · have e : PyData.depthAll (ts.map fun t => .tuple (t.map .str)) ≤ 1 := dp_all fun d hd => by
      obtain ⟨t, ht, rfl⟩ := List.mem_map.mp hd
      have e : PyData.depthAll (t.map .str) ≤ 0 := dp_all fun d hd => by
        obtain ⟨z, hz, rfl⟩ := List.mem_map.mp hd
        simp only [PyData.depth]
        omega
      simp only [PyData.depth]
      omega
    simp only [PyData.depth]
    omega
/-! ### comprehensions -/
/-! in a block K is named -/
def rIsD (K : PySem.W.Frag) : List V → Hp → VK → Prop := fun xs H Q => ∃ (v : V) (d : PyData) (T : String), xs = [v, .ty T] ∧ Dv K H v d ∧ (T = "tuple" ∨ T = "str" ∨ T = "int" ∨ T = "bool") ∧ Q (.bl (isT T d)) H
theorem call_isB {X : Cx} {K : PySem.W.Frag} (hK : X.K = K) : CallR X (.builtin "isinstance") (rIsD K) := by
  subst hK
  exact call_isD
theorem pi_tupB {X : Cx} {K : PySem.W.Frag} {tg l : Expr} {tl : TE} (hK : X.K = K) (hl : PE X l tl) : PI X tg l (iTup K tl) := by
  subst hK
  exact pi_tup hl
theorem pi_listB {X : Cx} {K : PySem.W.Frag} {tg l : Expr} {tl : TE} (hK : X.K = K) (hl : PE X l tl) : PI X tg l (iList K tl) := by
  subst hK
  exact pi_list hl
theorem pe_all {X : Cx} {K : PySem.W.Frag} {e : Expr} {es : List Expr} {t : TA} {p pos : Pos} (hK : X.K = K) (hc : X.calm = true) (hg : Gl X "all") (hm : X.mg "all" = none) (ha : PA X (e :: es) t)
    (he : starEach (e :: es) X.env = (false, eval e X.env) :: starEach es X.env := by rfl) (hpl : (backTo pos (starEach es X.env)).any (·.1) = false := by rfl) : PE X (.Call (.Name "all" p) (e :: es) [] pos) (tCB (rAll K) t) := by
  subst hK
  exact pe_callB (cr_all hc) hg hm (by decide +kernel) ha (by decide) (by decide) he hpl
abbrev noScope : Scope := { kind := .function, names := [], isGenerator := false, isCoroutine := false }
/-- a block in a block that captures nothing -/
theorem blk_in {N : List Str} {sc scope : Scope} {own : List (Str × Nat)} (h : BlkOk N noScope scope own) : BlkOk N sc scope own := ⟨h.kind, h.uniq, h.ix, fun y m e => (by
  rcases h.free y m e with z | z <;> cases z), h.own⟩
theorem len_k {z : Str} (h : z.length ≤ 1000000) : z.length ≤ sizeLine := by
  rw [sizeLine_eq]
  omega
theorem take_more {α : Type} {l : List α} {i : Nat} {a : α} (h : l[i]? = some a) : l.take (i + 1) = l.take i ++ [a] := by
  rw [List.take_add_one, h]
  rfl
/-- a comprehension over a text whose element is a test of the sign -/
theorem lc_signs {s : Nat} {te : TE} {vs : List Nat} {σ : L2.St} {H1 : Hp} {D : Addr} {Qd : Hp → Prop} (z : Str) (f : Nat → Bool) (hw : ∀ v, wipe ((wipe σ vs).set s (some v)) vs = wipe σ vs) (hn : z.length ≤ 10000)
    (he : ∀ (c : Nat) (H : Hp) (Q : VK), Q (.bl (f c)) H → te ((wipe σ vs).set s (some (.str ⟨#[c]⟩))) H Q)
    (hd : Qd (upd H1 D (.lst (((tl z).map f).map V.bl)))) :
    ∃ W : Nat → Nat → Hp → Prop, (∃ m, W 0 m (upd H1 D (.lst []))) ∧ ∀ i m H, W i m H →
      ((Its z).stop i H ∧ Qd H) ∨ ((Its z).go i H ∧ ∃ Nx : Hp → Prop, (∀ H', Nx H' → ∃ m', m' < m ∧ W (i + 1) m' H') ∧ ∀ x H', (Its z).yld i H x H' → gName s x (wipe σ vs) H' fun σ2 H2 => wipe σ2 vs = wipe σ vs ∧ tYes σ2 H2 fun b H3 =>
        if b = true then te σ2 H3 fun y H4 => ∃ acc, H4 D = some (.lst acc) ∧ acc.length < sizeLine ∧ Nx (upd H4 D (.lst (acc ++ [y]))) else Nx H3) := by
  have hz : (tl z).length = z.cps.size := Array.length_toList
  refine lc_it walk_str (fun i H => H = upd H1 D (.lst ((((tl z).take i).map f).map V.bl))) rfl (fun _ _ _ _ => trivial) (fun i v H H' hi p y => ?_) (fun H p => ?_)
  · obtain ⟨rfl, c, hc, rfl⟩ := y
    subst p
    refine ⟨hw _, ?_⟩
    simp only [tYes, ↓reduceIte]
    refine he c _ _ ⟨_, upd_same, ?_, ?_⟩
    · rw [List.length_map, List.length_map, List.length_take]
      have hl : z.cps.size = z.length := rfl
      exact Nat.lt_of_lt_of_le (by omega : _ < 10001) (by rw [sizeLine_eq]; decide)
    · have hc' : (tl z)[i]? = some c := by rw [Array.getElem?_toList]; exact hc
      rw [upd_upd, take_more hc', List.map_append, List.map_append]
      rfl
  · rw [p, ← hz, List.take_length]
    exact hd
theorem all_id (l : List Nat) (f : Nat → Bool) : (l.map f).all id = l.all f := by
  rw [List.all_map]
  rfl
/-- a comprehension whose i-th element is told by R -/
theorem lc_each {J : It} {G : Hp → Prop} {xs : List V} (w : Walk J xs.length G (YAt xs)) {s : Nat} {te : TE} {vs : List Nat} {σ : L2.St} {H1 : Hp} {D : Addr} {Qd : Hp → Prop} (R : Nat → V → Hp → Prop)
    (hw : ∀ v, wipe ((wipe σ vs).set s (some v)) vs = wipe σ vs) (hn : xs.length ≤ 10000) (hD : H1 D = none) (hG : ∀ H, Same H1 H → G H)
    (mono : ∀ i v H H', i < xs.length → (∃ ys, H D = some (.lst ys)) → But D H H' → R i v H → R i v H')
    (he : ∀ (i : Nat) (v : V) (H : Hp) (Q : VK), xs[i]? = some v → Same H1 H → (∃ ys, H D = some (.lst ys)) → (∀ y H', Same H H' → R i y H' → Q y H') → te ((wipe σ vs).set s (some v)) H Q)
    (hd : ∀ ys H, ys.length = xs.length → (∀ i y, ys[i]? = some y → R i y H) → H D = some (.lst ys) → Same H1 H → Qd H) :
    ∃ W : Nat → Nat → Hp → Prop, (∃ m, W 0 m (upd H1 D (.lst []))) ∧ ∀ i m H, W i m H →
      (J.stop i H ∧ Qd H) ∨ (J.go i H ∧ ∃ Nx : Hp → Prop, (∀ H', Nx H' → ∃ m', m' < m ∧ W (i + 1) m' H') ∧ ∀ x H', J.yld i H x H' → gName s x (wipe σ vs) H' fun σ2 H2 => wipe σ2 vs = wipe σ vs ∧ tYes σ2 H2 fun b H3 =>
        if b = true then te σ2 H3 fun y H4 => ∃ acc, H4 D = some (.lst acc) ∧ acc.length < sizeLine ∧ Nx (upd H4 D (.lst (acc ++ [y]))) else Nx H3) := by
  refine lc_it w (fun i H => ∃ ys, H D = some (.lst ys) ∧ ys.length = i ∧ (∀ j y, ys[j]? = some y → R j y H) ∧ Same H1 H) ⟨[], upd_same, rfl, fun j y e => (by cases e), same_new hD _⟩ (fun i H hi p => ?_) (fun i v H H' hi p y => ?_) (fun H p => ?_)
  · obtain ⟨_, _, _, _, p⟩ := p
    exact hG H p
  · obtain ⟨rfl, hv⟩ := y
    obtain ⟨ys, f1, f2, f3, f4⟩ := p
    refine ⟨hw _, ?_⟩
    simp only [tYes, ↓reduceIte]
    refine he i v _ _ hv f4 ⟨ys, f1⟩ fun y H2 s2 r2 => ?_
    have f1' := s2 _ _ f1
    have b2 : But D H2 (upd H2 D (.lst (ys ++ [y]))) := But.upd
    refine ⟨ys, f1', ?_, ys ++ [y], upd_same, by rw [List.length_append, f2]; rfl, fun j z e => ?_, fun b o h => ?_⟩
    · rw [f2]
      exact Nat.lt_of_lt_of_le (by omega : i < 10001) (by rw [sizeLine_eq]; decide)
    · by_cases hj : j < ys.length
      · rw [List.getElem?_append_left hj] at e
        refine mono j z _ _ (by omega) ⟨_, f1'⟩ b2 (mono j z _ _ (by omega) ⟨_, f1⟩ (But.of_same s2) (f3 j z e))
      · have hj' : j = ys.length := by
          have := (List.getElem?_eq_some_iff.mp e).1
          rw [List.length_append, List.length_singleton] at this
          omega
        rw [hj', List.getElem?_append_right (Nat.le_refl _), Nat.sub_self] at e
        have ez : y = z := by injection e
        subst ez
        rw [hj', f2]
        exact mono i y _ _ hi ⟨_, f1'⟩ b2 r2
    · rw [upd_ne (ne_of_none h hD)]
      exact s2 _ _ (f4 b o h)
  · obtain ⟨ys, f1, f2, f3, f4⟩ := p
    exact hd ys H f2 f3 f1 f4
/-- .. by f -/
theorem lc_fn {J : It} {G : Hp → Prop} {xs : List V} (w : Walk J xs.length G (YAt xs)) {s : Nat} {te : TE} {vs : List Nat} {σ : L2.St} {H1 : Hp} {D : Addr} {Qd : Hp → Prop} (f : Nat → V)
    (hw : ∀ v, wipe ((wipe σ vs).set s (some v)) vs = wipe σ vs) (hn : xs.length ≤ 10000) (hD : H1 D = none) (hG : ∀ H, Same H1 H → G H)
    (he : ∀ (i : Nat) (v : V) (H : Hp) (Q : VK), xs[i]? = some v → Same H1 H → (∀ H', Same H H' → Q (f i) H') → te ((wipe σ vs).set s (some v)) H Q)
    (hd : ∀ H, H D = some (.lst ((List.range xs.length).map f)) → Same H1 H → Qd H) :
    ∃ W : Nat → Nat → Hp → Prop, (∃ m, W 0 m (upd H1 D (.lst []))) ∧ ∀ i m H, W i m H →
      (J.stop i H ∧ Qd H) ∨ (J.go i H ∧ ∃ Nx : Hp → Prop, (∀ H', Nx H' → ∃ m', m' < m ∧ W (i + 1) m' H') ∧ ∀ x H', J.yld i H x H' → gName s x (wipe σ vs) H' fun σ2 H2 => wipe σ2 vs = wipe σ vs ∧ tYes σ2 H2 fun b H3 =>
        if b = true then te σ2 H3 fun y H4 => ∃ acc, H4 D = some (.lst acc) ∧ acc.length < sizeLine ∧ Nx (upd H4 D (.lst (acc ++ [y]))) else Nx H3) := by
  refine lc_each w (fun i v _ => v = f i) hw hn hD hG (fun _ _ _ _ _ _ _ h => h) (fun i v H Q hv s _ k => he i v H Q hv s fun H' s' => k _ _ s' rfl) fun ys H e r hl s => hd H ?_ s
  rw [hl]
  congr 2
  refine List.ext_getElem? fun j => ?_
  by_cases hj : j < ys.length
  · have h1 := List.getElem?_eq_getElem hj
    rw [h1, r j _ h1, List.getElem?_map, List.getElem?_range (by omega)]
    rfl
  · rw [List.getElem?_eq_none (by omega), List.getElem?_eq_none (by rw [List.length_map, List.length_range]; omega)]
theorem range_map {α β : Type} {l : List α} {f : Nat → β} {g : α → β} (h : ∀ i a, l[i]? = some a → f i = g a) : (List.range l.length).map f = l.map g := by
  refine List.ext_getElem? fun j => ?_
  by_cases hj : j < l.length
  · rw [List.getElem?_map, List.getElem?_map, List.getElem?_range hj, List.getElem?_eq_getElem hj]
    exact congrArg some (h j _ (List.getElem?_eq_getElem hj))
  · rw [List.getElem?_eq_none (by rw [List.length_map, List.length_range]; omega), List.getElem?_eq_none (by rw [List.length_map]; omega)]
end Fk
set_option Elab.async false
set_option linter.all false
set_option maxRecDepth 100000
set_option maxHeartbeats 2000000
namespace Fk
open PySem L2
/-! ### what has the form of traces -/
def wordOk : PyData → Bool
  | .str z => decide (z = "below") || decide (z = "above") || (decide (z.length = 1) && ofL z)
  | _ => false
def traceOk : PyData → Bool
  | .tuple ws => ws.all wordOk
  | _ => false
def formOk : PyData → Bool
  | .tuple ts => decide (2 ≤ ts.length) && ts.all traceOk
  | _ => false
abbrev s_is_of_letters : Stmt := top 2
abbrev sc_is_of_lettersN : List Str := ["word", "sign"]
theorem sc_is_of_letters : FnScope sc_is_of_lettersN ["word"] (defScope s_is_of_letters) := ⟨rfl, rfl, rfl, by decide +kernel, rfl, by decide +kernel, by decide +kernel⟩
abbrev s_is_letter : Stmt := top 4
abbrev sc_is_letterN : List Str := ["word"]
theorem sc_is_letter : FnScope sc_is_letterN ["word"] (defScope s_is_letter) := ⟨rfl, rfl, rfl, by decide +kernel, rfl, by decide +kernel, by decide +kernel⟩
abbrev s_are_traces : Stmt := top 7
abbrev sc_are_tracesN : List Str := ["value", "trace", "word"]
theorem sc_are_traces : FnScope sc_are_tracesN ["value"] (defScope s_are_traces) := ⟨rfl, rfl, rfl, by decide +kernel, rfl, by decide +kernel, by decide +kernel⟩
abbrev s_is_trace_word : Stmt := top 8
abbrev sc_is_trace_wordN : List Str := ["word"]
theorem sc_is_trace_word : FnScope sc_is_trace_wordN ["word"] (defScope s_is_trace_word) := ⟨rfl, rfl, rfl, by decide +kernel, rfl, by decide +kernel, by decide +kernel⟩
def spLets (K : PySem.W.Frag) : Sp := fun vs H Q _ => ∃ z : Str, vs = [.str z] ∧ z.length ≤ 10000 ∧ ∀ H', Same H H' → Q (.bl (ofL z)) H'
def isLt (z : Str) : Bool := !(decide (z = "below") || decide (z = "above"))
def spLetter (K : PySem.W.Frag) : Sp := fun vs H Q _ => ∃ z : Str, vs = [.str z] ∧ ∀ H', Same H H' → Q (.bl (isLt z)) H'
def spTest (K : PySem.W.Frag) (f : PyData → Bool) : Sp := fun vs H Q _ => ∃ (v : V) (d : PyData), vs = [v] ∧ Dv K H v d ∧ ∀ H', Same H H' → Q (.bl (f d)) H'
theorem inV_two (z a b : Str) : inV (.str z) [.str a, .str b] = (decide (z = a) || decide (z = b)) := by
  show (((a == z) || ((b == z) || false))) = _
  rw [Bool.or_false]
  have e : ∀ x y : Str, (x == y) = decide (y = x) := fun x y => by
    by_cases e : y = x
    · rw [decide_eq_true e, e]
      exact beq_self_eq_true _
    · rw [decide_eq_false e]
      exact beq_eq_false_iff_ne.mpr fun z => e z.symm
  rw [e, e]
section
variable {P : Program} {w : World} {K : PySem.W.Frag} {mg : Str → Option Value} {base : Heap}
theorem ok_lets {f : Addr} {fd : FuncData} (F : Fun K "is_of_letters" "is_of_letters" s_is_of_letters f fd) (C : Con K mg) : FnOk P w K mg base CX0 1 f fd ["word"] (spLets K) := by
  refine F.ok sc_is_of_letters (fun vs H Q E h => ?_) (fun cdv A outer s H vs Q E hr h => ?_)
  · obtain ⟨z, rfl, _⟩ := h
    rfl
  obtain ⟨z, rfl, hz, q⟩ := h
  obtain ⟨t1, hal⟩ := C.alpha
  refine ⟨_, (pss_one (ps_ret (pe_all (K := K) rfl rfl (by rfl) C.all (pa_cons (pe_lc (own := [("sign", 1)]) (g := gName 1) rfl sc_is_of_letters.nd (pi_str (pv 0)) (blkOk_by (N := sc_is_of_lettersN) (sc := defScope s_is_of_letters) (by decide +kernel)) (fun _ _ _ _ _ => pg_name (i := 1) sc_is_of_letters.nd rfl (Or.inl rfl)) (fun _ _ _ _ _ => pts_nil) (fun _ _ _ _ _ => (pe_cmpR op_in_sign (pv 1) (pe_glob (v := .str alpha) (by rfl) hal ⟨_, rfl⟩) (by rfl)))) pa_nil)))), ?_⟩
  refine ⟨.str z, rfl, z, rfl, fun A hA => lc_signs z (fun c => decide (c ∈ tl alpha)) (fun _ => rfl) hz (fun c H' Q' k => ?_) ?_⟩
  · exact ⟨_, rfl, c, alpha, rfl, rfl, k⟩
  · refine ⟨A, _, rfl, .inl (.inl upd_same), ?_⟩
    rw [all_id]
    exact q _ (same_new hA _)
theorem ok_letter {f : Addr} {fd : FuncData} (F : Fun K "is_letter" "is_letter" s_is_letter f fd) : FnOk P w K mg base CX0 1 f fd ["word"] (spLetter K) := by
  refine F.ok sc_is_letter (fun vs H Q E h => ?_) (fun cdv A outer s H vs Q E hr h => ?_)
  · obtain ⟨z, rfl, _⟩ := h
    rfl
  obtain ⟨z, rfl, q⟩ := h
  refine ⟨_, (pss_one (ps_ret (pe_cmpR op_notIn_seq (pv 0) (pe_tup (pa_cons pe_str (pa_cons pe_str pa_nil))) (by rfl)))), ?_⟩
  refine ⟨.str z, rfl, small (by show 2 ≤ 1000; decide), fun r hr => ⟨r, _, rfl, .inr (.inl (.inl upd_same)), rfl, rfl, ?_⟩⟩
  have z' := q _ (same_new hr (.tup [.str "below", .str "above"]))
  unfold isLt at z'
  rw [← inV_two] at z'
  exact z'
theorem ok_word {f : Addr} {fd : FuncData} (F : Fun K "is_trace_word" "is_trace_word" s_is_trace_word f fd) (T : Bare mg) (C : Con K mg) (CL : Callee P w K mg base 1 "is_letter" ["word"] (spLetter K)) (CO : Callee P w K mg base 1 "is_of_letters" ["word"] (spLets K)) :
    FnOk P w K mg base CX0 2 f fd ["word"] (spTest K wordOk) := by
  refine F.ok sc_is_trace_word (fun vs H Q E h => ?_) (fun cdv A outer s H vs Q E hr h => ?_)
  · obtain ⟨v, d, rfl, _⟩ := h
    rfl
  obtain ⟨v, d, rfl, hd, q⟩ := h
  refine ⟨_, (pss_cons (ps_if (pt_not (pt_val (pe_callB call_isD (by rfl) C.isi boot_isi (pa_cons (pv 0) (pa_cons (pe_bltn (v := .ty "str") (u := .type "str") (by rfl) T.str (by decide +kernel) rfl) pa_nil)))))
(pss_one (ps_ret pe_bl))
pss_nil)
(pss_one (ps_ret (pe_or (pe_not (pe_call CL.ok hr rfl CL.mg CL.kp CL.b .nil pass0 (pa_cons (pv 0) pa_nil))) (pe_one (pe_and (pe_cmpR op_eq (pe_callB call_len (by rfl) T.len PySem.boot_len (pa_cons (pv 0) pa_nil)) pe_int (nomark _)) (pe_one (pe_call CO.ok hr rfl CO.mg CO.kp CO.b .nil pass0 (pa_cons (pv 0) pa_nil))))))))), ?_⟩
  refine ⟨v, rfl, v, d, "str", rfl, hd, .inr (.inl rfl), _, rfl, ?_⟩
  by_cases hs : isT "str" d = true
  rotate_left
  · rw [Bool.eq_false_iff.mpr hs]
    refine iteT ?_
    have e : wordOk d = false := by
      cases d with
      | str z => exact absurd ((isT_str _).mpr ⟨z, rfl⟩) hs
      | _ => rfl
    have z := q H (fun _ _ e => e)
    rw [e] at z
    exact z
  obtain ⟨z, rfl⟩ := (isT_str d).mp hs
  rw [hs]
  refine iteF ?_
  cases hd with
  | str _ hz =>
  have val : ∀ (c : Bool) H', Same H H' → wordOk (.str z) = c → Q (.bl c) H' := fun c H' s e => by
    rw [← e]
    exact q H' s
  refine ⟨.str z, rfl, z, rfl, fun H1 s1 => ⟨_, rfl, _, rfl, ?_⟩⟩
  refine ite2 (fun h => ?_) (fun h => ?_)
  · have h' : (decide (z = "below") || decide (z = "above")) = true := by
      unfold isLt at h
      rwa [Bool.not_not] at h
    exact val _ H1 s1 (by
      show (_ || _) = _
      rw [h', Bool.true_or])
  · have h' : (decide (z = "below") || decide (z = "above")) = false := by
      unfold isLt at h
      rw [Bool.not_not] at h
      exact Bool.eq_false_iff.mpr h
    have w0 : wordOk (.str z) = (decide (z.length = 1) && ofL z) := by
      show (_ || _) = _
      rw [h', Bool.false_or]
    refine ⟨.str z, rfl, .str z, z.length, rfl, ⟨len_k hz, rfl⟩, rfl, _, rfl, ?_⟩
    refine ite2 (fun g => ?_) (fun g => ?_)
    · have g1 : z.length = 1 := by
        have := of_decide_eq_true g
        injection this with this
        omega
      refine ⟨.str z, rfl, z, rfl, by omega, fun H2 s2 => ?_⟩
      exact val _ H2 (Same.trans s1 s2) (by rw [w0, decide_eq_true g1, Bool.true_and])
    · have g1 : ¬ z.length = 1 := fun e => g (decide_eq_true (by rw [e]; rfl))
      refine val _ H1 s1 ?_
      rw [w0, decide_eq_false g1, Bool.false_and]
/-- data of so many items, each of so many -/
def Wd10 (d : PyData) : Prop := ∀ ts, d = .tuple ts → ts.length ≤ 10000 ∧ ∀ ws, .tuple ws ∈ ts → ws.length ≤ 10000
def spTestW (K : PySem.W.Frag) (f : PyData → Bool) : Sp := fun vs H Q _ => ∃ (v : V) (d : PyData), vs = [v] ∧ Dv K H v d ∧ Wd10 d ∧ ∀ H', Same H H' → Q (.bl (f d)) H'
theorem ok_are {f : Addr} {fd : FuncData} (F : Fun K "are_traces" "are_traces" s_are_traces f fd) (T : Bare mg) (C : Con K mg) (CW : Callee P w K mg base 2 "is_trace_word" ["word"] (spTest K wordOk)) :
    FnOk P w K mg base CX0 3 f fd ["value"] (spTestW K formOk) := by
  refine F.ok sc_are_traces (fun vs H Q E h => ?_) (fun cdv A outer s H vs Q E hr h => ?_)
  · obtain ⟨v, d, rfl, _⟩ := h
    rfl
  obtain ⟨v, d, rfl, hd, hw, q⟩ := h
  refine ⟨_, (pss_cons (ps_if (PW.pt (pw_or (pt_not (pt_val (pe_callB call_isD (by rfl) C.isi boot_isi (pa_cons (pv 0) (pa_cons (pe_bltn (v := .ty "tuple") (u := .type "tuple") (by rfl) T.tuple (by decide +kernel) rfl) pa_nil))))) (pw_or1 (pt_cmpR op_lt (pe_callB call_len_seq (by rfl) T.len PySem.boot_len (pa_cons (pv 0) pa_nil)) pe_int (nomark _)))))
(pss_one (ps_ret pe_bl))
pss_nil)
(pss_one (ps_ret (pe_all (K := K) rfl rfl (by rfl) C.all (pa_cons (pe_lc (own := [("trace", 1)]) (g := gName 1) rfl sc_are_traces.nd (pi_tup (pv 0)) (blkOk_by (N := sc_are_tracesN) (sc := defScope s_are_traces) (by decide +kernel)) (fun _ _ _ _ _ => pg_name (i := 1) sc_are_traces.nd rfl (Or.inl rfl)) (fun _ _ _ _ _ => pts_nil) (fun _ _ _ _ _ => (pe_and (pe_callB (call_isB (K := K) rfl) (by rfl) C.isi boot_isi (pa_cons (pv 1) (pa_cons (pe_bltn (v := .ty "tuple") (u := .type "tuple") (by rfl) T.tuple (by decide +kernel) rfl) pa_nil))) (pe_one (pe_all (K := K) rfl rfl (by rfl) C.all (pa_cons (pe_lc (own := [("word", 2)]) (g := gName 2) rfl sc_are_traces.nd (pi_tupB (K := K) rfl (pv 1)) (blk_in (blkOk_by (N := sc_are_tracesN) (sc := noScope) (by decide +kernel))) (fun _ _ _ _ _ => pg_name (i := 2) sc_are_traces.nd rfl (Or.inl rfl)) (fun _ _ _ _ _ => pts_nil) (fun _ _ _ _ _ => (pe_call CW.ok (hr.mono (by decide)) rfl CW.mg CW.kp CW.b .nil pass0 (pa_cons (pv 2) pa_nil)))) pa_nil)))))) pa_nil))))), ?_⟩
  have val : ∀ (c : Bool) H', Same H H' → formOk d = c → Q (.bl c) H' := fun c H' s e => by
    rw [← e]
    exact q H' s
  refine ⟨v, rfl, v, d, "tuple", rfl, hd, .inl rfl, _, rfl, ?_⟩
  by_cases hs : isT "tuple" d = true
  rotate_left
  · rw [Bool.eq_false_iff.mpr hs]
    refine iteT ?_
    refine val false H (fun _ _ e => e) ?_
    cases d with
    | tuple ts => exact absurd ((isT_tuple _).mpr ⟨ts, rfl⟩) hs
    | _ => rfl
  obtain ⟨ts, rfl⟩ := (isT_tuple d).mp hs
  rw [hs]
  refine iteF ?_
  obtain ⟨hw1, hw2⟩ := hw ts rfl
  cases hd with
  | @tup a xs _ hq hall =>
  have hl := hall.len
  refine ⟨.ref a, rfl, a, xs, rfl, .inr hq, _, _, rfl, rfl, _, rfl, ?_⟩
  refine ite2 (fun h => ?_) (fun h => ?_)
  · have h := of_decide_eq_true h
    refine val false H (fun _ _ e => e) ?_
    show (decide _ && _) = _
    rw [decide_eq_false (by omega), Bool.false_and]
  have h : ¬ ((xs.length : Int) < 2) := fun e => h (decide_eq_true e)
  have f0 : formOk (.tuple ts) = ts.all traceOk := by
    show (decide _ && _) = _
    rw [decide_eq_true (by omega), Bool.true_and]
  refine ⟨.ref a, rfl, a, rfl, ⟨_, hq⟩, fun D hD => lc_fn (walk_tup (xs := xs)) (fun i => .bl (traceOk (ts.getD i .none))) (fun _ => rfl) (by omega) hD (fun H' s => same_sqT s hq) (fun i u H1 Q' hu s1 k => ?_) (fun H1 hD1 s1 => ?_)⟩
  · obtain ⟨t, ht, hdt⟩ := hall.get hu
    have hdt := hdt.same s1
    have et : ts.getD i .none = t := by rw [List.getD_eq_getElem?_getD, ht]; rfl
    rw [et] at k
    have k2 : ∀ (c : Bool) H', Same H1 H' → traceOk t = c → Q' (.bl c) H' := fun c H' s e => by
      rw [← e]
      exact k H' s
    refine ⟨u, rfl, u, t, "tuple", rfl, hdt, .inl rfl, _, rfl, ?_⟩
    by_cases hs2 : isT "tuple" t = true
    rotate_left
    · rw [Bool.eq_false_iff.mpr hs2]
      refine iteF ?_
      refine k2 false H1 (fun _ _ e => e) ?_
      cases t with
      | tuple ts => exact absurd ((isT_tuple _).mpr ⟨ts, rfl⟩) hs2
      | _ => rfl
    obtain ⟨ws, rfl⟩ := (isT_tuple t).mp hs2
    rw [hs2]
    refine iteT ?_
    have hw3 := hw2 ws (List.mem_of_getElem? ht)
    cases hdt with
    | @tup b ys _ hq2 hall2 =>
    have hl2 := hall2.len
    refine ⟨.ref b, rfl, b, rfl, ⟨_, hq2⟩, fun D2 hD2 => lc_fn (walk_tup (xs := ys)) (fun i => .bl (wordOk (ws.getD i .none))) (fun _ => rfl) (by omega) hD2 (fun H' s => same_sqT s hq2) (fun j u2 H2 Q2 hu2 s2 k3 => ?_) (fun H2 hD3 s2 => ?_)⟩
    · obtain ⟨x, hx, hdx⟩ := hall2.get hu2
      have ex : ws.getD j .none = x := by rw [List.getD_eq_getElem?_getD, hx]; rfl
      rw [ex] at k3
      exact ⟨u2, rfl, u2, x, rfl, hdx.same s2, k3⟩
    · have e2 : (List.range ys.length).map (fun i => V.bl (wordOk (ws.getD i .none))) = (ws.map wordOk).map V.bl := by
        rw [hl2, List.map_map]
        exact range_map fun i x hx => by
          rw [List.getD_eq_getElem?_getD, hx]
          rfl
      rw [e2] at hD3
      refine ⟨D2, _, rfl, .inl (.inl hD3), ?_⟩
      refine k2 _ H2 s2 ?_
      show ws.all wordOk = _
      rw [List.all_map]
      rfl
  · have e2 : (List.range xs.length).map (fun i => V.bl (traceOk (ts.getD i .none))) = (ts.map traceOk).map V.bl := by
      rw [hl, List.map_map]
      exact range_map fun i x hx => by
        rw [List.getD_eq_getElem?_getD, hx]
        rfl
    rw [e2] at hD1
    refine ⟨D, _, rfl, .inl (.inl hD1), ?_⟩
    refine val _ H1 s1 ?_
    rw [f0, List.all_map]
    rfl
end
end Fk
set_option Elab.async false
set_option linter.all false
set_option maxRecDepth 100000
set_option maxHeartbeats 2000000
namespace Fk
open PySem L2
/-! ### the law's own form -/
abbrev s__law_is_form : Stmt := top 17
abbrev sc__law_is_formN : List Str := ["_law_value", "_law_trace_here", "_law_word"]
theorem sc__law_is_form : FnScope sc__law_is_formN ["_law_value"] (defScope s__law_is_form) := ⟨rfl, rfl, rfl, by decide +kernel, rfl, by decide +kernel, by decide +kernel⟩
theorem one_sign {z : Str} (h : z.length = 1) : ∃ c, tl z = [c] := by
  have e : (tl z).length = 1 := by
    show z.cps.toList.length = 1
    rw [Array.length_toList]
    exact h
  match hz : tl z, e with
  | [c], _ => exact ⟨c, rfl⟩
theorem letter_sign {z : Str} {c : Nat} (h : tl z = [c]) : ofL z = (decide (97 ≤ c) && decide (c ≤ 122)) := by
  have e : tl alpha = List.range' 97 26 := by decide +kernel
  unfold ofL
  rw [h, e]
  show (decide (c ∈ List.range' 97 26) && true) = _
  rw [Bool.and_true, ← Bool.decide_and]
  refine decide_eq_decide.mpr ?_
  rw [List.mem_range'_1]
  omega
theorem le_sign {c d : Nat} : (!decide ([c] < [d])) = decide (d ≤ c) := by
  rw [← decide_not]
  refine decide_eq_decide.mpr ?_
  rw [List.cons_lt_cons_iff]
  have : ¬ (([] : List Nat) < []) := by simp
  constructor
  · intro h
    exact Nat.not_lt.mp fun e => h (.inl e)
  · intro h e
    rcases e with e | e
    · omega
    · exact this e.2
theorem five2 : ("below" : Str).length = 5 ∧ ("above" : Str).length = 5 := by decide +kernel
section
variable {P : Program} {w : World} {K : PySem.W.Frag} {mg : Str → Option Value} {base : Heap}
theorem ok_form {f : Addr} {fd : FuncData} (F : Fun K "_law_is_form" "_law_is_form" s__law_is_form f fd) (T : Bare mg) (C : Con K mg) : FnOk P w K mg base CX0 1 f fd ["_law_value"] (spTestW K formOk) := by
  refine F.ok sc__law_is_form (fun vs H Q E h => ?_) (fun cdv A outer s H vs Q E hr h => ?_)
  · obtain ⟨v, d, rfl, _⟩ := h
    rfl
  obtain ⟨v, d, rfl, hd, hw, q⟩ := h
  refine ⟨_, (pss_cons (ps_if (PW.pt (pw_or (pt_not (pt_val (pe_callB call_isD (by rfl) C.isi boot_isi (pa_cons (pv 0) (pa_cons (pe_bltn (v := .ty "tuple") (u := .type "tuple") (by rfl) T.tuple (by decide +kernel) rfl) pa_nil))))) (pw_or (pt_cmpR op_lt (pe_callB call_len_seq (by rfl) T.len PySem.boot_len (pa_cons (pv 0) pa_nil)) pe_int (nomark _)) (pw_or1 (pt_not (pt_val (pe_all (K := K) rfl rfl (by rfl) C.all (pa_cons (pe_lc (own := [("_law_trace_here", 1)]) (g := gName 1) rfl sc__law_is_form.nd (pi_tup (pv 0)) (blkOk_by (N := sc__law_is_formN) (sc := defScope s__law_is_form) (by decide +kernel)) (fun _ _ _ _ _ => pg_name (i := 1) sc__law_is_form.nd rfl (Or.inl rfl)) (fun _ _ _ _ _ => pts_nil) (fun _ _ _ _ _ => (pe_callB (call_isB (K := K) rfl) (by rfl) C.isi boot_isi (pa_cons (pv 1) (pa_cons (pe_bltn (v := .ty "tuple") (u := .type "tuple") (by rfl) T.tuple (by decide +kernel) rfl) pa_nil))))) pa_nil))))))))
(pss_one (ps_ret pe_bl))
pss_nil)
(pss_cons (ps_for PassesOwn.never rfl (pi_tup (pv 0)) (pg_name (i := 1) sc__law_is_form.nd rfl (Or.inl rfl))
(pss_one (ps_for PassesOwn.never rfl (pi_tup (pv 1)) (pg_name (i := 2) sc__law_is_form.nd rfl (Or.inl rfl))
(pss_cons (ps_if (PW.pt (pw_or (pt_not (pt_val (pe_callB call_isD (by rfl) C.isi boot_isi (pa_cons (pv 2) (pa_cons (pe_bltn (v := .ty "str") (u := .type "str") (by rfl) T.str (by decide +kernel) rfl) pa_nil))))) (pw_or1 (PW.pt (pw_and (pt_cmpR op_notIn_seq (pv 2) (pe_tup (pa_cons pe_str (pa_cons pe_str pa_nil))) (by rfl)) (pw_and1 (pt_cmpR op_ne (pe_callB call_len (by rfl) T.len PySem.boot_len (pa_cons (pv 2) pa_nil)) pe_int (nomark _))))))))
(pss_one (ps_ret pe_bl))
pss_nil)
(pss_one (ps_if (PW.pt (pw_and (pt_cmpR op_eq (pe_callB call_len (by rfl) T.len PySem.boot_len (pa_cons (pv 2) pa_nil)) pe_int (nomark _)) (pw_and1 (pt_not (pt_chain op_le_str op_le_str pe_str (pv 2) pe_str)))))
(pss_one (ps_ret pe_bl))
pss_nil))))))
(pss_one (ps_ret pe_bl)))), ?_⟩
  have val : ∀ (c : Bool) H', Same H H' → formOk d = c → Q (.bl c) H' := fun c H' s e => by
    rw [← e]
    exact q H' s
  refine ⟨v, rfl, v, d, "tuple", rfl, hd, .inl rfl, _, rfl, ?_⟩
  by_cases hs : isT "tuple" d = true
  rotate_left
  · rw [Bool.eq_false_iff.mpr hs]
    refine iteT ?_
    refine val false H (fun _ _ e => e) ?_
    cases d with
    | tuple ts => exact absurd ((isT_tuple _).mpr ⟨ts, rfl⟩) hs
    | _ => rfl
  obtain ⟨ts, rfl⟩ := (isT_tuple d).mp hs
  rw [hs]
  refine iteF ?_
  obtain ⟨hw1, hw2⟩ := hw ts rfl
  cases hd with
  | @tup a xs _ hq hall =>
  have hl := hall.len
  refine ⟨.ref a, rfl, a, xs, rfl, .inr hq, _, _, rfl, rfl, _, rfl, ?_⟩
  refine ite2 (fun h => ?_) (fun h => ?_)
  · have h := of_decide_eq_true h
    refine val false H (fun _ _ e => e) ?_
    show (decide _ && _) = _
    rw [decide_eq_false (by omega), Bool.false_and]
  have h : ¬ ((xs.length : Int) < 2) := fun e => h (decide_eq_true e)
  have f0 : formOk (.tuple ts) = ts.all traceOk := by
    show (decide _ && _) = _
    rw [decide_eq_true (by omega), Bool.true_and]
  have bad : ∀ {x : PyData}, x ∈ ts → traceOk x = false → formOk (.tuple ts) = false := fun {x} hx e => by
    rw [f0]
    refine Bool.eq_false_iff.mpr fun z => ?_
    rw [List.all_eq_true.mp z x hx] at e
    cases e
  refine ⟨.ref a, rfl, a, rfl, ⟨_, hq⟩, fun D hD => lc_fn (walk_tup (xs := xs)) (fun i => .bl (isT "tuple" (ts.getD i .none))) (fun _ => rfl) (by omega) hD (fun H' s => same_sqT s hq) (fun i u H1 Q' hu s1 k => ?_) (fun H1 hD1 s1 => ?_)⟩
  · obtain ⟨t, ht, hdt⟩ := hall.get hu
    have et : ts.getD i .none = t := by rw [List.getD_eq_getElem?_getD, ht]; rfl
    rw [et] at k
    exact ⟨u, rfl, u, t, "tuple", rfl, hdt.same s1, .inl rfl, k H1 (fun _ _ e => e)⟩
  have e2 : (List.range xs.length).map (fun i => V.bl (isT "tuple" (ts.getD i .none))) = (ts.map (isT "tuple")).map V.bl := by
    rw [hl, List.map_map]
    exact range_map fun i x hx => by
      rw [List.getD_eq_getElem?_getD, hx]
      rfl
  rw [e2] at hD1
  refine ⟨D, _, rfl, .inl (.inl hD1), _, rfl, ?_⟩
  rw [List.all_map]
  by_cases ha : ts.all (id ∘ isT "tuple") = true
  rotate_left
  · rw [Bool.eq_false_iff.mpr ha]
    refine iteT ?_
    refine val false H1 s1 ?_
    rw [f0]
    refine Bool.eq_false_iff.mpr fun z => ha ?_
    refine List.all_eq_true.mpr fun x hx => ?_
    have := List.all_eq_true.mp z x hx
    cases x with
    | tuple ws => exact (isT_tuple _).mpr ⟨ws, rfl⟩
    | _ => cases this
  rw [ha]
  refine iteF ?_
  have hall1 := hall.same s1
  refine ⟨.ref a, rfl, a, rfl, ⟨_, same_sqT s1 hq⟩, for_it (walk_tup (xs := xs)) (fun i σ H' => ∃ (x1 x2 : Option V), σ = [some (.ref a), x1, x2] ∧ Same H H' ∧ ∀ j x, j < i → ts[j]? = some x → traceOk x = true) ?_ ?_ ?_ ?_⟩
  · exact ⟨none, none, rfl, s1, fun j x h => absurd h (Nat.not_lt_zero j)⟩
  · rintro i σ H' hi ⟨_, _, _, s, _⟩
    exact same_sqT s hq
  · rintro i u σ Hx H2 hi ⟨x1, x2, rfl, s2, inv⟩ y
    obtain ⟨rfl, hu⟩ := y
    obtain ⟨t, ht, hdt⟩ := hall.get hu
    have htm := List.mem_of_getElem? ht
    obtain ⟨ws, rfl⟩ := (isT_tuple t).mp (List.all_eq_true.mp ha t htm)
    have hdt := hdt.same s2
    cases hdt with
    | @tup b ys _ hq2 hall2 =>
    have hl2 := hall2.len
    refine ⟨.ref b, rfl, b, rfl, ⟨_, hq2⟩, for_it (walk_tup (xs := ys)) (fun j σ H' => ∃ (x2 : Option V), σ = [some (.ref a), some (.ref b), x2] ∧ Same H2 H' ∧ ∀ k x, k < j → ws[k]? = some x → wordOk x = true) ?_ ?_ ?_ ?_⟩
    · exact ⟨x2, rfl, fun _ _ e => e, fun j x h => absurd h (Nat.not_lt_zero j)⟩
    · rintro j σ H' hj ⟨_, _, s, _⟩
      exact same_sqT s hq2
    · rintro j u2 σ Hy H3 hj ⟨x2, rfl, s3, inv2⟩ y
      obtain ⟨rfl, hu2⟩ := y
      obtain ⟨x, hx, hdx⟩ := hall2.get hu2
      have hdx := hdx.same s3
      have hxm := List.mem_of_getElem? hx
      have no : ∀ {H'}, Same H3 H' → wordOk x = false → Q (.bl false) H' := fun {H'} s e => val false H' (Same.trans s2 (Same.trans s3 s)) (bad htm (by
        show ws.all wordOk = false
        refine Bool.eq_false_iff.mpr fun z => ?_
        rw [List.all_eq_true.mp z x hxm] at e
        cases e))
      have yes : ∀ {H'}, Same H3 H' → wordOk x = true → ∃ (x2 : Option V), [some (V.ref a), some (V.ref b), some u2] = [some (.ref a), some (.ref b), x2] ∧ Same H2 H' ∧ ∀ k x, k < j + 1 → ws[k]? = some x → wordOk x = true := fun {H'} s e => ⟨_, rfl, Same.trans s3 s, fun k x' hk hx' => by
        by_cases hkj : k < j
        · exact inv2 k x' hkj hx'
        · have : k = j := by omega
          rw [this, hx] at hx'
          cases hx'
          exact e⟩
      refine ⟨u2, rfl, u2, x, "str", rfl, hdx, .inr (.inl rfl), _, rfl, ?_⟩
      by_cases hs2 : isT "str" x = true
      rotate_left
      · rw [Bool.eq_false_iff.mpr hs2]
        refine iteT ?_
        refine no (fun _ _ e => e) ?_
        cases x with
        | str z => exact absurd ((isT_str _).mpr ⟨z, rfl⟩) hs2
        | _ => rfl
      obtain ⟨z, rfl⟩ := (isT_str x).mp hs2
      rw [hs2]
      refine iteF ?_
      cases hdx with
      | str _ hz =>
      refine ⟨.str z, rfl, small (by show 2 ≤ 1000; decide), fun r hr => ⟨r, _, rfl, .inr (.inl (.inl upd_same)), rfl, rfl, ?_⟩⟩
      have sr := same_new hr (.tup [.str "below", .str "above"])
      show ∃ c, V.bl (!inV (.str z) [.str "below", .str "above"]) = .bl c ∧ _
      rw [inV_two]
      refine ⟨_, rfl, ?_⟩
      have l1 : decide (V.int ((z.length : Nat) : Int) = V.int 1) = decide (z.length = 1) := decide_eq_decide.mpr ⟨fun e => (by injection e with e; omega), fun e => by rw [e]; rfl⟩
      by_cases hA : (decide (z = "below") || decide (z = "above")) = true
      · rw [hA]
        have l5 : z.length = 5 := by
          rcases Bool.or_eq_true_iff.mp hA with e | e
          · rw [of_decide_eq_true e]; exact five2.1
          · rw [of_decide_eq_true e]; exact five2.2
        refine iteF ?_
        refine ⟨.str z, rfl, .str z, z.length, rfl, ⟨len_k hz, rfl⟩, rfl, _, rfl, ?_⟩
        rw [l1, decide_eq_false (by omega)]
        refine iteF ?_
        exact yes sr (by show (_ || _) = _; rw [hA, Bool.true_or])
      rw [Bool.eq_false_iff.mpr hA]
      have w0 : wordOk (.str z) = (decide (z.length = 1) && ofL z) := by
        show (_ || _) = _
        rw [Bool.eq_false_iff.mpr hA, Bool.false_or]
      refine iteT ?_
      refine ⟨.str z, rfl, .str z, z.length, rfl, ⟨len_k hz, rfl⟩, rfl, _, rfl, ?_⟩
      rw [l1]
      by_cases h1 : z.length = 1
      rotate_left
      · rw [decide_eq_false h1]
        refine iteT ?_
        exact no sr (by rw [w0, decide_eq_false h1, Bool.false_and])
      rw [decide_eq_true h1]
      refine iteF ?_
      refine ⟨.str z, rfl, .str z, z.length, rfl, ⟨len_k hz, rfl⟩, rfl, _, rfl, ?_⟩
      rw [l1, decide_eq_true h1]
      refine iteT ?_
      obtain ⟨c, hc⟩ := one_sign h1
      have w1 : wordOk (.str z) = (decide (97 ≤ c) && decide (c ≤ 122)) := by
        rw [w0, decide_eq_true h1, Bool.true_and, letter_sign hc]
      refine ⟨.str z, rfl, "a", z, rfl, rfl, _, rfl, ?_⟩
      have ea : (!decide (z.cps.toList < ("a" : Str).cps.toList)) = decide (97 ≤ c) := by
        rw [show z.cps.toList = [c] from hc, show ("a" : Str).cps.toList = [97] by decide +kernel]
        exact le_sign
      have ez : (!decide (("z" : Str).cps.toList < z.cps.toList)) = decide (c ≤ 122) := by
        rw [show z.cps.toList = [c] from hc, show ("z" : Str).cps.toList = [122] by decide +kernel]
        exact le_sign
      rw [ea]
      by_cases g1 : 97 ≤ c
      rotate_left
      · rw [decide_eq_false g1]
        refine iteF ⟨_, rfl, iteT ?_⟩
        exact no sr (by rw [w1, decide_eq_false g1, Bool.false_and])
      rw [decide_eq_true g1]
      refine iteT ⟨z, "z", rfl, rfl, _, rfl, ?_⟩
      rw [ez]
      by_cases g2 : c ≤ 122
      · rw [decide_eq_true g2]
        refine iteF ?_
        exact yes sr (by rw [w1, decide_eq_true g1, decide_eq_true g2]; rfl)
      · rw [decide_eq_false g2]
        refine iteT ?_
        exact no sr (by rw [w1, decide_eq_false g2, Bool.and_false])
    · rintro σ H3 ⟨x2, rfl, s3, inv2⟩
      refine ⟨_, _, rfl, Same.trans s2 s3, fun j x hj hx => ?_⟩
      by_cases hji : j < i
      · exact inv j x hji hx
      · have : j = i := by omega
        rw [this, ht] at hx
        cases hx
        show ws.all wordOk = true
        refine List.all_eq_true.mpr fun y hy => ?_
        obtain ⟨k, hk, e⟩ := List.getElem_of_mem hy
        exact inv2 k y (by omega) (by rw [List.getElem?_eq_getElem hk, e])
  · rintro σ H2 ⟨x1, x2, rfl, s2, inv⟩
    refine val true H2 s2 ?_
    rw [f0]
    refine List.all_eq_true.mpr fun y hy => ?_
    obtain ⟨k, hk, e⟩ := List.getElem_of_mem hy
    exact inv k y (by omega) (by rw [List.getElem?_eq_getElem hk, e])
end
end Fk
set_option Elab.async false
set_option linter.all false
set_option maxRecDepth 100000
set_option maxHeartbeats 4000000
namespace Fk
open PySem L2
/-! ### outputs and traces as values -/
abbrev Ev := Str × Nat
def evD (e : Ev) : PyData := .tuple [.str e.1, .int (e.2 : Int)]
def outD (o : List Ev) : PyData := .tuple (o.map evD)
def wS : Wd Str → Str
  | .up => "above"
  | .dn => "below"
  | .lt c => c
def trD (t : List (Wd Str)) : PyData := .tuple ((t.map wS).map .str)
def tracesD (v : List (List (Wd Str))) : PyData := .tuple (v.map trD)
theorem dv_ev {K : PySem.W.Frag} {H : Hp} {v : V} {e : Ev} (h : Dv K H v (evD e)) : ∃ a, v = .ref a ∧ SqT K H a [.str e.1, .int (e.2 : Int)] := by
  cases h with
  | tup h g =>
    cases g with
    | cons g1 g2 =>
      cases g1
      cases g2 with
      | cons g3 g4 =>
        cases g3
        cases g4
        exact ⟨_, rfl, h⟩
/-- letters of one sign -/
def Ones (o : List Ev) : Prop := ∀ e ∈ o, e.1.length = 1 ∧ ofL e.1 = true
theorem strOk_ofL {z : Str} (h : ofL z = true) : PyData.strOk z = true := by
  have e : tl alpha = List.range' 97 26 := by decide +kernel
  unfold ofL at h
  unfold PyData.strOk
  rw [← Array.all_toList]
  refine List.all_eq_true.mpr fun c hc => decide_eq_true ?_
  have := of_decide_eq_true (List.all_eq_true.mp h c hc)
  rw [e, List.mem_range'_1] at this
  omega
theorem wS_ne {w w' : Wd Str} (h : ∀ c, w = .lt c → c.length = 1) (h' : w'.isLt = false) : wS w = wS w' ↔ w = w' := by
  have la : ("above" : Str).length = 5 := by decide +kernel
  have lb : ("below" : Str).length = 5 := by decide +kernel
  cases w with
  | up =>
    cases w' with
    | up => exact ⟨fun _ => rfl, fun _ => rfl⟩
    | dn => exact ⟨fun e => absurd e (by show ¬ (("above" : Str) = "below"); decide +kernel), fun e => by cases e⟩
    | lt c => cases h'
  | dn =>
    cases w' with
    | up => exact ⟨fun e => absurd e (by show ¬ (("below" : Str) = "above"); decide +kernel), fun e => by cases e⟩
    | dn => exact ⟨fun _ => rfl, fun _ => rfl⟩
    | lt c => cases h'
  | lt c =>
    have hc := h c rfl
    cases w' with
    | up => exact ⟨fun e => (by have e : c = "above" := e; rw [e, la] at hc; exact absurd hc (by decide)), fun e => by cases e⟩
    | dn => exact ⟨fun e => (by have e : c = "below" := e; rw [e, lb] at hc; exact absurd hc (by decide)), fun e => by cases e⟩
    | lt c => cases h'
theorem tr_ones {o : List Ev} (h : Ones o) (r : Nat) : ∀ c, Wd.lt c ∈ tr o r → c.length = 1 ∧ ofL c = true := by
  have : ∀ o : List Ev, Ones o → ∀ c, Wd.lt c ∈ tr o r → c.length = 1 ∧ ofL c = true := by
    refine snoc_ind (fun _ c hc => by cases hc) fun o e ih h c hc => ?_
    rw [tr_snoc] at hc
    have hin : Wd.lt c ∈ tr o r ∨ Wd.lt c = word r e := by
      unfold push at hc
      split at hc
      · rcases List.mem_append.mp hc with hc | hc
        · exact .inl hc
        · exact .inr (List.mem_singleton.mp hc)
      · exact .inl hc
    rcases hin with hc | hc
    · exact ih (fun x hx => h x (List.mem_append_left _ hx)) c hc
    · unfold word at hc
      split at hc
      · rw [lt_inj hc]
        exact h e (by simp)
      · split at hc <;> cases hc
  exact this o h
theorem tr_len (r : Nat) : ∀ o : List Ev, (tr o r).length ≤ o.length := by
  refine snoc_ind (Nat.le_refl _) fun o e ih => ?_
  rw [tr_snoc, List.length_append, List.length_singleton]
  unfold push
  split
  · rw [List.length_append, List.length_singleton]
    omega
  · omega
abbrev s__law_trace : Stmt := top 14
abbrev sc__law_traceN : List Str := ["_law_output", "_law_at", "_law_found", "_law_letter", "_law_place", "_law_word"]
theorem sc__law_trace : FnScope sc__law_traceN ["_law_output", "_law_at"] (defScope s__law_trace) := ⟨rfl, rfl, rfl, by decide +kernel, rfl, by decide +kernel, by decide +kernel⟩
def spTrace (K : PySem.W.Frag) : Sp := fun vs H Q _ => ∃ (a : Addr) (r : Nat) (o : List Ev), vs = [.ref a, .int (r : Int)] ∧ Dv K H (.ref a) (outD o) ∧ Ones o ∧ o.length ≤ 900 ∧
  ∀ (t : Addr) (H' : Hp), Same H H' → H t = none → H' t = some (.tup (((tr o r).map wS).map V.str)) → Q (.ref t) H'
theorem cut_last : ∀ xs : List V, cutV xs (some (-1)) none = xs.getLast?.toList := by
  refine snoc_ind rfl fun l x _ => ?_
  unfold cutV
  rw [HT.sIx_none, List.getLast?_append]
  have e : HT.sIx (l ++ [x]).length 0 (some (-1)) = l.length := by
    rw [List.length_append, List.length_singleton]
    show (if (-1 : Int) < 0 then ((-1 : Int) + ((l.length + 1 : Nat) : Int)).toNat else min (-1 : Int).toNat (l.length + 1)) = l.length
    rw [if_pos (by decide)]
    omega
  rw [e, List.drop_append_of_le_length (Nat.le_refl _), List.drop_length, List.length_append, List.length_singleton, Nat.add_sub_cancel_left]
  rfl
theorem ps_weak {X : Cx} {s : Stmt} {t t' : TS} (h : PS X s t) (i : ∀ D σ H, t' D σ H → t D σ H) : PS X s t' := ⟨fun pins s σ H D I q => h.run pins s σ H D I (i _ _ _ q)⟩
theorem dv_strs {K : PySem.W.Frag} {H : Hp} : ∀ {zs : List Str}, (∀ z ∈ zs, z.length ≤ 1000000) → DvAll K H (zs.map V.str) (zs.map .str)
  | [], _ => .nil
  | z :: zs, h => .cons (.str z (h z List.mem_cons_self)) (dv_strs fun x hx => h x (List.mem_cons_of_mem _ hx))
theorem last_in {α : Type} {l : List α} {x : α} (h : x ∈ l.getLast?.toList) : x ∈ l := by
  cases e : l.getLast? with
  | none => rw [e] at h; cases h
  | some y =>
    rw [e] at h
    have : x = y := by simpa using h
    rw [this]
    exact List.mem_of_getLast? e
/-- a word put behind, or not -/
def tPush : TS := fun D σ H => ∃ (x0 x3 : Option V) (r p : Nat) (D0 : Addr) (W : Str) (ts : List Str), σ = [x0, some (.int (r : Int)), some (.ref D0), x3, some (.int (p : Int)), some (.str W)] ∧ H D0 = some (.lst (ts.map V.str)) ∧ ts.length ≤ 900 ∧
  (∀ z ∈ ts, PyData.strOk z = true ∧ z.length ≤ 1000000) ∧ (PyData.strOk W = true ∧ W.length ≤ 1000000) ∧ (if p = r ∨ ts.getLast? ≠ some W then ∀ H', Same H H' → D.nx σ (upd H' D0 (.lst ((ts ++ [W]).map V.str))) else ∀ H', Same H H' → D.nx σ H')
theorem dec_nat (x y : Nat) : decide (V.int (x : Int) = V.int (y : Int)) = decide (x = y) := decide_eq_decide.mpr ⟨fun h => (by injection h with h; omega), fun h => by rw [h]⟩
section
variable {P : Program} {w : World} {K : PySem.W.Frag} {mg : Str → Option Value} {base : Heap}
theorem ok_trace {f : Addr} {fd : FuncData} (F : Fun K "_law_trace" "_law_trace" s__law_trace f fd) (T : Bare mg) : FnOk P w K mg base CX0 1 f fd ["_law_output", "_law_at"] (spTrace K) := by
  refine F.ok sc__law_trace (fun vs H Q E h => ?_) (fun cdv A outer st H vs Q E hr h => ?_)
  · obtain ⟨a, r, o, rfl, _⟩ := h
    rfl
  obtain ⟨a, r, o, rfl, hd, ho, hl, q⟩ := h
  refine ⟨_, (pss_cons (ps_set (i := 2) sc__law_trace.nd rfl (Or.inl rfl) (pe_lst pa_nil))
(pss_cons (ps_for PassesOwn.never rfl (pi_tup (pv 0)) (pg_tup (by rfl) (pgs_cons (pg_name (i := 3) sc__law_trace.nd rfl (Or.inl rfl)) (pgs_cons (pg_name (i := 4) sc__law_trace.nd rfl (Or.inl rfl)) pgs_nil)))
(pss_cons (ps_set (i := 5) sc__law_trace.nd rfl (Or.inl rfl) (pe_ifExp (pt_cmpR op_eq (pv 4) (pv 1) (nomark _)) (pv 3) (pe_ifExp (pt_cmpR op_lt (pv 4) (pv 1) (nomark _)) pe_str pe_str)))
(pss_one (ps_weak (t' := tPush) (ps_if (PW.pt (pw_or (pt_cmpR op_eq (pv 4) (pv 1) (nomark _)) (pw_or1 (pt_cmpR (op_neW hr.units) (pe_slice sl_list (pv 2) (po_some (pe_un un_neg pe_int)) po_none) (pe_lst (pa_cons (pv 5) pa_nil)) (nomark _)))))
(pss_one (ps_expr (pe_bm PySem.F.plainAttrs_list PySem.F.slot_list_append PySem.F.type_list_append mt_append (pv 2) (pa_cons (pv 5) pa_nil))))
pss_nil) (fun D σ H h => by
    obtain ⟨x0, x3, r, p, D0, W, ts, rfl, hD0, htl, hts, hW, q⟩ := h
    have htl2 : (ts.map V.str).length ≤ 900 := by rw [List.length_map]; exact htl
    refine ⟨_, rfl, _, rfl, rfl, _, rfl, ?_⟩
    rw [dec_nat]
    have app : (p = r ∨ ts.getLast? ≠ some W) → ∀ H', Same H H' → D.nx _ (upd H' D0 (.lst ((ts.map V.str) ++ [.str W]))) := fun c H' s => by
      rw [if_pos c] at q
      have z := q H' s
      rw [List.map_append] at z
      exact z
    by_cases hp : p = r
    · rw [decide_eq_true hp]
      exact iteT ⟨.ref D0, rfl, .inl ⟨rfl, _, .inl (.inl hD0)⟩, .str W, rfl, D0, _, _, rfl, rfl, hD0, small1000 (by omega), app (.inl hp) H (fun _ _ e => e)⟩
    rw [decide_eq_false hp]
    refine iteF ⟨.ref D0, rfl, 1, rfl, _, rfl, D0, _, rfl, .inl (.inl hD0), fun r1 hr1 => ⟨.str W, rfl, small (by show 1 ≤ 1000; decide), fun r2 hr2 => ?_⟩⟩
    have ec : cutV (ts.map V.str) (some (-1)) none = ts.getLast?.toList.map V.str := by
      rw [cut_last, List.getLast?_map]
      cases ts.getLast? <;> rfl
    have s1 := same_new hr1 (.lst (cutV (ts.map V.str) (some (-1)) none))
    have s2 := same_new hr2 (.lst [V.str W])
    have s12 := Same.trans s1 s2
    have g1 := s2 _ _ (upd_same (H := H) (a := r1) (o := .lst (cutV (ts.map V.str) (some (-1)) none)))
    have g1 := g1.trans (by rw [ec] : _ = some (HO.lst (ts.getLast?.toList.map V.str)))
    have ok1 : StrOks ts.getLast?.toList := fun z hz => (hts z (last_in hz)).1
    have ok2 : StrOks [W] := fun z hz => by
      rw [List.mem_singleton.mp hz]
      exact hW.1
    refine ⟨.list (ts.getLast?.toList.map .str), .list ([W].map .str), .lst (.inl (.inl g1)) (dv_strs fun z hz => (hts z (last_in hz)).2), .lst (.inl (.inl upd_same)) (dv_strs fun z hz => by rw [List.mem_singleton.mp hz]; exact hW.2), (shaped_strs ok1).2, (shaped_strs ok2).2, _, rfl, ?_⟩
    rw [show PyData.eqv (.list (ts.getLast?.toList.map .str)) (.list ([W].map .str)) = decide (ts.getLast?.toList = [W]) from eqv_strs _ _]
    have el : ts.getLast?.toList = [W] ↔ ts.getLast? = some W := by
      cases ts.getLast? with
      | none => exact ⟨fun e => (by cases e), fun e => (by cases e)⟩
      | some y => exact ⟨fun e => (by injection e with e; rw [e]), fun e => (by injection e with e; rw [e]; rfl)⟩
    by_cases hl : ts.getLast? = some W
    · rw [decide_eq_true (el.mpr hl)]
      refine iteF ?_
      rw [if_neg (fun c => c.elim hp fun c => c hl)] at q
      exact q _ s12
    · rw [decide_eq_false fun c => hl (el.mp c)]
      exact iteT ⟨.ref D0, rfl, .inl ⟨rfl, _, .inl (.inl (s12 _ _ hD0))⟩, .str W, rfl, D0, _, _, rfl, rfl, s12 _ _ hD0, small1000 (by omega), app (.inr hl) _ s12⟩)))))
(pss_one (ps_ret (pe_callTy call_tuple_of (by rfl) T.tuple (by decide +kernel) (pa_cons (pv 2) pa_nil)))))), ?_⟩
  cases hd with
  | @tup a xs ds hq hall =>
  have hlen : xs.length = o.length := by rw [hall.len, List.length_map]
  refine ⟨small (by show 0 ≤ 1000; decide), fun D hD => ?_⟩
  have sD := same_new hD (.lst [])
  refine ⟨.ref a, rfl, a, rfl, ⟨_, same_sqT sD hq⟩, for_it (walk_tup (xs := xs)) (fun i σ H' => ∃ (x3 x4 x5 : Option V), σ = [some (.ref a), some (.int (r : Int)), some (.ref D), x3, x4, x5] ∧ H' D = some (.lst (((tr (o.take i) r).map wS).map V.str)) ∧ Same H H') ?_ ?_ ?_ ?_⟩
  · exact ⟨none, none, none, rfl, upd_same, sD⟩
  · rintro i σ H' hi ⟨_, _, _, _, _, s⟩
    exact same_sqT s hq
  · rintro i x σ Hx H2 hi ⟨x3, x4, x5, rfl, h1, h2⟩ y
    obtain ⟨rfl, hx⟩ := y
    obtain ⟨d, hd, hdx⟩ := hall.get hx
    rw [List.getElem?_map] at hd
    obtain ⟨e, he, rfl⟩ := Option.map_eq_some_iff.mp hd
    obtain ⟨b, rfl, hb⟩ := dv_ev hdx
    have hem := List.mem_of_getElem? he
    have he1 := ho e hem
    have hoi : Ones (o.take i) := fun x hx => ho x (List.mem_of_mem_take hx)
    have hil : i < o.length := by omega
    have etk : o.take (i + 1) = o.take i ++ [e] := by rw [List.take_add_one, he]; rfl
    have hti := tr_len r (o.take i)
    have hl3 := List.length_take_le i o
    have hil2 : (((tr (o.take i) r).map wS).map V.str).length ≤ 900 := by
      rw [List.length_map, List.length_map]
      omega
    have good : ∀ z ∈ (tr (o.take i) r).map wS, PyData.strOk z = true ∧ z.length ≤ 1000000 := fun z hz => by
      obtain ⟨wd, hwd, rfl⟩ := List.mem_map.mp hz
      cases wd with
      | up => exact ⟨by decide +kernel, by decide +kernel⟩
      | dn => exact ⟨by decide +kernel, by decide +kernel⟩
      | lt c =>
        have := tr_ones hoi r c hwd
        exact ⟨strOk_ofL this.2, by show c.length ≤ _; omega⟩
    have fin : ∀ (DD : Ends), (DD.nx = fun σ H' => ∃ (x3 x4 x5 : Option V), σ = [some (V.ref a), some (.int (r : Int)), some (.ref D), x3, x4, x5] ∧ H' D = some (.lst (((tr (o.take (i + 1)) r).map wS).map V.str)) ∧ Same H H') → ∀ W, W = wS (word r e) → PyData.strOk W = true ∧ W.length ≤ 1000000 → tPush DD [some (V.ref a), some (.int (r : Int)), some (.ref D), some (.str e.1), some (.int (e.2 : Int)), some (.str W)] H2 := fun DD eD W eW hW => by
      refine ⟨_, _, r, e.2, D, W, (tr (o.take i) r).map wS, rfl, h1, by rw [List.length_map]; omega, good, hW, ?_⟩
      have key : (e.2 = r ∨ ((tr (o.take i) r).map wS).getLast? ≠ some W) ↔ ((word r e).isLt = true ∨ (tr (o.take i) r).getLast? ≠ some (word r e)) := by
        by_cases h1e : e.2 = r
        · have ew : word r e = .lt e.1 := if_pos h1e
          exact ⟨fun _ => .inl (by rw [ew]; rfl), fun _ => .inl h1e⟩
        · have hnl : (word r e).isLt = false := by
            unfold word
            rw [if_neg h1e]
            split <;> rfl
          have em : ((tr (o.take i) r).map wS).getLast? = some W ↔ (tr (o.take i) r).getLast? = some (word r e) := by
            rw [List.getLast?_map]
            cases hg : (tr (o.take i) r).getLast? with
            | none => exact ⟨fun e => (by cases e), fun e => (by cases e)⟩
            | some y =>
              have hy := List.mem_of_getLast? hg
              have ne := wS_ne (w := y) (w' := word r e) (fun c ec => (tr_ones hoi r c (ec ▸ hy)).1) hnl
              constructor
              · intro z
                have z : wS y = W := by injection z
                rw [eW] at z
                rw [ne.mp z]
              · intro z
                have z : y = word r e := by injection z
                show some (wS y) = some W
                rw [z, eW]
          rw [hnl]
          constructor
          · rintro (z | z)
            · exact absurd z h1e
            · exact .inr fun c => z (em.mpr c)
          · rintro (z | z)
            · cases z
            · exact .inr fun c => z (em.mp c)
      have etr : tr (o.take (i + 1)) r = push (tr (o.take i) r) (word r e) := by rw [etk, tr_snoc]
      by_cases hc : (word r e).isLt = true ∨ (tr (o.take i) r).getLast? ≠ some (word r e)
      · rw [if_pos (key.mpr hc)]
        intro H' s'
        refine (congrFun (congrFun eD _) _).mpr ⟨_, _, _, rfl, ?_, fun c o' hc => ?_⟩
        · rw [upd_same, etr]
          unfold push
          rw [if_pos hc, List.map_append (f := wS), eW]
          rfl
        · rw [upd_ne (ne_of_none hc hD)]
          exact s' _ _ (h2 _ _ hc)
      · rw [if_neg fun z => hc (key.mp z)]
        intro H' s'
        refine (congrFun (congrFun eD _) _).mpr ⟨_, _, _, rfl, ?_, Same.trans h2 s'⟩
        rw [etr]
        unfold push
        rw [if_neg hc]
        exact s' _ _ h1
    refine ⟨b, _, rfl, same_sqT h2 hb, rfl, _, _, rfl, _, _, rfl, rfl, _, rfl, ?_⟩
    refine ⟨_, rfl, rfl, _, rfl, ?_⟩
    rw [dec_nat]
    by_cases h1e : e.2 = r
    · rw [decide_eq_true h1e]
      refine iteT ⟨_, rfl, ?_⟩
      exact fin _ rfl e.1 (by unfold word; rw [if_pos h1e]; rfl) ⟨strOk_ofL he1.2, by omega⟩
    · rw [decide_eq_false h1e]
      refine iteF ⟨_, rfl, _, rfl, _, _, rfl, rfl, _, rfl, ite2 (fun h => ?_) (fun h => ?_)⟩
      · have h := of_decide_eq_true h
        exact fin _ rfl "below" (by unfold word; rw [if_neg h1e, if_pos (by omega)]; rfl) ⟨by decide +kernel, by decide +kernel⟩
      · have h : ¬ ((e.2 : Int) < (r : Int)) := fun z => h (decide_eq_true z)
        exact fin _ rfl "above" (by unfold word; rw [if_neg h1e, if_neg (by omega)]; rfl) ⟨by decide +kernel, by decide +kernel⟩
  · rintro σ H1 ⟨x3, x4, x5, rfl, h1, h2⟩
    rw [hlen, List.take_length] at h1
    refine ⟨_, rfl, D, _, rfl, .inl ⟨.inl (.inl h1), fun t ht => ?_⟩⟩
    exact q t _ (Same.trans h2 (same_new ht _)) (h2.free ht) upd_same
end
end Fk
set_option Elab.async false
set_option linter.all false
set_option maxRecDepth 100000
set_option maxHeartbeats 2000000
namespace Fk
open PySem L2
/-! ### all traces of an output; an output drawn -/
abbrev s__law_traces : Stmt := top 15
abbrev sc__law_tracesN : List Str := ["_law_output", "_law_many", "_law_at"]
theorem sc__law_traces : FnScope sc__law_tracesN ["_law_output", "_law_many"] (defScope s__law_traces) := ⟨rfl, rfl, rfl, by decide +kernel, rfl, by decide +kernel, by decide +kernel⟩
abbrev s__law_drawn_output : Stmt := top 16
abbrev sc__law_drawn_outputN : List Str := ["_law_pot", "_law_many", "_law_found", "_law_turn"]
theorem sc__law_drawn_output : FnScope sc__law_drawn_outputN ["_law_pot", "_law_many"] (defScope s__law_drawn_output) := ⟨rfl, rfl, rfl, by decide +kernel, rfl, by decide +kernel, by decide +kernel⟩
def trs (o : List Ev) (n : Nat) : List (List (Wd Str)) := (List.range n).map (tr o)
def spTraces (K : PySem.W.Frag) : Sp := fun vs H Q _ => ∃ (a : Addr) (n : Nat) (o : List Ev), vs = [.ref a, .int (n : Int)] ∧ Dv K H (.ref a) (outD o) ∧ Ones o ∧ o.length ≤ 900 ∧ n ≤ 1000 ∧
  ∀ (t : Addr) (H' : Hp), Same H H' → Dv K H' (.ref t) (tracesD (trs o n)) → Q (.ref t) H'
def spOut (K : PySem.W.Frag) : Sp := fun vs H Q _ => ∃ (p : Addr) (m n : Nat), vs = [.ref p, .int (m : Int)] ∧ Pot H p n ∧ n + 20 < 1000000 ∧ 2 ≤ m ∧ m ≤ 9 ∧
  ∀ (a : Addr) (o : List Ev) (H' : Hp), Pot H' p (n + 20) → But p H H' → Dv K H' (.ref a) (outD o) → Ones o → o.length ≤ 6 → (∀ e ∈ o, e.2 < m) → Q (.ref a) H'
theorem Pot.upd {H : Hp} {p q : Addr} {n : Nat} (h : Pot H p n) (ne : q ≠ p) (o : HO) : Pot (L2.upd H q o) p n := by
  obtain ⟨o', b, c, e, r⟩ := h
  exact ⟨o', b, c, by rw [upd_ne ne.symm]; exact e, r⟩
theorem Pot.ne {H : Hp} {p q : Addr} {n : Nat} (h : Pot H p n) (hq : H q = none) : q ≠ p := by
  obtain ⟨ys, hp⟩ := h.is
  exact (ne_of_none hp hq).symm
theorem nl_strs (zs : List Str) : noListAll (zs.map .str) = true := nl_all fun d hd => by
  obtain ⟨z, _, rfl⟩ := List.mem_map.mp hd
  simp only [noList]
theorem nl_tr (t : List (Wd Str)) : noList (trD t) = true := by
  unfold trD
  simp only [noList]
  exact nl_strs _
theorem tr_small {o : List Ev} (ho : Ones o) (r : Nat) : ∀ z ∈ (tr o r).map wS, z.length ≤ 1000000 := fun z hz => by
  obtain ⟨wd, hwd, rfl⟩ := List.mem_map.mp hz
  cases wd with
  | up => decide +kernel
  | dn => decide +kernel
  | lt c =>
    have := tr_ones ho r c hwd
    show c.length ≤ _
    omega
theorem nl_ev (e : Ev) : noList (evD e) = true := by
  unfold evD
  simp only [noList, noListAll]
  rfl
section
variable {P : Program} {w : World} {K : PySem.W.Frag} {mg : Str → Option Value} {base : Heap}
theorem ok_traces {f : Addr} {fd : FuncData} (F : Fun K "_law_traces" "_law_traces" s__law_traces f fd) (T : Bare mg) (CT : Callee P w K mg base 1 "_law_trace" ["_law_output", "_law_at"] (spTrace K)) : FnOk P w K mg base CX0 2 f fd ["_law_output", "_law_many"] (spTraces K) := by
  refine F.ok sc__law_traces (fun vs H Q E h => ?_) (fun cdv A outer st H vs Q E hr h => ?_)
  · obtain ⟨a, n, o, rfl, _⟩ := h
    rfl
  obtain ⟨a, n, o, rfl, hd, ho, hl, hn, q⟩ := h
  refine ⟨_, (pss_one (ps_ret (pe_callTy call_tuple_of (by rfl) T.tuple (by decide +kernel) (pa_cons (pe_lc (own := [("_law_at", 2)]) (g := gName 2) rfl sc__law_traces.nd (pi_range1 (by rfl) T.range (pa_cons (pv 1) pa_nil)) (blkOk_by (N := sc__law_tracesN) (sc := defScope s__law_traces) (by decide +kernel)) (fun _ _ _ _ _ => pg_name (i := 2) sc__law_traces.nd rfl (Or.inl rfl)) (fun _ _ _ _ _ => pts_nil) (fun _ _ _ _ _ => (pe_call CT.ok hr rfl CT.mg CT.kp CT.b .nil pass0 (pa_cons (pv 0) (pa_cons (pv 2) pa_nil))))) pa_nil)))), ?_⟩
  refine ⟨_, rfl, (n : Int), rfl, by omega, by omega, fun D hD => lc_range (lo := 0) (n := n) (fun j H' => ∃ ys, H' D = some (.lst ys) ∧ DvAll K H' ys ((trs o j).map trD) ∧ Same H H') ?_ ?_ ?_⟩
  · exact ⟨[], upd_same, .nil, same_new hD _⟩
  · rintro j H1 hj ⟨ys, h1, h2, h3⟩
    refine ⟨rfl, ?_⟩
    simp only [tYes, ↓reduceIte]
    refine ⟨.ref a, rfl, _, rfl, a, j, o, (by show [V.ref a, V.int (0 + (j : Int))] = _; rw [Int.zero_add]), hd.same h3, ho, hl, fun t H2 s2 ht hv => ?_⟩
    have len : ys.length = j := by
      rw [h2.len]
      unfold trs
      rw [List.length_map, List.length_map, List.length_range]
    have hD2 := s2 _ _ h1
    have ntD : t ≠ D := fun e => by rw [e, h1] at ht; cases ht
    refine ⟨ys, hD2, ?_, ys ++ [.ref t], upd_same, ?_, fun c o' hc => ?_⟩
    · rw [len]
      exact Nat.lt_of_lt_of_le (by omega : j < 1001) (by rw [sizeLine_eq]; decide)
    · have et : (trs o (j + 1)).map trD = (trs o j).map trD ++ [trD (tr o j)] := by
        unfold trs
        rw [List.range_succ, List.map_append, List.map_append]
        rfl
      rw [et]
      have nl : noListAll ((trs o j).map trD) = true := nl_all fun d hd => by
        obtain ⟨t, _, rfl⟩ := List.mem_map.mp hd
        exact nl_tr t
      refine (DvAll.but But.upd ⟨_, hD2⟩ nl (h2.same s2)).append (.cons (.tup (.inl (.inl ?_)) (dv_strs (tr_small ho j))) .nil)
      rw [upd_ne ntD]
      exact hv
    · rw [upd_ne (ne_of_none hc hD)]
      exact s2 _ _ (h3 _ _ hc)
  · rintro H1 ⟨ys, h1, h2, h3⟩
    refine ⟨D, ys, rfl, .inl ⟨.inl (.inl h1), fun t ht => ?_⟩⟩
    have s := same_new ht (.tup ys)
    exact q t _ (Same.trans h3 s) (.tup (.inl (.inl upd_same)) (h2.same s))
theorem ok_out {f : Addr} {fd : FuncData} (F : Fun K "_law_drawn_output" "_law_drawn_output" s__law_drawn_output f fd) (T : Bare mg) (CT : Callee P w K mg base 1 "_law_take" ["_law_pot", "_law_upto"] spTake) (CO : Callee P w K mg base 2 "_law_of" ["_law_pot", "_law_some"] (spOf K)) :
    FnOk P w K mg base CX0 3 f fd ["_law_pot", "_law_many"] (spOut K) := by
  refine F.ok sc__law_drawn_output (fun vs H Q E h => ?_) (fun cdv A outer st H vs Q E hr h => ?_)
  · obtain ⟨p, m, n, rfl, _⟩ := h
    rfl
  obtain ⟨p, m, n, rfl, hp, hn, m2, m9, q⟩ := h
  refine ⟨_, (pss_cons (ps_set (i := 2) sc__law_drawn_output.nd rfl (Or.inl rfl) (pe_lst pa_nil))
(pss_cons (ps_for PassesOwn.never rfl (pi_range1 (by rfl) T.range (pa_cons (pe_call CT.ok (hr.mono (by decide)) rfl CT.mg CT.kp CT.b .nil pass0 (pa_cons (pv 0) (pa_cons pe_int pa_nil))) pa_nil)) (pg_name (i := 3) sc__law_drawn_output.nd rfl (Or.inl rfl))
(pss_one (ps_expr (pe_bm PySem.F.plainAttrs_list PySem.F.slot_list_append PySem.F.type_list_append mt_append (pv 2) (pa_cons (pe_tup (pa_cons (pe_call CO.ok hr rfl CO.mg CO.kp CO.b .nil pass0 (pa_cons (pv 0) (pa_cons (pe_lst (pa_cons pe_str (pa_cons pe_str (pa_cons pe_str pa_nil)))) pa_nil))) (pa_cons (pe_call CT.ok (hr.mono (by decide)) rfl CT.mg CT.kp CT.b .nil pass0 (pa_cons (pv 0) (pa_cons (pv 1) pa_nil))) pa_nil))) pa_nil)))))
(pss_one (ps_ret (pe_callTy call_tuple_of (by rfl) T.tuple (by decide +kernel) (pa_cons (pv 2) pa_nil)))))), ?_⟩
  refine ⟨small (by show 0 ≤ 1000; decide), fun D hD => ?_⟩
  have s0 := same_new hD (.lst [])
  have neD := hp.ne hD
  refine ⟨.ref p, rfl, p, 7, n, rfl, hp.new hD _, by omega, by decide, by decide, fun u H1 u0 u7 hp1 b1 => ?_⟩
  have hD1 : H1 D = some (.lst []) := b1 _ _ upd_same neD
  have B1 := same_but s0 b1
  refine ⟨u, rfl, by omega, by omega, for_range (lo := 0) (n := u.toNat) (fun i σ H' => ∃ (x3 : Option V) (vs : List V) (o : List Ev), σ = [some (.ref p), some (.int (m : Int)), some (.ref D), x3] ∧ H' D = some (.lst vs) ∧ DvAll K H' vs (o.map evD) ∧ Ones o ∧ o.length = i ∧ (∀ e ∈ o, e.2 < m) ∧ Pot H' p (n + 1 + 2 * i) ∧ But p H H') ?_ ?_ ?_⟩
  · exact ⟨none, [], [], rfl, hD1, .nil, fun e h => (by cases h), rfl, fun e h => (by cases h), hp1, B1⟩
  · rintro i σ H2 hi ⟨x3, vs, o, rfl, hD2, hds, ho, hlo, hm, hp2, B2⟩
    have hvl : vs.length = i := by rw [hds.len, List.length_map, hlo]
    refine ⟨.ref D, rfl, .inl ⟨rfl, _, .inl (.inl hD2)⟩, .ref p, rfl, small (by show 3 ≤ 1000; decide), fun l hl => ?_⟩
    have nel := hp2.ne hl
    refine ⟨p, .ref l, [.str "a", .str "b", .str "x"], _, rfl, hp2.new hl _, by omega, .inl ⟨l, rfl, .inl (.inl (.inl upd_same))⟩, fun e => nel (V.ref.inj e), (by show 0 < 3; decide), (by show 3 < 1000; decide), fun i2 v2 H3 hv2 hp3 b3 => ?_⟩
    obtain ⟨c, rfl, hc⟩ : ∃ c : Str, v2 = .str c ∧ c.length = 1 ∧ ofL c = true := by
      have := List.mem_of_getElem? hv2
      rcases mem3 this with rfl | rfl | rfl
      · exact ⟨_, rfl, by decide +kernel, by decide +kernel⟩
      · exact ⟨_, rfl, by decide +kernel, by decide +kernel⟩
      · exact ⟨_, rfl, by decide +kernel, by decide +kernel⟩
    refine ⟨.ref p, rfl, _, rfl, p, m, _, rfl, hp3, by omega, by omega, by omega, fun y H4 y0 y1 hp4 b4 => ?_⟩
    obtain ⟨k, rfl⟩ : ∃ k : Nat, y = k := ⟨y.toNat, by omega⟩
    refine ⟨small (by show 2 ≤ 1000; decide), fun r hr2 => ?_⟩
    have B4 : But p H2 H4 := (same_but (same_new hl _) b3).trans b4
    have hD4 : H4 D = some (.lst vs) := B4 _ _ hD2 neD
    have nrD : r ≠ D := (ne_of_none hD4 hr2).symm
    refine ⟨D, vs, _, rfl, rfl, by rw [upd_ne nrD.symm]; exact hD4, small1000 (by omega), ?_⟩
    have nl : noListAll (o.map evD) = true := nl_all fun d hd => by
      obtain ⟨e, _, rfl⟩ := List.mem_map.mp hd
      exact nl_ev e
    have up : But D H4 (upd (upd H4 r (.tup [.str c, .int (k : Int)])) D (.lst (vs ++ [.ref r]))) := fun b o e nb => by
      rw [upd_ne nb, upd_ne (ne_of_none e hr2)]
      exact e
    refine ⟨_, vs ++ [.ref r], o ++ [(c, k)], rfl, upd_same, ?_, ?_, by rw [List.length_append, hlo]; rfl, ?_, ?_, ?_⟩
    · rw [List.map_append]
      refine (DvAll.but up ⟨_, hD4⟩ nl (DvAll.but B4 hp2.is nl hds)).append (.cons (.tup (.inl (.inl ?_)) (.cons (.str c (by omega)) (.cons (.int _) .nil))) .nil)
      rw [upd_ne nrD, upd_same]
    · intro e he
      rcases List.mem_append.mp he with he | he
      · exact ho e he
      · rw [List.mem_singleton.mp he]
        exact hc
    · intro e he
      rcases List.mem_append.mp he with he | he
      · exact hm e he
      · rw [List.mem_singleton.mp he]
        show k < m
        omega
    · exact ((hp4.new hr2 _).upd neD _).more (by omega)
    · intro b o' e nb
      have e7 := (B2.trans B4) b o' e nb
      rw [upd_ne (ne_of_none e hD), upd_ne (ne_of_none e7 hr2)]
      exact e7
  · rintro σ H2 ⟨x3, vs, o, rfl, hD2, hds, ho, hlo, hm, hp2, B2⟩
    refine ⟨.ref D, rfl, D, vs, rfl, .inl ⟨.inl (.inl hD2), fun a ha => ?_⟩⟩
    have s := same_new ha (.tup vs)
    exact q a o _ ((hp2.new ha _).more (by omega)) (B2.trans (But.of_same s)) (.tup (.inl (.inl upd_same)) (hds.same s)) ho (by omega) hm
end
end Fk
set_option Elab.async false
set_option linter.all false
set_option maxRecDepth 100000
set_option maxHeartbeats 2000000
namespace Fk
open PySem L2
/-! ### Unread: traces that are being read -/
abbrev s_U_init : Stmt := inClass (top 9) 0
abbrev sc_U_initN : List Str := ["self", "traces"]
theorem sc_U_init : FnScope sc_U_initN ["self", "traces"] (defScope s_U_init) := ⟨rfl, rfl, rfl, by decide +kernel, rfl, by decide +kernel, by decide +kernel⟩
abbrev s_U_word : Stmt := inClass (top 9) 1
abbrev sc_U_wordN : List Str := ["self", "position", "trace"]
theorem sc_U_word : FnScope sc_U_wordN ["self", "position"] (defScope s_U_word) := ⟨rfl, rfl, rfl, by decide +kernel, rfl, by decide +kernel, by decide +kernel⟩
abbrev s_U_take : Stmt := inClass (top 9) 2
abbrev sc_U_takeN : List Str := ["self", "position", "word"]
theorem sc_U_take : FnScope sc_U_takeN ["self", "position"] (defScope s_U_take) := ⟨rfl, rfl, rfl, by decide +kernel, rfl, by decide +kernel, by decide +kernel⟩
abbrev s_U_empty : Stmt := inClass (top 9) 3
abbrev sc_U_emptyN : List Str := ["self", "trace"]
theorem sc_U_empty : FnScope sc_U_emptyN ["self"] (defScope s_U_empty) := ⟨rfl, rfl, rfl, by decide +kernel, rfl, by decide +kernel, by decide +kernel⟩
def uf (t l : Addr) : List (Str × V) := [("traces", .ref t), ("read", .ref l)]
theorem uf_traces {t l : Addr} : (uf t l).lookup ("traces" : Str) = some (V.ref t) := by kernel_rfl
theorem uf_read {t l : Addr} : (uf t l).lookup ("read" : Str) = some (V.ref l) := by kernel_rfl
theorem put_read {t l m : Addr} : putF "read" (.ref m) (uf t l) = uf t m := by kernel_rfl
/-- what is known of the class Unread -/
structure UTxt (K : PySem.W.Frag) (C : Addr) : Prop where
  cl : Cls K C
  nTraces : NoAttr K C "traces"
  nRead : NoAttr K C "read"
/-- a method that stands ready to be called -/
structure Meter (P : Program) (w : World) (K : PySem.W.Frag) (mg : Str → Option Value) (base : Heap) (C : Addr) (k : Nat) (x : Str) (ps : List Str) (sp : Sp) where
  f : Addr
  fd : FuncData
  ok : FnOk P w K mg base CX0 k f fd ps sp
  m : Meth K C x f
  b : Binds K fd ps []
abbrev tupD (v : List (List Str)) : PyData := .tuple (v.map fun t => .tuple (t.map .str))
theorem Dv.tupE {K : PySem.W.Frag} {H : Hp} {t : Addr} {ds : List PyData} (h : Dv K H (.ref t) (.tuple ds)) : ∃ xs, V.ref t = V.ref t ∧ SqT K H t xs ∧ DvAll K H xs ds := by
  cases h with
  | tup hq g => exact ⟨_, rfl, hq, g⟩
theorem Dv.tupE2 {K : PySem.W.Frag} {H : Hp} {v : V} {ds : List PyData} (h : Dv K H v (.tuple ds)) : ∃ xs a, v = .ref a ∧ SqT K H a xs ∧ DvAll K H xs ds := by
  cases h with
  | tup hq g => exact ⟨_, _, rfl, hq, g⟩
theorem dv_strs_eq {K : PySem.W.Frag} {H : Hp} : ∀ {zs : List Str} {ys : List V}, DvAll K H ys (zs.map .str) → ys = zs.map V.str
  | [], _, h => by cases h; rfl
  | z :: zs, _, h => by
    cases h with
    | cons h1 h2 =>
      cases h1
      rw [dv_strs_eq h2]
      rfl
def natV (n : List Nat) : List V := n.map fun k : Nat => .int (k : Int)
/-- an object of Unread: how many words are read of each trace -/
structure UAt (K : PySem.W.Frag) (C : Addr) (H : Hp) (u t l : Addr) (v : List (List Str)) (n : List Nat) : Prop where
  ob : ∃ dx, H u = some (.ins C dx (uf t l))
  rd : H l = some (.lst (natV n))
  tr : Dv K H (.ref t) (tupD v)
  len : n.length = v.length
  few : v.length ≤ 1000
  short : ∀ w ∈ v, w.length ≤ 10000
  ok : ∀ w ∈ v, ∀ z ∈ w, z.length ≤ 1000000
/-- the word that comes next -/
def nextW (v : List (List Str)) (n : List Nat) (p : Nat) : Str := ((v.getD p [])[n.getD p 0]?).getD ""
def spWordU (K : PySem.W.Frag) (C : Addr) : Sp := fun vs H Q _ => ∃ (u t l : Addr) (v : List (List Str)) (n : List Nat) (p : Nat), vs = [.ref u, .int (p : Int)] ∧ UAt K C H u t l v n ∧ p < v.length ∧ Q (.str (nextW v n p)) H
def spTakeU (K : PySem.W.Frag) (C : Addr) : Sp := fun vs H Q _ => ∃ (u t l : Addr) (v : List (List Str)) (n : List Nat) (p : Nat), vs = [.ref u, .int (p : Int)] ∧ UAt K C H u t l v n ∧ p < v.length ∧ Q (.str (nextW v n p)) (upd H l (.lst (natV (n.set p (n.getD p 0 + 1)))))
def spEmptyU (K : PySem.W.Frag) (C : Addr) : Sp := fun vs H Q _ => ∃ (u t l : Addr) (v : List (List Str)) (n : List Nat), vs = [.ref u] ∧ UAt K C H u t l v n ∧ ∀ H', Same H H' → Q (.bl (decide (n = v.map List.length))) H'
theorem natV_get {n : List Nat} {p : Nat} (h : p < n.length) : (natV n)[p]? = some (.int ((n.getD p 0 : Nat) : Int)) := by
  unfold natV
  rw [List.getElem?_map, List.getElem?_eq_getElem h, List.getD_eq_getElem?_getD, List.getElem?_eq_getElem h]
  rfl
section
variable {P : Program} {w : World} {K : PySem.W.Frag} {mg : Str → Option Value} {base : Heap}
theorem UAt.traces {C : Addr} {H : Hp} {u t l : Addr} {v : List (List Str)} {n : List Nat} (U : UAt K C H u t l v n) : ∃ xs : List V, SqT K H t xs ∧ xs.length = v.length ∧ ∀ i x, xs[i]? = some x → ∃ b, x = .ref b ∧ SqT K H b ((v.getD i []).map V.str) := by
  obtain ⟨xs, _, hq, hall⟩ := U.tr.tupE
  have hl := hall.len
  rw [List.length_map] at hl
  refine ⟨xs, hq, hl, fun p x hx => ?_⟩
  have h : p < v.length := by
    have := (List.getElem?_eq_some_iff.mp hx).1
    omega
  obtain ⟨d, hd, hdv⟩ := hall.get hx
  rw [List.getElem?_map, List.getElem?_eq_getElem h] at hd
  have hd : (PyData.tuple (v[p].map .str)) = d := by injection hd
  subst hd
  obtain ⟨ys, b, eb, hq2, hall2⟩ := hdv.tupE2
  refine ⟨b, eb, ?_⟩
  have eg : v.getD p [] = v[p] := by rw [List.getD_eq_getElem?_getD, List.getElem?_eq_getElem h]; rfl
  rw [eg, ← dv_strs_eq hall2]
  exact hq2
/-- the trace at p -/
theorem UAt.trace {C : Addr} {H : Hp} {u t l : Addr} {v : List (List Str)} {n : List Nat} (U : UAt K C H u t l v n) {p : Nat} (h : p < v.length) : ∃ (xs : List V) (b : Addr), SqT K H t xs ∧ xs[p]? = some (.ref b) ∧ SqT K H b ((v.getD p []).map V.str) := by
  obtain ⟨xs, hq, hl, hx⟩ := U.traces
  have e := List.getElem?_eq_getElem (show p < xs.length by omega)
  obtain ⟨b, eb, hb⟩ := hx p _ e
  rw [eb] at e
  exact ⟨xs, b, hq, e, hb⟩
theorem ok_wordU {f C : Addr} {fd : FuncData} (F : Fun K "next_word" "Unread.next_word" s_U_word f fd) (T : Bare mg) (TU : UTxt K C) : FnOk P w K mg base CX0 1 f fd ["self", "position"] (spWordU K C) := by
  refine F.ok sc_U_word (fun vs H Q E h => ?_) (fun cdv A outer st H vs Q E hr h => ?_)
  · obtain ⟨u, t, l, v, n, p, rfl, _⟩ := h
    rfl
  obtain ⟨u, t, l, v, n, p, rfl, U, hp, q⟩ := h
  refine ⟨_, (pss_cons (ps_set (i := 2) sc_U_word.nd rfl (Or.inl rfl) (pe_ix ix_tup (pe_fld (pv 0) rfl) (pv 1) (fun _ _ => rfl)))
(pss_one (ps_ret (pe_ifExp (pt_cmpR op_lt (pe_ix ix_list (pe_fld (pv 0) rfl) (pv 1) (fun _ _ => rfl)) (pe_callB call_len_seq (by rfl) T.len PySem.boot_len (pa_cons (pv 2) pa_nil)) (nomark _)) (pe_ix ix_tup (pv 2) (pe_ix ix_list (pe_fld (pv 0) rfl) (pv 1) (fun _ _ => rfl)) (fun _ _ => rfl)) pe_str)))), ?_⟩
  obtain ⟨dx, ho⟩ := U.ob
  obtain ⟨xs, b, hq, hx, hb⟩ := U.trace hp
  have hn := natV_get (n := n) (p := p) (by rw [U.len]; exact hp)
  have hl : SqL K H l (natV n) := .inl (.inl U.rd)
  refine ⟨.ref u, rfl, u, C, dx, _, _, rfl, ho, TU.cl, TU.nTraces, uf_traces, _, rfl, t, xs, _, _, rfl, rfl, hq, atI_nat hx, ?_⟩
  refine ⟨.ref u, rfl, u, C, dx, _, _, rfl, ho, TU.cl, TU.nRead, uf_read, _, rfl, l, _, _, _, rfl, rfl, hl, atI_nat hn, ?_⟩
  refine ⟨.ref b, rfl, b, _, rfl, .inr hb, _, _, rfl, rfl, _, rfl, ?_⟩
  have lm : ((v.getD p []).map V.str).length = (v.getD p []).length := List.length_map _
  refine ite2 (fun h => ?_) (fun h => ?_)
  · have h := of_decide_eq_true h
    have hlt : n.getD p 0 < (v.getD p []).length := by
      rw [lm] at h
      omega
    refine ⟨.ref b, rfl, .ref u, rfl, u, C, dx, _, _, rfl, ho, TU.cl, TU.nRead, uf_read, _, rfl, l, _, _, _, rfl, rfl, hl, atI_nat hn, ?_⟩
    refine ⟨b, _, _, _, rfl, rfl, hb, atI_nat (by rw [List.getElem?_map, List.getElem?_eq_getElem hlt]; rfl), ?_⟩
    unfold nextW at q
    rw [List.getElem?_eq_getElem hlt] at q
    exact q
  · have h : ¬ ((n.getD p 0 : Nat) : Int) < (((v.getD p []).map V.str).length : Int) := fun e => h (decide_eq_true e)
    unfold nextW at q
    rw [List.getElem?_eq_none (by rw [lm] at h; omega)] at q
    exact q
end
end Fk
set_option Elab.async false
set_option linter.all false
set_option maxRecDepth 100000
set_option maxHeartbeats 2000000
namespace Fk
open PySem PySem.Spec PyProof.Rows L2
/-! ### take, is_empty -/
section
variable {X : Cx}
def rLenB (K : PySem.W.Frag) : List V → Hp → VK → Prop := fun xs H Q => ∃ p ys, xs = [.ref p] ∧ (SqL K H p ys ∨ SqT K H p ys) ∧ Q (.int ys.length) H
theorem call_lenB {K : PySem.W.Frag} (hK : X.K = K) : CallR X (.builtin "len") (rLenB K) := by
  subst hK
  exact call_len_seq
/-- o[i] of o[i] += e -/
theorem get_list : PGet X (fun o i H Q => ∃ p xs k v, o = .ref p ∧ i = .int ((k : Nat) : Int) ∧ SqL X.K H p xs ∧ xs[k]? = some v ∧ k < 1000000 ∧ Q v H) := by
  intro pins s σ H o i ov iv Q I ro ri h
  obtain ⟨p, xs, k, v, rfl, rfl, hq, he, hk, q⟩ := h
  cases ro
  obtain ⟨t, rfl⟩ := ri
  obtain ⟨its, r, pl, hz⟩ := I.list hq
  obtain ⟨w, ew, rw'⟩ := r.get he
  have hn := line63
  refine wpAny_getItem_list pl.isList (by omega) (by omega) (x := w) (by simpa using ew) ⟨v, H, I, rw', q⟩
end
section
variable {P : Program} {w : World} {K : PySem.W.Frag} {mg : Str → Option Value} {base : Heap}
theorem natV_set {n : List Nat} {p k : Nat} : natV (n.set p k) = (natV n).set p (.int (k : Int)) := by
  unfold natV
  rw [List.map_set]
theorem ixN_nat {m k : Nat} (h : k < m) : ixN m (k : Int) = some k := by
  unfold ixN
  rw [if_pos (by omega), if_pos (by omega)]
  rfl
theorem natV_len (n : List Nat) : (natV n).length = n.length := List.length_map _
theorem ok_takeU {f C : Addr} {fd : FuncData} (F : Fun K "take" "Unread.take" s_U_take f fd) (TU : UTxt K C) (MW : Meter P w K mg base C 1 "next_word" ["self", "position"] (spWordU K C)) : FnOk P w K mg base CX0 2 f fd ["self", "position"] (spTakeU K C) := by
  refine F.ok sc_U_take (fun vs H Q E h => ?_) (fun cdv A outer st H vs Q E hr h => ?_)
  · obtain ⟨u, t, l, v, n, p, rfl, _⟩ := h
    rfl
  obtain ⟨u, t, l, v, n, p, rfl, U, hp, q⟩ := h
  refine ⟨_, (pss_cons (ps_set (i := 2) sc_U_take.nd rfl (Or.inl rfl) (pe_meth (pv 0) TU.cl MW.m MW.ok hr MW.b .nil pass0 (pa_cons (pv 1) pa_nil)))
(pss_cons (ps_augS (pe_fld (pv 0) rfl) (pv 1) get_list pe_int ip_add set_list)
(pss_one (ps_ret (pv 2))))), ?_⟩
  obtain ⟨dx, ho⟩ := U.ob
  have few := U.few
  have len := U.len
  have hn := natV_get (n := n) (p := p) (by rw [U.len]; exact hp)
  refine ⟨.ref u, rfl, u, dx, _, rfl, ho, (by kernel_rfl), _, rfl, u, t, l, v, n, p, rfl, U, hp, ?_⟩
  refine ⟨.ref u, rfl, u, C, dx, _, _, rfl, ho, TU.cl, TU.nRead, uf_read, _, rfl, l, _, p, _, rfl, rfl, .inl (.inl U.rd), hn, by omega, _, _, rfl, rfl, l, _, _, p, rfl, rfl, U.rd, ixN_nat (by rw [natV_len, len]; exact hp), ?_⟩
  refine ⟨_, rfl, ?_⟩
  rw [natV_set] at q
  exact q
theorem ok_emptyU {f C : Addr} {fd : FuncData} (F : Fun K "is_empty" "Unread.is_empty" s_U_empty f fd) (T : Bare mg) (TU : UTxt K C) : FnOk P w K mg base CX0 1 f fd ["self"] (spEmptyU K C) := by
  refine F.ok sc_U_empty (fun vs H Q E h => ?_) (fun cdv A outer st H vs Q E hr h => ?_)
  · obtain ⟨u, t, l, v, n, rfl, _⟩ := h
    rfl
  obtain ⟨u, t, l, v, n, rfl, U, q⟩ := h
  refine ⟨_, (pss_one (ps_ret (pe_cmpR (op_eqW hr.units) (pe_fld (pv 0) rfl) (pe_lc (own := [("trace", 1)]) (g := gName 1) rfl sc_U_empty.nd (pi_tup (pe_fld (pv 0) rfl)) (blkOk_by (N := sc_U_emptyN) (sc := defScope s_U_empty) (by decide +kernel)) (fun _ _ _ _ _ => pg_name (i := 1) sc_U_empty.nd rfl (Or.inl rfl)) (fun _ _ _ _ _ => pts_nil) (fun _ _ _ _ _ => (pe_callB (call_lenB (K := K) rfl) (by rfl) T.len PySem.boot_len (pa_cons (pv 1) pa_nil)))) (nomark _)))), ?_⟩
  obtain ⟨dx, ho⟩ := U.ob
  obtain ⟨xs, hq, hl, hx⟩ := U.traces
  have few := U.few
  have len := U.len
  refine ⟨.ref u, rfl, u, C, dx, _, _, rfl, ho, TU.cl, TU.nRead, uf_read, ?_⟩
  refine ⟨.ref u, rfl, u, C, dx, _, _, rfl, ho, TU.cl, TU.nTraces, uf_traces, t, rfl, ⟨_, hq⟩, fun D hD => lc_fn (walk_tup (xs := xs)) (fun i => .int (((v.getD i []).length : Nat) : Int)) (fun _ => rfl) (by omega) hD (fun H' s => same_sqT s hq) (fun i x H1 Q' hxi s1 k => ?_) (fun H1 hD1 s1 => ?_)⟩
  · obtain ⟨b, rfl, hb⟩ := hx i x hxi
    have z := k H1 (fun _ _ e => e)
    refine ⟨.ref b, rfl, b, _, rfl, .inr (same_sqT s1 hb), ?_⟩
    rw [List.length_map]
    exact z
  · have e2 : (List.range xs.length).map (fun i => V.int (((v.getD i []).length : Nat) : Int)) = natV (v.map List.length) := by
      unfold natV
      rw [hl, List.map_map]
      exact range_map fun i x hx => by
        rw [List.getD_eq_getElem?_getD, hx]
        rfl
    rw [e2] at hD1
    have nat : ∀ m : List Nat, DvAll K H1 (natV m) (m.map nD) := fun m => by
      induction m with
      | nil => exact .nil
      | cons a m ih => exact .cons (.int _) ih
    refine ⟨.list (n.map nD), .list ((v.map List.length).map nD), .lst (.inl (.inl (s1 _ _ U.rd))) (nat _), .lst (.inl (.inl hD1)) (nat _), shaped_nats _, shaped_nats _, ?_⟩
    have z := q H1 s1
    rw [← eqv_nats] at z
    exact z
end
end Fk
set_option Elab.async false
set_option linter.all false
set_option maxRecDepth 100000
set_option maxHeartbeats 2000000
namespace Fk
open PySem L2
/-! ### data without lists where an object of an own class is changed -/
theorem seqT_butI {K : PySem.W.Frag} {p a : Addr} {H H' : Hp} {xs : List V} (e : But p H H') (hp : ∃ C dx fs, H p = some (.ins C dx fs)) (h : SqT K H a xs) : SqT K H' a xs := by
  obtain ⟨C, dx, fs, hp⟩ := hp
  rcases h with (h | ⟨o, h⟩) | h
  · refine .inl (.inl (e _ _ h fun z => ?_))
    rw [z, hp] at h
    cases h
  · refine .inl (.inr ⟨o, e _ _ h fun z => ?_⟩)
    rw [z, hp] at h
    cases h
  · exact .inr h
theorem seqL_butI {K : PySem.W.Frag} {p a : Addr} {H H' : Hp} {xs : List V} (e : But p H H') (hp : ∃ C dx fs, H p = some (.ins C dx fs)) (h : SqL K H a xs) : SqL K H' a xs := by
  obtain ⟨C, dx, fs, hp⟩ := hp
  rcases h with (h | ⟨o, h⟩) | h
  · refine .inl (.inl (e _ _ h fun z => ?_))
    rw [z, hp] at h
    cases h
  · refine .inl (.inr ⟨o, e _ _ h fun z => ?_⟩)
    rw [z, hp] at h
    cases h
  · exact .inr h
mutual
theorem Dv.butI {K : PySem.W.Frag} {p : Addr} {H H' : Hp} (e : But p H H') (hp : ∃ C dx fs, H p = some (.ins C dx fs)) : ∀ {d : PyData} {v : V}, Dv K H v d → Dv K H' v d
  | _, _, .non => .non
  | _, _, .bl b => .bl b
  | _, _, .int i => .int i
  | _, _, .str x h => .str x h
  | _, _, .lst h g => .lst (seqL_butI e hp h) (DvAll.butI e hp g)
  | _, _, .tup h g => .tup (seqT_butI e hp h) (DvAll.butI e hp g)
  | _, _, .dct h => .dct (e _ _ h fun z => by
      obtain ⟨C, dx, fs, hp⟩ := hp
      rw [z, hp] at h
      cases h)
theorem DvAll.butI {K : PySem.W.Frag} {p : Addr} {H H' : Hp} (e : But p H H') (hp : ∃ C dx fs, H p = some (.ins C dx fs)) : ∀ {ds : List PyData} {vs : List V}, DvAll K H vs ds → DvAll K H' vs ds
  | _, _, .nil => .nil
  | _, _, .cons h g => .cons (Dv.butI e hp h) (DvAll.butI e hp g)
end
theorem free_but {p a : Addr} {H H' : Hp} (e : But p H H') (n : a ≠ p) (h : H' a = none) : H a = none := by
  cases q : H a with
  | none => rfl
  | some o => rw [e a o q n] at h; cases h
/-! ### Unread.__init__ -/
def spInitU (K : PySem.W.Frag) (C : Addr) : Sp := fun vs H Q _ => ∃ (u dx t : Addr) (v : List (List Str)), vs = [.ref u, .ref t] ∧ H u = some (.ins C dx []) ∧ Dv K H (.ref t) (tupD v) ∧ v.length ≤ 1000 ∧ (∀ w ∈ v, w.length ≤ 10000) ∧ (∀ w ∈ v, ∀ z ∈ w, z.length ≤ 1000000) ∧
  ∀ (l : Addr) (H' : Hp), H l = none → But u H H' → UAt K C H' u t l v (List.replicate v.length 0) → Q .non H'
section
variable {P : Program} {w : World} {K : PySem.W.Frag} {mg : Str → Option Value} {base : Heap}
theorem ok_initU {f C : Addr} {fd : FuncData} (F : Fun K "__init__" "Unread.__init__" s_U_init f fd) (T : Bare mg) (TU : UTxt K C) : FnOk P w K mg base CX0 1 f fd ["self", "traces"] (spInitU K C) := by
  refine F.ok sc_U_init (fun vs H Q E h => ?_) (fun cdv A outer st H vs Q E hr h => ?_)
  · obtain ⟨u, dx, t, v, rfl, _⟩ := h
    rfl
  obtain ⟨u, dx, t, v, rfl, hu, hd, few, short, ok, q⟩ := h
  refine ⟨_, (pss_cons (ps_fld (pv 0) (pv 1) rfl)
(pss_one (ps_fld (pv 0) (pe_op op_rep (pe_lst (pa_cons pe_int pa_nil)) (pe_callB call_len_seq (by rfl) T.len PySem.boot_len (pa_cons (pv 1) pa_nil))) rfl))), ?_⟩
  refine ⟨.ref t, rfl, .ref u, rfl, u, C, dx, [], rfl, hu, TU.cl, TU.nTraces, (by show 0 < 1000; decide), ?_⟩
  have b1 : But u H (upd H u (.ins C dx (putF "traces" (.ref t) []))) := But.upd
  have hd1 := hd.butI b1 ⟨_, _, _, hu⟩
  have hu1 : (upd H u (.ins C dx (putF "traces" (.ref t) []))) u = some (.ins C dx (putF "traces" (.ref t) [])) := upd_same
  generalize upd H u (.ins C dx (putF "traces" (.ref t) [])) = H1 at b1 hd1 hu1 ⊢
  obtain ⟨xs, _, hq, hall⟩ := hd1.tupE
  have hl := hall.len
  rw [List.length_map] at hl
  refine ⟨small (by show 1 ≤ 1000; decide), fun r hr1 => ?_⟩
  have s1 := same_new hr1 (.lst [V.int 0])
  refine ⟨.ref t, rfl, t, xs, rfl, .inr (same_sqT s1 hq), r, _, _, rfl, rfl, upd_same, by omega, by omega, ?_, fun l hl1 => ?_⟩
  · rw [sizeLine_eq]
    show 1 * _ ≤ _
    omega
  have e0 : (List.replicate (xs.length : Int).toNat [V.int 0]).flatten = natV (List.replicate v.length 0) := by
    rw [show (xs.length : Int).toNat = v.length by omega]
    unfold natV
    rw [List.map_replicate]
    generalize v.length = m
    induction m with
    | zero => rfl
    | succ m ih =>
      rw [List.replicate_succ, List.flatten_cons, ih, List.replicate_succ]
      rfl
  have s2 := same_new hl1 (.lst (List.replicate (xs.length : Int).toNat [V.int 0]).flatten)
  have s12 := Same.trans s1 s2
  have hul := s12 _ _ hu1
  have nul : u ≠ l := ne_of_none (s1 _ _ hu1) hl1
  refine ⟨.ref u, rfl, u, C, dx, _, rfl, hul, TU.cl, TU.nRead, (by show 1 < 1000; decide), ?_⟩
  have b2 : But u (upd (upd H1 r (.lst [V.int 0])) l (.lst (List.replicate (xs.length : Int).toNat [V.int 0]).flatten)) _ := But.upd (o := .ins C dx (putF "read" (.ref l) (putF "traces" (.ref t) [])))
  refine q l _ ?_ ((b1.trans (But.of_same s12)).trans b2) ⟨⟨dx, ?_⟩, ?_, (hd1.same s12).butI b2 ⟨_, _, _, hul⟩, List.length_replicate, few, short, ok⟩
  · refine free_but b1 nul.symm ?_
    cases hq1 : H1 l with
    | none => rfl
    | some o => rw [s1 _ _ hq1] at hl1; cases hl1
  · rw [upd_same]
    exact congrArg (fun f => some (HO.ins C dx f)) (by kernel_rfl)
  · rw [upd_ne nul.symm, upd_same, e0]
end
end Fk
set_option Elab.async false
set_option linter.all false
set_option maxRecDepth 100000
set_option maxHeartbeats 4000000
namespace Fk
open PySem L2
/-! ### first_position -/
def rLenS : List V → Hp → VK → Prop := fun xs H Q => ∃ z : Str, xs = [.str z] ∧ z.length ≤ 1000000 ∧ Q (.int (z.length : Nat)) H
theorem call_lenS {X : Cx} : CallR X (.builtin "len") rLenS := fun pins s σ H xs us Q I r ⟨z, e, hz, q⟩ => call_len pins s σ H xs us Q I r ⟨.str z, z.length, e, ⟨len_k hz, rfl⟩, q⟩
theorem cutV_to (xs : List V) (k : Nat) : cutV xs none (some (k : Int)) = xs.take k := by
  unfold cutV
  rw [HT.sIx_none]
  have e : HT.sIx xs.length xs.length (some (k : Int)) = min k xs.length := by
    show (if (k : Int) < 0 then ((k : Int) + (xs.length : Int)).toNat else min (k : Int).toNat xs.length) = _
    rw [if_neg (by omega)]
    omega
  rw [e, List.drop_zero, Nat.sub_zero]
  rcases Nat.le_total k xs.length with h | h
  · rw [Nat.min_eq_left h]
  · rw [Nat.min_eq_right h, List.take_of_length_le (Nat.le_refl _), List.take_of_length_le h]
theorem cutV_from (xs : List V) (k : Nat) : cutV xs (some (k : Int)) none = xs.drop k := by
  unfold cutV
  rw [HT.sIx_none]
  have e : HT.sIx xs.length 0 (some (k : Int)) = min k xs.length := by
    show (if (k : Int) < 0 then ((k : Int) + (xs.length : Int)).toNat else min (k : Int).toNat xs.length) = _
    rw [if_neg (by omega)]
    omega
  rw [e]
  rcases Nat.le_total k xs.length with h | h
  · rw [Nat.min_eq_left h]
    exact List.take_of_length_le (by rw [List.length_drop]; exact Nat.le_refl _)
  · rw [Nat.min_eq_right h, List.drop_of_length_le (Nat.le_refl _), List.drop_of_length_le h, List.take_nil]
abbrev s_U_first : Stmt := inClass (top 9) 4
abbrev sc_U_firstN : List Str := ["self", "firsts", "begun", "at", "position", "word"]
theorem sc_U_first : FnScope sc_U_firstN ["self"] (defScope s_U_first) := ⟨rfl, rfl, rfl, by decide +kernel, rfl, by decide +kernel, by decide +kernel⟩
/-- the letter is read first at q -/
structure FirstAt (W : Nat → Str) (m q : Nat) : Prop where
  lt : q < m
  one : (W q).length = 1
  up : ∀ i, i < q → W i = "above"
  dn : ∀ i, q < i → i < m → W i = "below"
def spFirstU (K : PySem.W.Frag) (C : Addr) : Sp := fun vs H Q _ => ∃ (u t l : Addr) (v : List (List Str)) (n : List Nat), vs = [.ref u] ∧ UAt K C H u t l v n ∧ (∀ w ∈ v, StrOks w) ∧
  ((∀ q, ¬ FirstAt (nextW v n) v.length q) → ∀ H', Same H H' → Q .non H') ∧
  ∀ q, FirstAt (nextW v n) v.length q → ∀ (l' : Addr) (H' : Hp), H l' = none → But u H H' → UAt K C H' u t l' v ((List.range v.length).map fun i => if i = q then 0 else 1) → Q (.int (q : Int)) H'
theorem first_filter {W : Nat → Str} {m q : Nat} (h : FirstAt W m q) : (List.range m).filter (fun i => decide ((W i).length = 1)) = [q] := by
  have l5 := five2
  have e : List.range m = List.range q ++ (q :: (List.range (m - q - 1)).map (· + (q + 1))) := by
    have := h.lt
    refine List.ext_getElem (by simp; omega) fun i h1 h2 => ?_
    rw [List.getElem_range]
    by_cases hi : i < q
    · rw [List.getElem_append_left (by simpa using hi), List.getElem_range]
    · rw [List.getElem_append_right (by simpa using hi)]
      obtain ⟨k, rfl⟩ : ∃ k, i = q + k := ⟨i - q, by omega⟩
      simp only [List.length_range, Nat.add_sub_cancel_left]
      cases k with
      | zero => rfl
      | succ k =>
        simp only [List.getElem_cons_succ, List.getElem_map, List.getElem_range]
        omega
  rw [e, List.filter_append, List.filter_cons_of_pos (by exact decide_eq_true h.one)]
  have e1 : (List.range q).filter (fun i => decide ((W i).length = 1)) = [] := by
    rw [List.filter_eq_nil_iff]
    intro i hi
    rw [h.up i (List.mem_range.mp hi), l5.2]
    decide
  have e2 : ((List.range (m - q - 1)).map (· + (q + 1))).filter (fun i => decide ((W i).length = 1)) = [] := by
    rw [List.filter_eq_nil_iff]
    intro i hi
    obtain ⟨j, hj, rfl⟩ := List.mem_map.mp hi
    have := List.mem_range.mp hj
    rw [h.dn _ (by omega) (by omega), l5.1]
    decide
  rw [e1, e2]
  rfl
theorem UAt.same {K : PySem.W.Frag} {C : Addr} {H H' : Hp} {u t l : Addr} {v : List (List Str)} {n : List Nat} (U : UAt K C H u t l v n) (s : Same H H') : UAt K C H' u t l v n :=
  ⟨U.ob.imp fun _ h => s _ _ h, s _ _ U.rd, U.tr.same s, U.len, U.few, U.short, U.ok⟩
theorem nextW_ok {v : List (List Str)} (h : ∀ w ∈ v, StrOks w) (h2 : ∀ w ∈ v, ∀ z ∈ w, z.length ≤ 1000000) (n : List Nat) (p : Nat) : PyData.strOk (nextW v n p) = true ∧ (nextW v n p).length ≤ 1000000 := by
  unfold nextW
  cases e : (v.getD p [])[n.getD p 0]? with
  | none => exact ⟨by decide +kernel, by decide +kernel⟩
  | some z =>
    have hz := List.mem_of_getElem? e
    have hw : v.getD p [] ∈ v := by
      rw [List.getD_eq_getElem?_getD] at hz ⊢
      cases e2 : v[p]? with
      | none => rw [e2] at hz; cases hz
      | some w => exact List.mem_of_getElem? e2
    exact ⟨h _ hw z hz, h2 _ hw z hz⟩
theorem take_all {W : Nat → Str} {m q : Nat} {z : Str} (h : q ≤ m) : ((List.range m).map W).take q = List.replicate q z ↔ ∀ i, i < q → W i = z := by
  rw [List.eq_replicate_iff]
  constructor
  · rintro ⟨_, a⟩ i hi
    refine a (W i) (List.mem_of_getElem? (i := i) ?_)
    rw [List.getElem?_take_of_lt hi, List.getElem?_map, List.getElem?_range (by omega)]
    rfl
  · intro a
    refine ⟨by rw [List.length_take, List.length_map, List.length_range]; omega, fun b hb => ?_⟩
    obtain ⟨i, hi, e⟩ := List.getElem_of_mem hb
    rw [List.length_take, List.length_map, List.length_range] at hi
    rw [List.getElem_take, List.getElem_map, List.getElem_range] at e
    rw [← e]
    exact a i (by omega)
theorem drop_all {W : Nat → Str} {m q : Nat} {z : Str} (h : q < m) : ((List.range m).map W).drop (q + 1) = List.replicate (m - q - 1) z ↔ ∀ i, q < i → i < m → W i = z := by
  rw [List.eq_replicate_iff]
  constructor
  · rintro ⟨_, a⟩ i h1 h2
    refine a (W i) (List.mem_of_getElem? (i := i - (q + 1)) ?_)
    rw [List.getElem?_drop, show q + 1 + (i - (q + 1)) = i by omega, List.getElem?_map, List.getElem?_range (by omega)]
    rfl
  · intro a
    refine ⟨by rw [List.length_drop, List.length_map, List.length_range]; omega, fun b hb => ?_⟩
    obtain ⟨i, hi, e⟩ := List.getElem_of_mem hb
    rw [List.length_drop, List.length_map, List.length_range] at hi
    rw [List.getElem_drop, List.getElem_map, List.getElem_range] at e
    rw [← e]
    exact a _ (by omega) (by omega)
theorem rep_strs (k : Nat) (z : Str) : (List.replicate k [V.str z]).flatten = (List.replicate k z).map V.str := by
  induction k with
  | zero => rfl
  | succ k ih =>
    rw [List.replicate_succ, List.flatten_cons, ih, List.replicate_succ]
    rfl
section
variable {P : Program} {w : World} {K : PySem.W.Frag} {mg : Str → Option Value} {base : Heap}
theorem ok_firstU {f C : Addr} {fd : FuncData} (F : Fun K "first_position" "Unread.first_position" s_U_first f fd) (T : Bare mg) (CK : Con K mg) (TU : UTxt K C) (MW : Meter P w K mg base C 1 "next_word" ["self", "position"] (spWordU K C)) : FnOk P w K mg base CX0 2 f fd ["self"] (spFirstU K C) := by
  refine F.ok sc_U_first (fun vs H Q E h => ?_) (fun cdv A outer st H vs Q E hr h => ?_)
  · obtain ⟨u, t, l, v, n, rfl, _⟩ := h
    rfl
  obtain ⟨u, t, l, v, n, rfl, U, hok, q0, q1⟩ := h
  refine ⟨_, (pss_cons (ps_setLc (i := 1) (own := [("position", 4)]) (g := gName 4) rfl sc_U_first.nd rfl rfl (sw_true rfl rfl rfl (by decide +kernel)) (pi_range1 (by rfl) T.range (pa_cons (pe_callB call_len_seq (by rfl) T.len PySem.boot_len (pa_cons (pe_fld (pv 0) rfl) pa_nil)) pa_nil)) (blkOk_by (N := sc_U_firstN) (sc := defScope s_U_first) (by decide +kernel)) (fun _ _ _ _ _ => pg_name (i := 4) sc_U_first.nd rfl (Or.inl rfl)) (fun _ _ _ _ _ => pts_nil) (fun _ _ _ _ _ => (pe_meth (pv 0) TU.cl MW.m MW.ok hr MW.b .nil pass0 (pa_cons (pv 4) pa_nil))))
(pss_cons (ps_setLc (i := 2) (own := [("position", 4), ("word", 5)]) (g := gTup K 2 (gCons (gName 4) (gCons (gName 5) gNil))) rfl sc_U_first.nd rfl rfl (sw_true rfl rfl rfl (by decide +kernel)) (pi_enum (by rfl) CK.enum (pa_cons (pv 1) pa_nil)) (blkOk_by (N := sc_U_firstN) (sc := defScope s_U_first) (by decide +kernel)) (fun _ _ _ _ _ => pg_tup (by rfl) (pgs_cons (pg_name (i := 4) sc_U_first.nd rfl (Or.inl rfl)) (pgs_cons (pg_name (i := 5) sc_U_first.nd rfl (Or.inl rfl)) pgs_nil))) (fun _ _ _ _ _ => (pts_one (pt_cmpR op_eq (pe_callB call_lenS (by rfl) T.len PySem.boot_len (pa_cons (pv 5) pa_nil)) pe_int (nomark _)))) (fun _ _ _ _ _ => (pv 4)))
(pss_cons (ps_if (pt_cmpR op_ne (pe_callB call_len_seq (by rfl) T.len PySem.boot_len (pa_cons (pv 2) pa_nil)) pe_int (nomark _))
(pss_one (ps_ret pe_non))
pss_nil)
(pss_cons (ps_set (i := 3) sc_U_first.nd rfl (Or.inr rfl) (pe_ix ix_list (pv 2) pe_int (fun _ _ => rfl)))
(pss_cons (ps_if (PW.pt (pw_or (pt_cmpR (op_neW hr.units) (pe_slice sl_list (pv 1) po_none (po_some (pv 3))) (pe_op op_rep (pe_lst (pa_cons pe_str pa_nil)) (pv 3)) (nomark _)) (pw_or1 (pt_cmpR (op_neW hr.units) (pe_slice sl_list (pv 1) (po_some (pe_op op_add (pv 3) pe_int)) po_none) (pe_op op_rep (pe_lst (pa_cons pe_str pa_nil)) (pe_op op_sub (pe_op op_sub (pe_callB call_len_seq (by rfl) T.len PySem.boot_len (pa_cons (pv 1) pa_nil)) (pv 3)) pe_int)) (nomark _)))))
(pss_one (ps_ret pe_non))
pss_nil)
(pss_cons (ps_fld (pv 0) (pe_lc (own := [("position", 4)]) (g := gName 4) rfl sc_U_first.nd (pi_range1 (by rfl) T.range (pa_cons (pe_callB call_len_seq (by rfl) T.len PySem.boot_len (pa_cons (pv 1) pa_nil)) pa_nil)) (blkOk_by (N := sc_U_firstN) (sc := defScope s_U_first) (by decide +kernel)) (fun _ _ _ _ _ => pg_name (i := 4) sc_U_first.nd rfl (Or.inl rfl)) (fun _ _ _ _ _ => pts_nil) (fun _ _ _ _ _ => (pe_ifExp (pt_cmpR op_eq (pv 4) (pv 3) (nomark _)) pe_int pe_int))) rfl)
(pss_one (ps_ret (pv 3))))))))), ?_⟩
  obtain ⟨dx, ho⟩ := U.ob
  obtain ⟨xs, hq, hl, hx⟩ := U.traces
  have few := U.few
  have len := U.len
  have wok := nextW_ok hok U.ok n
  generalize hW : nextW v n = W at q0 q1 wok
  refine ⟨.ref u, rfl, u, C, dx, _, _, rfl, ho, TU.cl, TU.nTraces, uf_traces, t, xs, rfl, .inr hq, (xs.length : Int), rfl, by omega, by omega, fun Fa hF => lc_range (lo := 0) (n := xs.length) (fun i H' => H' = upd H Fa (.lst ((List.range i).map fun j => V.str (W j)))) rfl ?_ ?_⟩
  · rintro j H1 hj rfl
    refine ⟨rfl, ?_⟩
    simp only [tYes, ↓reduceIte]
    have s1 := same_new hF (.lst ((List.range j).map fun j => V.str (W j)))
    refine ⟨.ref u, rfl, u, dx, _, rfl, s1 _ _ ho, (by kernel_rfl), _, rfl, u, t, l, v, n, j, (by show [V.ref u, V.int (0 + (j : Int))] = _; rw [Int.zero_add]), U.same s1, by omega, ?_⟩
    refine ⟨_, upd_same, ?_, ?_⟩
    · rw [List.length_map, List.length_range]
      exact Nat.lt_of_lt_of_le (by omega : j < 1001) (by rw [sizeLine_eq]; decide)
    · rw [upd_upd, List.range_succ, List.map_append, hW]
      rfl
  rintro H1 rfl
  rw [hl]
  have s1 := same_new hF (.lst ((List.range v.length).map fun j => V.str (W j)))
  have f1 : (upd H Fa (.lst ((List.range v.length).map fun j => V.str (W j)))) Fa = some (.lst ((List.range v.length).map fun j => V.str (W j))) := upd_same
  generalize upd H Fa (.lst ((List.range v.length).map fun j => V.str (W j))) = H1 at s1 f1 ⊢
  have eF : ((List.range v.length).map fun j => V.str (W j)) = ((List.range v.length).map W).map V.str := by rw [List.map_map]; rfl
  have lF : ((List.range v.length).map fun j => V.str (W j)).length = v.length := by rw [List.length_map, List.length_range]
  refine ⟨.ref Fa, rfl, Fa, _, rfl, .inl (.inl f1), fun B hB => lc_it (walk_enum (xs := (List.range v.length).map fun j => V.str (W j))) (fun i H' => H' B = some (.lst (natV ((List.range i).filter fun i => decide ((W i).length = 1)))) ∧ Same H1 H') ⟨upd_same, same_new hB _⟩ (fun i H' hi pv => .inl (.inl (pv.2 _ _ f1))) (fun i x H' H2 hi pv y => ?_) (fun H2 pv => ?_)⟩
  · obtain ⟨g1, g2⟩ := pv
    obtain ⟨Tt, _, zv, rfl, hT, rfl, ⟨⟩, hz⟩ := y
    rw [lF] at hi
    have hz : ((List.range v.length).map fun j => V.str (W j))[i]? = some zv := hz
    rw [List.getElem?_map, List.getElem?_range hi] at hz
    have hz : V.str (W i) = zv := by injection hz
    subst hz
    have sT := same_new hT (.tup [.int ((i : Nat) : Int), .str (W i)])
    refine ⟨Tt, _, rfl, .inl (.inl upd_same), rfl, _, _, rfl, _, _, rfl, rfl, rfl, ?_⟩
    have g3 := sT _ _ g1
    have g4 := Same.trans g2 sT
    have ef : (List.range (i + 1)).filter (fun i => decide ((W i).length = 1)) = (List.range i).filter (fun i => decide ((W i).length = 1)) ++ (if (W i).length = 1 then [i] else []) := by
      rw [List.range_succ, List.filter_append]
      by_cases h1 : (W i).length = 1
      · rw [if_pos h1, List.filter_cons_of_pos (by exact decide_eq_true h1)]
        rfl
      · rw [if_neg h1, List.filter_cons_of_neg (by simpa using h1)]
        rfl
    refine ⟨_, rfl, W i, rfl, (wok i).2, rfl, _, rfl, ?_⟩
    refine ite2 (fun h => ?_) (fun h => ?_)
    · have h1 : (W i).length = 1 := by
        have := of_decide_eq_true h
        injection this with this
        omega
      rw [if_pos h1] at ef
      refine ⟨_, rfl, _, g3, ?_, ?_, fun b o hbo => ?_⟩
      · rw [natV_len]
        have := List.length_filter_le (fun i => decide ((W i).length = 1)) (List.range i)
        rw [List.length_range] at this
        exact Nat.lt_of_lt_of_le (by omega : _ < 1001) (by rw [sizeLine_eq]; decide)
      · rw [upd_same, ef]
        unfold natV
        rw [List.map_append]
        rfl
      · rw [upd_ne (ne_of_none hbo hB)]
        exact g4 _ _ hbo
    · have h1 : ¬ (W i).length = 1 := fun e => h (decide_eq_true (by rw [e]; rfl))
      rw [if_neg h1, List.append_nil] at ef
      refine ⟨?_, g4⟩
      rw [ef]
      exact g3
  obtain ⟨g1, g2⟩ := pv
  rw [lF] at g1
  generalize hjs : (List.range v.length).filter (fun i => decide ((W i).length = 1)) = js at g1
  have s2 := Same.trans s1 g2
  have jl : js.length ≤ 1000 := by
    rw [← hjs]
    have := List.length_filter_le (fun i => decide ((W i).length = 1)) (List.range v.length)
    rw [List.length_range] at this
    omega
  refine ⟨.ref B, rfl, B, _, rfl, .inl (.inl (.inl g1)), rfl, _, rfl, ?_⟩
  rw [show decide (V.int ((natV js).length : Nat) = V.int 1) = decide (js.length = 1) from decide_eq_decide.mpr (by rw [natV_len]; exact ⟨fun e => (by injection e with e; omega), fun e => by rw [e]; rfl⟩)]
  by_cases hone : js.length = 1
  rotate_left
  · rw [decide_eq_false hone]
    refine iteT ?_
    refine q0 (fun q hq => hone ?_) H2 s2
    rw [← hjs, first_filter hq]
    rfl
  rw [decide_eq_true hone]
  refine iteF ?_
  obtain ⟨q, rfl⟩ : ∃ q, js = [q] := by
    match js, hone with
    | [q], _ => exact ⟨q, rfl⟩
  have hqm : q ∈ (List.range v.length).filter (fun i => decide ((W i).length = 1)) := by rw [hjs]; exact List.mem_singleton.mpr rfl
  obtain ⟨hq1, hq2⟩ := List.mem_filter.mp hqm
  have hq1 := List.mem_range.mp hq1
  have hq2 : (W q).length = 1 := of_decide_eq_true hq2
  have only : ∀ q', FirstAt W v.length q' → q' = q := fun q' h' => by
    have := first_filter h'
    rw [hjs] at this
    injection this with this
    exact this.symm
  refine ⟨.ref B, rfl, B, _, 0, _, rfl, rfl, .inl (.inl g1), rfl, ?_⟩
  have f2 := g2 _ _ f1
  -- a slice beside so many times a word
  have allW : ∀ zs : List Str, (∀ z ∈ zs, ∃ i, z = W i) → StrOks zs ∧ ∀ z ∈ zs, z.length ≤ 1000000 := fun zs h => ⟨fun z hz => by
    obtain ⟨i, rfl⟩ := h z hz
    exact (wok i).1, fun z hz => by
    obtain ⟨i, rfl⟩ := h z hz
    exact (wok i).2⟩
  have repOk : ∀ (k : Nat) (z : Str), PyData.strOk z = true → z.length ≤ 1000000 → StrOks (List.replicate k z) ∧ ∀ x ∈ List.replicate k z, x.length ≤ 1000000 := fun k z h1 h2 => ⟨fun x hx => by rw [(List.mem_replicate.mp hx).2]; exact h1, fun x hx => by rw [(List.mem_replicate.mp hx).2]; exact h2⟩
  have mapW : ∀ z ∈ (List.range v.length).map W, ∃ i, z = W i := fun z hz => by
    obtain ⟨i, _, rfl⟩ := List.mem_map.mp hz
    exact ⟨i, rfl⟩
  have ab : PyData.strOk "above" = true ∧ ("above" : Str).length ≤ 1000000 := by decide +kernel
  have be : PyData.strOk "below" = true ∧ ("below" : Str).length ≤ 1000000 := by decide +kernel
  refine ⟨.ref Fa, rfl, _, rfl, _, rfl, Fa, _, rfl, .inl (.inl f2), fun r1 hr1 => ⟨small (by show 1 ≤ 1000; decide), fun r2 hr2 => ?_⟩⟩
  refine ⟨_, rfl, r2, _, _, rfl, rfl, upd_same, by omega, by omega, (by rw [sizeLine_eq]; show 1 * _ ≤ _; omega), fun r3 hr3 => ?_⟩
  have eA : cutV ((List.range v.length).map fun j => V.str (W j)) none (some (q : Int)) = (((List.range v.length).map W).take q).map V.str := by
    rw [cutV_to, eF, List.map_take]
  have eA2 : (List.replicate (q : Int).toNat [V.str "above"]).flatten = (List.replicate q ("above" : Str)).map V.str := rep_strs q "above"
  have t1 := same_new hr1 (.lst (cutV ((List.range v.length).map fun j => V.str (W j)) none (some (q : Int))))
  have t2 := same_new hr2 (.lst [V.str "above"])
  have t3 := same_new hr3 (.lst (List.replicate (q : Int).toNat [V.str "above"]).flatten)
  have k1 := (Same.trans t2 t3) _ _ (upd_same (H := H2) (a := r1) (o := .lst (cutV ((List.range v.length).map fun j => V.str (W j)) none (some (q : Int)))))
  have k1 := k1.trans (by rw [eA] : _ = some (HO.lst ((((List.range v.length).map W).take q).map V.str)))
  have k3 := (upd_same (H := upd (upd H2 r1 (.lst (cutV ((List.range v.length).map fun j => V.str (W j)) none (some (q : Int))))) r2 (.lst [V.str "above"])) (a := r3) (o := .lst (List.replicate (q : Int).toNat [V.str "above"]).flatten)).trans (by rw [eA2] : _ = some (HO.lst ((List.replicate q ("above" : Str)).map V.str)))
  have s23 := Same.trans t1 (Same.trans t2 t3)
  generalize upd (upd (upd H2 r1 (.lst (cutV ((List.range v.length).map fun j => V.str (W j)) none (some (q : Int))))) r2 (.lst [V.str "above"])) r3 (.lst (List.replicate (q : Int).toNat [V.str "above"]).flatten) = H3 at k1 k3 s23 ⊢
  have oA := allW (((List.range v.length).map W).take q) fun z hz => mapW z (List.mem_of_mem_take hz)
  have oR := repOk q "above" ab.1 ab.2
  refine ⟨.list ((((List.range v.length).map W).take q).map .str), .list ((List.replicate q ("above" : Str)).map .str), .lst (.inl (.inl k1)) (dv_strs oA.2), .lst (.inl (.inl k3)) (dv_strs oR.2), (shaped_strs oA.1).2, (shaped_strs oR.1).2, _, rfl, ?_⟩
  rw [show PyData.eqv (.list ((((List.range v.length).map W).take q).map .str)) (.list ((List.replicate q ("above" : Str)).map .str)) = decide (((List.range v.length).map W).take q = List.replicate q ("above" : Str)) from eqv_strs _ _]
  have s3 := Same.trans s2 s23
  by_cases hA : ((List.range v.length).map W).take q = List.replicate q ("above" : Str)
  rotate_left
  · rw [decide_eq_false hA]
    refine iteT ?_
    exact q0 (fun q' h' => hA (by
      have := only q' h'
      subst this
      exact (take_all (by omega)).mpr h'.up)) H3 s3
  rw [decide_eq_true hA]
  refine iteF ?_
  have hup := (take_all (by omega)).mp hA
  have f3 := s23 _ _ f2
  refine ⟨.ref Fa, rfl, _, rfl, q, 1, rfl, rfl, _, rfl, Fa, _, rfl, .inl (.inl f3), fun r4 hr4 => ⟨small (by show 1 ≤ 1000; decide), fun r5 hr5 => ?_⟩⟩
  have t4 := same_new hr4 (.lst (cutV ((List.range v.length).map fun j => V.str (W j)) (some ((q : Int) + 1)) none))
  have t5 := same_new hr5 (.lst [V.str "below"])
  have f5 := (Same.trans t4 t5) _ _ f3
  refine ⟨.ref Fa, rfl, Fa, _, rfl, .inl (.inl (.inl f5)), _, rfl, _, _, rfl, rfl, _, _, rfl, rfl, ?_⟩
  have lv : (((List.range v.length).map fun j => V.str (W j)).length : Int) = (v.length : Int) := by rw [lF]
  have ek : ((((List.range v.length).map fun j => V.str (W j)).length : Int) - (q : Int) - 1) = ((v.length - q - 1 : Nat) : Int) := by
    rw [lv]
    omega
  refine ⟨r5, ((v.length - q - 1 : Nat) : Int), _, rfl, congrArg V.int ek, upd_same, by omega, by omega, (by rw [sizeLine_eq]; show 1 * _ ≤ _; omega), fun r6 hr6 => ?_⟩
  have eB : cutV ((List.range v.length).map fun j => V.str (W j)) (some ((q : Int) + 1)) none = (((List.range v.length).map W).drop (q + 1)).map V.str := by
    rw [show ((q : Int) + 1) = ((q + 1 : Nat) : Int) by omega, cutV_from, eF, List.map_drop]
  have eB2 : (List.replicate ((v.length - q - 1 : Nat) : Int).toNat [V.str "below"]).flatten = (List.replicate (v.length - q - 1) ("below" : Str)).map V.str := rep_strs _ "below"
  have t6 := same_new hr6 (.lst (List.replicate ((v.length - q - 1 : Nat) : Int).toNat [V.str "below"]).flatten)
  have k4 := (Same.trans t5 t6) _ _ (upd_same (H := H3) (a := r4) (o := .lst (cutV ((List.range v.length).map fun j => V.str (W j)) (some ((q : Int) + 1)) none)))
  have k4 := k4.trans (by rw [eB] : _ = some (HO.lst ((((List.range v.length).map W).drop (q + 1)).map V.str)))
  have k6 := (upd_same (H := upd (upd H3 r4 (.lst (cutV ((List.range v.length).map fun j => V.str (W j)) (some ((q : Int) + 1)) none))) r5 (.lst [V.str "below"])) (a := r6) (o := .lst (List.replicate ((v.length - q - 1 : Nat) : Int).toNat [V.str "below"]).flatten)).trans (by rw [eB2] : _ = some (HO.lst ((List.replicate (v.length - q - 1) ("below" : Str)).map V.str)))
  have s34 := Same.trans t4 (Same.trans t5 t6)
  generalize upd (upd (upd H3 r4 (.lst (cutV ((List.range v.length).map fun j => V.str (W j)) (some ((q : Int) + 1)) none))) r5 (.lst [V.str "below"])) r6 (.lst (List.replicate ((v.length - q - 1 : Nat) : Int).toNat [V.str "below"]).flatten) = H4 at k4 k6 s34 ⊢
  have oB := allW (((List.range v.length).map W).drop (q + 1)) fun z hz => mapW z (List.mem_of_mem_drop hz)
  have oS := repOk (v.length - q - 1) "below" be.1 be.2
  refine ⟨.list ((((List.range v.length).map W).drop (q + 1)).map .str), .list ((List.replicate (v.length - q - 1) ("below" : Str)).map .str), .lst (.inl (.inl k4)) (dv_strs oB.2), .lst (.inl (.inl k6)) (dv_strs oS.2), (shaped_strs oB.1).2, (shaped_strs oS.1).2, _, rfl, ?_⟩
  rw [show PyData.eqv (.list ((((List.range v.length).map W).drop (q + 1)).map .str)) (.list ((List.replicate (v.length - q - 1) ("below" : Str)).map .str)) = decide (((List.range v.length).map W).drop (q + 1) = List.replicate (v.length - q - 1) ("below" : Str)) from eqv_strs _ _]
  have s4 := Same.trans s3 s34
  by_cases hB : ((List.range v.length).map W).drop (q + 1) = List.replicate (v.length - q - 1) ("below" : Str)
  rotate_left
  · rw [decide_eq_false hB]
    refine iteT ?_
    exact q0 (fun q' h' => hB (by
      have := only q' h'
      subst this
      exact (drop_all (by omega)).mpr h'.dn)) H4 s4
  rw [decide_eq_true hB]
  refine iteF ?_
  have hdn := (drop_all (by omega)).mp hB
  have f4 := s34 _ _ f3
  have here : FirstAt W v.length q := ⟨hq1, hq2, hup, hdn⟩
  refine ⟨.ref Fa, rfl, Fa, _, rfl, .inl (.inl (.inl f4)), (((List.range v.length).map fun j => V.str (W j)).length : Int), rfl, by omega, by omega, fun R hR => lc_range (lo := 0) (n := ((List.range v.length).map fun j => V.str (W j)).length) (fun i H' => H' = upd H4 R (.lst (natV ((List.range i).map fun i => if i = q then 0 else 1)))) rfl ?_ ?_⟩
  · rintro j H5 hj rfl
    refine ⟨rfl, ?_⟩
    simp only [tYes, ↓reduceIte]
    have fin : ∀ k : Nat, (if j = q then 0 else 1) = k → ∃ acc, (upd H4 R (.lst (natV ((List.range j).map fun i => if i = q then 0 else 1)))) R = some (.lst acc) ∧ acc.length < sizeLine ∧ upd (upd H4 R (.lst (natV ((List.range j).map fun i => if i = q then 0 else 1)))) R (.lst (acc ++ [V.int (k : Int)])) = upd H4 R (.lst (natV ((List.range (j + 1)).map fun i => if i = q then 0 else 1))) := fun k ek => by
      refine ⟨_, upd_same, ?_, ?_⟩
      · rw [natV_len, List.length_map, List.length_range]
        rw [lF] at hj
        exact Nat.lt_of_lt_of_le (by omega : j < 1001) (by rw [sizeLine_eq]; decide)
      · rw [upd_upd, List.range_succ, List.map_append]
        unfold natV
        rw [List.map_append, ← ek]
        rfl
    refine ⟨_, rfl, _, rfl, rfl, _, rfl, ?_⟩
    rw [show decide (V.int (0 + (j : Int)) = V.int (q : Int)) = decide (j = q) by rw [Int.zero_add]; exact dec_nat j q]
    by_cases hjq : j = q
    · rw [decide_eq_true hjq]
      exact iteT (fin 0 (if_pos hjq))
    · rw [decide_eq_false hjq]
      exact iteF (fin 1 (if_neg hjq))
  rintro H5 rfl
  rw [lF]
  have t7 := same_new hR (.lst (natV ((List.range v.length).map fun i => if i = q then 0 else 1)))
  have s5 := Same.trans s4 t7
  have hu5 := s5 _ _ ho
  have nuR : u ≠ R := ne_of_none (s4 _ _ ho) hR
  refine ⟨.ref u, rfl, u, C, dx, _, rfl, hu5, TU.cl, TU.nRead, (by show 2 < 1000; decide), ?_⟩
  rw [put_read]
  have b5 : But u (upd H4 R (.lst (natV ((List.range v.length).map fun i => if i = q then 0 else 1)))) _ := But.upd (o := .ins C dx (uf t R))
  refine ⟨_, rfl, ?_⟩
  refine q1 q here R _ ?_ ((But.of_same s5).trans b5) ⟨⟨dx, upd_same⟩, ?_, (U.tr.same s5).butI b5 ⟨_, _, _, hu5⟩, by rw [List.length_map, List.length_range], few, U.short, U.ok⟩
  · cases hq1 : H R with
    | none => rfl
    | some o => rw [s4 _ _ hq1] at hR; cases hR
  · rw [upd_ne nuR.symm, upd_same]
end
end Fk
set_option Elab.async false
set_option linter.all false
set_option maxRecDepth 100000
set_option maxHeartbeats 4000000
namespace Fk
open PySem L2
/-! ### next_position -/
abbrev s_U_next : Stmt := inClass (top 9) 5
abbrev sc_U_nextN : List Str := ["self", "position", "word", "move", "at", "between"]
theorem sc_U_next : FnScope sc_U_nextN ["self", "position"] (defScope s_U_next) := ⟨rfl, rfl, rfl, by decide +kernel, rfl, by decide +kernel, by decide +kernel⟩
/-- the next letter is read at q, behind one at p -/
inductive Step (W : Nat → Str) (m p : Nat) : Nat → Prop
  | here : (W p).length = 1 → Step W m p p
  | up {q : Nat} : p < q → q < m → (∀ r, p ≤ r → r < q → W r = "above") → (W q).length = 1 → Step W m p q
  | dn {q : Nat} : q < p → (∀ r, r ≤ p → q < r → W r = "below") → (W q).length = 1 → Step W m p q
/-- where a word is read on the way -/
def Btw (p q r : Nat) : Prop := (p ≤ r ∧ r < q) ∨ (q < r ∧ r ≤ p)
instance (p q r : Nat) : Decidable (Btw p q r) := by unfold Btw; infer_instance
def spNextU (K : PySem.W.Frag) (C : Addr) : Sp := fun vs H Q _ => ∃ (u t l : Addr) (v : List (List Str)) (n : List Nat) (p : Nat), vs = [.ref u, .int (p : Int)] ∧ UAt K C H u t l v n ∧ p < v.length ∧
  (∀ i, nextW v n i = "" ∨ nextW v n i = "above" ∨ nextW v n i = "below" ∨ (nextW v n i).length = 1) ∧
  ((∀ q, ¬ Step (nextW v n) v.length p q) → Q .non H) ∧
  ∀ q, Step (nextW v n) v.length p q → ∀ (n' : List Nat) (H' : Hp), But l H H' → UAt K C H' u t l v n' → (∀ r, n'.getD r 0 = n.getD r 0 + (if Btw p q r then 1 else 0)) → Q (.int (q : Int)) H'
theorem nl_tup (v : List (List Str)) : noList (tupD v) = true := by
  unfold tupD
  simp only [noList]
  refine nl_all fun d hd => ?_
  obtain ⟨t, _, rfl⟩ := List.mem_map.mp hd
  simp only [noList]
  exact nl_strs t
theorem UAt.put {K : PySem.W.Frag} {C : Addr} {H : Hp} {u t l : Addr} {v : List (List Str)} {n n' : List Nat} (U : UAt K C H u t l v n) (h : n'.length = v.length) : UAt K C (upd H l (.lst (natV n'))) u t l v n' := by
  obtain ⟨dx, ho⟩ := U.ob
  have ne : u ≠ l := fun e => by
    rw [e, U.rd] at ho
    cases ho
  exact ⟨⟨dx, by rw [upd_ne ne]; exact ho⟩, upd_same, Dv.but But.upd ⟨_, U.rd⟩ (nl_tup v) U.tr, h, U.few, U.short, U.ok⟩
theorem getD_set (n : List Nat) (p k r : Nat) (h : p < n.length) : (n.set p k).getD r 0 = if r = p then k else n.getD r 0 := by
  rw [List.getD_eq_getElem?_getD, List.getD_eq_getElem?_getD, List.getElem?_set]
  by_cases e : p = r
  · subst e
    rw [if_pos rfl, if_pos h, if_pos rfl]
    rfl
  · rw [if_neg e, if_neg fun z => e z.symm]
/-- going on while the word is the same -/
def tGo (K : PySem.W.Frag) (C : Addr) : TS := fun D σ H => ∃ (u t l : Addr) (v : List (List Str)) (n : List Nat) (p : Nat) (mv : Int) (w0 : Str) (x5 : Option V), σ = [some (.ref u), some (.int (p : Int)), some (.str w0), some (.int mv), some (.int (p : Int)), x5] ∧ UAt K C H u t l v n ∧ p < v.length ∧ (mv = 1 ∨ mv = -1) ∧
  ∀ at_ : Int, -1 ≤ at_ → at_ ≤ v.length → (mv = 1 → (p : Int) ≤ at_ ∧ ∀ r : Nat, p ≤ r → (r : Int) < at_ → nextW v n r = w0) → (mv = -1 → at_ ≤ (p : Int) ∧ ∀ r : Nat, r ≤ p → at_ < (r : Int) → nextW v n r = w0) →
    (0 ≤ at_ → at_ < (v.length : Int) → nextW v n at_.toNat ≠ w0) → D.nx [some (.ref u), some (.int (p : Int)), some (.str w0), some (.int mv), some (.int at_), x5] H
/-- which way to go -/
def tMove : TS := fun D σ H => ∃ (x0 x1 : Option V) (w0 : Str), σ = [x0, x1, some (.str w0), none, none, none] ∧ (w0 = "above" ∨ w0 = "below") ∧
  ∀ mv : Int, ((mv = 1 ∧ w0 = "above") ∨ (mv = -1 ∧ w0 = "below")) → D.nx [x0, x1, some (.str w0), some (.int mv), none, none] H
theorem RgC.one {i j : Int} (ha : -(2 ^ 62) ≤ i) (ha' : i < 2 ^ 62) (hb : -(2 ^ 62) ≤ j) (hb' : j < 2 ^ 62) : RgC i j 1 (j - i).toNat :=
  ⟨by decide, by decide, PySem.small_one ha ha' hb hb', by rw [PySem.rangeSize_one]; split <;> omega⟩
section
variable {P : Program} {w : World} {K : PySem.W.Frag} {mg : Str → Option Value} {base : Heap}
theorem ok_nextU {f C : Addr} {fd : FuncData} (F : Fun K "next_position" "Unread.next_position" s_U_next f fd) (T : Bare mg) (TU : UTxt K C) (MW : Meter P w K mg base C 1 "next_word" ["self", "position"] (spWordU K C)) (MT : Meter P w K mg base C 2 "take" ["self", "position"] (spTakeU K C)) : FnOk P w K mg base CX0 3 f fd ["self", "position"] (spNextU K C) := by
  refine F.ok sc_U_next (fun vs H Q E h => ?_) (fun cdv A outer st H vs Q E hr h => ?_)
  · obtain ⟨u, t, l, v, n, p, rfl, _⟩ := h
    rfl
  obtain ⟨u, t, l, v, n, p, rfl, U, hp, kinds, q0, q1⟩ := h
  refine ⟨_, (pss_cons (ps_set (i := 2) sc_U_next.nd rfl (Or.inl rfl) (pe_meth (pv 0) TU.cl MW.m MW.ok (hr.mono (by decide)) MW.b .nil pass0 (pa_cons (pv 1) pa_nil)))
(pss_cons (ps_if (pt_cmpR op_lt (pe_callB call_lenS (by rfl) T.len PySem.boot_len (pa_cons (pv 2) pa_nil)) pe_int (nomark _))
(pss_one (ps_ret (pe_ifExp (pt_truth (pv 2) (by intro _; rfl)) (pv 1) pe_non)))
pss_nil)
(pss_cons (ps_weak (t' := tMove) (ps_set (i := 3) sc_U_next.nd rfl (Or.inl rfl) (pe_ifExp (pt_cmpR op_eq (pv 2) pe_str (nomark _)) pe_int (pe_un un_neg pe_int))) (fun D σ H h => by
    obtain ⟨x0, x1, w0, rfl, hw, q⟩ := h
    refine ⟨_, rfl, rfl, _, rfl, ?_⟩
    by_cases e : w0 = "above"
    · rw [e, decide_eq_true (rfl : V.str "above" = V.str "above")]
      refine iteT ?_
      have z := q 1 (.inl ⟨rfl, e⟩)
      rw [e] at z
      exact z
    · rw [decide_eq_false (fun z : V.str w0 = V.str "above" => e (by injection z))]
      exact iteF ⟨1, rfl, q (-1) (.inr ⟨rfl, hw.resolve_left e⟩)⟩))
(pss_cons (ps_set (i := 4) sc_U_next.nd rfl (Or.inl rfl) (pv 1))
(pss_cons (ps_weak (t' := tGo K C) (ps_while PassesOwn.never (PW.pt (pw_and (pt_chain op_le op_lt pe_int (pv 4) (pe_callB call_len_seq (by rfl) T.len PySem.boot_len (pa_cons (pe_fld (pv 0) rfl) pa_nil))) (pw_and1 (pt_cmpR op_eq (pe_meth (pv 0) TU.cl MW.m MW.ok (hr.mono (by decide)) MW.b .nil pass0 (pa_cons (pv 4) pa_nil)) (pv 2) (nomark _)))))
(pss_one (ps_aug (i := 4) sc_U_next.nd rfl (Or.inl rfl) (pv 3) ip_add))) (fun D σ H h => by
    obtain ⟨u, t, l, v, n, p, mv, w0, x5, rfl, U, hp, hmv, fin⟩ := h
    obtain ⟨dx, ho⟩ := U.ob
    obtain ⟨xs, hq, hl, hx⟩ := U.traces
    refine ⟨fun m σ H' => H' = H ∧ ∃ at_ : Int, σ = [some (.ref u), some (.int (p : Int)), some (.str w0), some (.int mv), some (.int at_), x5] ∧ -1 ≤ at_ ∧ at_ ≤ v.length ∧ (mv = 1 → (p : Int) ≤ at_ ∧ ∀ r : Nat, p ≤ r → (r : Int) < at_ → nextW v n r = w0) ∧ (mv = -1 → at_ ≤ (p : Int) ∧ ∀ r : Nat, r ≤ p → at_ < (r : Int) → nextW v n r = w0) ∧ m = (if mv = 1 then ((v.length : Int) - at_).toNat else (at_ + 1).toNat), ⟨_, rfl, p, rfl, by omega, by omega, fun _ => ⟨by omega, fun r h1 h2 => by omega⟩, fun _ => ⟨by omega, fun r h1 h2 => by omega⟩, rfl⟩, ?_⟩
    rintro m σ H' ⟨rfl, at_, rfl, b1, b2, c1, c2, hm⟩
    refine ⟨_, rfl, _, _, rfl, rfl, _, rfl, ?_⟩
    refine ite2 (fun h => ?_) (fun h => ?_)
    rotate_left
    · have h : ¬ (0 ≤ at_) := fun z => h (decide_eq_true z)
      refine ⟨_, rfl, iteF (iteF ?_)⟩
      exact fin at_ b1 b2 c1 c2 fun z => absurd z h
    have h0 : 0 ≤ at_ := of_decide_eq_true h
    refine ⟨.ref u, rfl, u, C, dx, _, _, rfl, ho, TU.cl, TU.nTraces, uf_traces, t, xs, rfl, .inr hq, _, _, rfl, rfl, _, rfl, ?_⟩
    refine ite2 (fun h => ?_) (fun h => ?_)
    rotate_left
    · have h : ¬ (at_ < (xs.length : Int)) := fun z => h (decide_eq_true z)
      refine iteF ?_
      exact fin at_ b1 b2 c1 c2 fun _ z => by omega
    have h1 : at_ < (xs.length : Int) := of_decide_eq_true h
    obtain ⟨k, rfl⟩ : ∃ k : Nat, at_ = (k : Int) := ⟨at_.toNat, by omega⟩
    refine ⟨.ref u, rfl, u, dx, _, rfl, ho, (by kernel_rfl), _, rfl, u, t, l, v, n, k, rfl, U, by omega, _, rfl, rfl, _, rfl, ?_⟩
    by_cases hw : nextW v n k = w0
    rotate_left
    · rw [decide_eq_false (fun z : V.str (nextW v n k) = V.str w0 => hw (by injection z))]
      refine iteF ?_
      exact fin k b1 b2 c1 c2 fun _ _ => hw
    rw [hw, decide_eq_true (rfl : V.str w0 = V.str w0)]
    refine iteT ⟨_, fun σ' H' z => z, _, rfl, _, rfl, _, _, rfl, rfl, ?_⟩
    refine ⟨if mv = 1 then ((v.length : Int) - ((k : Int) + mv)).toNat else ((k : Int) + mv + 1).toNat, ?_, rfl, (k : Int) + mv, rfl, by omega, by omega, fun e => ⟨by have := (c1 e).1; omega, fun r g1 g2 => ?_⟩, fun e => ⟨by have := (c2 e).1; omega, fun r g1 g2 => ?_⟩, rfl⟩
    · rw [hm]
      rcases hmv with rfl | rfl
      · rw [if_pos rfl, if_pos rfl]
        omega
      · rw [if_neg (by decide), if_neg (by decide)]
        omega
    · by_cases hrk : r = k
      · rw [hrk]
        exact hw
      · exact (c1 e).2 r g1 (by omega)
    · by_cases hrk : r = k
      · rw [hrk]
        exact hw
      · exact (c2 e).2 r g1 (by omega)))
(pss_cons (ps_if (PW.pt (pw_or (pt_not (pt_chain op_le op_lt pe_int (pv 4) (pe_callB call_len_seq (by rfl) T.len PySem.boot_len (pa_cons (pe_fld (pv 0) rfl) pa_nil)))) (pw_or1 (pt_cmpR op_ne (pe_callB call_lenS (by rfl) T.len PySem.boot_len (pa_cons (pe_meth (pv 0) TU.cl MW.m MW.ok (hr.mono (by decide)) MW.b .nil pass0 (pa_cons (pv 4) pa_nil)) pa_nil)) pe_int (nomark _)))))
(pss_one (ps_ret pe_non))
pss_nil)
(pss_cons (ps_for PassesOwn.never rfl (pi_range3 (by rfl) T.range (pa_cons (pv 1) (pa_cons (pv 4) (pa_cons (pv 3) pa_nil)))) (pg_name (i := 5) sc_U_next.nd rfl (Or.inl rfl))
(pss_one (ps_expr (pe_meth (pv 0) TU.cl MT.m MT.ok hr MT.b .nil pass0 (pa_cons (pv 5) pa_nil)))))
(pss_one (ps_ret (pv 4)))))))))), ?_⟩
  obtain ⟨dx, ho⟩ := U.ob
  obtain ⟨xs, hq, hl, hx⟩ := U.traces
  have few := U.few
  have len := U.len
  have l5 := five2
  have smallW : ∀ i, (nextW v n i).length ≤ 1000000 := fun i => by
    rcases kinds i with e | e | e | e
    · rw [e]; decide +kernel
    · rw [e]; decide +kernel
    · rw [e]; decide +kernel
    · omega
  generalize hW : nextW v n = W at q0 q1 kinds smallW
  refine ⟨.ref u, rfl, u, dx, _, rfl, ho, (by kernel_rfl), _, rfl, u, t, l, v, n, p, rfl, U, hp, ?_⟩
  rw [hW]
  refine ⟨_, rfl, W p, rfl, smallW p, _, _, rfl, rfl, _, rfl, ?_⟩
  refine ite2 (fun h => ?_) (fun h => ?_)
  · have h : (W p).length < 2 := by
      have := of_decide_eq_true h
      omega
    refine ⟨_, rfl, _, ⟨Nat.le_trans (smallW p) (by rw [sizeLine_eq]; decide), rfl⟩, ?_⟩
    by_cases he : (W p).length = 0
    · rw [he]
      refine iteF ?_
      refine q0 fun q hs => ?_
      cases hs with
      | here h1 => omega
      | up h1 h2 h3 h4 =>
        have := h3 p (Nat.le_refl _) h1
        rw [this] at he
        omega
      | dn h1 h3 h4 =>
        have := h3 p (Nat.le_refl _) h1
        rw [this] at he
        omega
    · have l1 : (W p).length = 1 := by omega
      rw [l1]
      refine iteT ⟨_, rfl, ?_⟩
      refine q1 p (.here l1) n H (But.refl _ _) U fun r => ?_
      rw [if_neg]
      · rfl
      · unfold Btw
        omega
  have h2 : ¬ (W p).length < 2 := fun z => h (decide_eq_true (by omega))
  have ud : W p = "above" ∨ W p = "below" := by
    rcases kinds p with e | e | e | e
    · exact absurd (by rw [e]; decide +kernel) h2
    · exact .inl e
    · exact .inr e
    · omega
  refine ⟨_, _, W p, rfl, ud, fun mv hmv => ?_⟩
  refine ⟨_, rfl, u, t, l, v, n, p, mv, W p, none, rfl, U, hp, hmv.imp And.left And.left, fun at_ b1 b2 c1 c2 cx => ?_⟩
  rw [hW] at c1 c2 cx
  have ab : ("above" : Str) ≠ "below" := by decide +kernel
  have no : (0 ≤ at_ → at_ < (v.length : Int) → (W at_.toNat).length ≠ 1) → ∀ q, ¬ Step W v.length p q := fun z q hs => by
    cases hs with
    | here h1 => omega
    | @up q g1 g2 g3 g4 =>
      have wp := g3 p (Nat.le_refl _) g1
      rcases hmv with ⟨rfl, hw⟩ | ⟨rfl, hw⟩
      · obtain ⟨d1, d2⟩ := c1 rfl
        obtain ⟨k, rfl⟩ : ∃ k : Nat, at_ = (k : Int) := ⟨at_.toNat, by omega⟩
        have hkq : k ≤ q := by
          refine Nat.le_of_not_lt fun hlt => ?_
          have := d2 q (by omega) (by omega)
          rw [this] at g4
          omega
        by_cases e : k = q
        · subst e
          exact z (by omega) (by omega) g4
        · have := g3 k (by omega) (by omega)
          exact cx (by omega) (by omega) (by rw [hw]; exact this)
      · exact ab (wp.symm.trans hw)
    | @dn q g1 g3 g4 =>
      have wp := g3 p (Nat.le_refl _) g1
      rcases hmv with ⟨rfl, hw⟩ | ⟨rfl, hw⟩
      · exact ab (hw.symm.trans wp)
      · obtain ⟨d1, d2⟩ := c2 rfl
        have hkq : (q : Int) ≤ at_ := by
          refine Int.not_lt.mp fun hlt => ?_
          have := d2 q (by omega) hlt
          rw [this] at g4
          omega
        obtain ⟨k, rfl⟩ : ∃ k : Nat, at_ = (k : Int) := ⟨at_.toNat, by omega⟩
        by_cases e : k = q
        · subst e
          exact z (by omega) (by omega) g4
        · have := g3 k (by omega) (by omega)
          exact cx (by omega) (by omega) (by rw [hw]; exact this)
  refine ⟨_, rfl, _, _, rfl, rfl, _, rfl, ?_⟩
  refine ite2 (fun h => ?_) (fun h => ?_)
  rotate_left
  · have h : ¬ (0 ≤ at_) := fun z => h (decide_eq_true z)
    refine ⟨_, rfl, iteT ?_⟩
    exact q0 (no fun z => absurd z h)
  have h0 : 0 ≤ at_ := of_decide_eq_true h
  refine ⟨.ref u, rfl, u, C, dx, _, _, rfl, ho, TU.cl, TU.nTraces, uf_traces, t, xs, rfl, .inr hq, _, _, rfl, rfl, _, rfl, ?_⟩
  by_cases h1 : at_ < (v.length : Int)
  rotate_left
  · rw [decide_eq_false (show ¬ (at_ < (xs.length : Int)) by omega)]
    refine iteT ?_
    exact q0 (no fun _ z => absurd z h1)
  rw [decide_eq_true (show at_ < (xs.length : Int) by omega)]
  refine iteF ?_
  obtain ⟨k, rfl⟩ : ∃ k : Nat, at_ = (k : Int) := ⟨at_.toNat, by omega⟩
  refine ⟨.ref u, rfl, u, dx, _, rfl, ho, (by kernel_rfl), _, rfl, u, t, l, v, n, k, rfl, U, by omega, ?_⟩
  rw [hW]
  refine ⟨W k, rfl, smallW k, rfl, _, rfl, ?_⟩
  rw [show decide (V.int ((W k).length : Nat) = V.int 1) = decide ((W k).length = 1) from dec_nat _ 1]
  by_cases hk : (W k).length = 1
  rotate_left
  · rw [decide_eq_false hk]
    refine iteT ?_
    exact q0 (no fun _ _ => hk)
  rw [decide_eq_true hk]
  refine iteF ?_
  have st : Step W v.length p k := by
    rcases hmv with ⟨rfl, hw⟩ | ⟨rfl, hw⟩
    · obtain ⟨d1, d2⟩ := c1 rfl
      refine .up ?_ (by omega) (fun r g1 g2 => by rw [← hw]; exact d2 r g1 (by omega)) hk
      refine Nat.lt_of_le_of_ne (by omega) fun e => ?_
      rw [← e] at hk
      omega
    · obtain ⟨d1, d2⟩ := c2 rfl
      refine .dn ?_ (fun r g1 g2 => by rw [← hw]; exact d2 r g1 (by omega)) hk
      refine Nat.lt_of_le_of_ne (by omega) fun e => ?_
      rw [e] at hk
      omega
  have dir : (mv = 1 ∧ p < k) ∨ (mv = -1 ∧ k < p) := by
    have npk : p ≠ k := fun e => by
      rw [← e] at hk
      omega
    rcases hmv with ⟨e, hw⟩ | ⟨e, hw⟩
    · have := (c1 e).1
      exact .inl ⟨e, by omega⟩
    · have := (c2 e).1
      exact .inr ⟨e, by omega⟩
  have rg : RgC (p : Int) (k : Int) mv ((k - p) + (p - k)) := by
    rcases dir with ⟨rfl, d⟩ | ⟨rfl, d⟩
    · have := RgC.one (i := (p : Int)) (j := (k : Int)) (by omega) (by omega) (by omega) (by omega)
      rwa [show ((k : Int) - (p : Int)).toNat = (k - p) + (p - k) by omega] at this
    · have := RgC.neg (i := (p : Int)) (j := (k : Int)) (by omega) (by omega) (by omega) (by omega)
      rwa [show ((p : Int) - (k : Int)).toNat = (k - p) + (p - k) by omega] at this
  refine ⟨_, rfl, _, rfl, _, rfl, (p : Int), (k : Int), mv, _, rfl, rg, for_rangeC (lo := (p : Int)) (c := mv) (fun i σ H' => ∃ (x5 : Option V) (n' : List Nat), σ = [some (.ref u), some (.int (p : Int)), some (.str (W p)), some (.int mv), some (.int (k : Int)), x5] ∧ But l H H' ∧ UAt K C H' u t l v n' ∧ ∀ r, n'.getD r 0 = n.getD r 0 + (if (mv = 1 ∧ p ≤ r ∧ r < p + i) ∨ (mv = -1 ∧ r ≤ p ∧ p < r + i) then 1 else 0)) ?_ ?_ ?_⟩
  · refine ⟨none, n, rfl, But.refl _ _, U, fun r => ?_⟩
    rw [if_neg (by omega)]
    rfl
  · rintro i σ H' hi ⟨x5, n', rfl, B, U', hn⟩
    obtain ⟨g, eg, lg, upd_g, ng⟩ : ∃ g : Nat, (p : Int) + (i : Nat) * mv = (g : Int) ∧ g < v.length ∧ (∀ r, ((mv = 1 ∧ p ≤ r ∧ r < p + (i + 1)) ∨ (mv = -1 ∧ r ≤ p ∧ p < r + (i + 1))) ↔ (r = g ∨ ((mv = 1 ∧ p ≤ r ∧ r < p + i) ∨ (mv = -1 ∧ r ≤ p ∧ p < r + i)))) ∧ ¬ ((mv = 1 ∧ p ≤ g ∧ g < p + i) ∨ (mv = -1 ∧ g ≤ p ∧ p < g + i)) := by
      rcases dir with ⟨rfl, d⟩ | ⟨rfl, d⟩
      · refine ⟨p + i, by omega, by omega, fun r => by omega, by omega⟩
      · refine ⟨p - i, by omega, by omega, fun r => by omega, by omega⟩
    obtain ⟨dx', ho'⟩ := U'.ob
    refine ⟨.ref u, rfl, u, dx', _, rfl, ho', (by kernel_rfl), _, rfl, u, t, l, v, n', g, (by show [V.ref u, V.int ((p : Int) + (i : Nat) * mv)] = _; rw [eg]), U', lg, ?_⟩
    have lg' : g < n'.length := by rw [U'.len]; exact lg
    refine ⟨_, n'.set g (n'.getD g 0 + 1), rfl, B.trans But.upd, U'.put (by rw [List.length_set]; exact U'.len), fun r => ?_⟩
    rw [getD_set _ _ _ _ lg']
    by_cases e : r = g
    · rw [if_pos e, e, if_pos ((upd_g g).mpr (.inl rfl)), hn g, if_neg ng]
    · rw [if_neg e, hn r]
      refine congrArg (n.getD r 0 + ·) (ite_congr (propext ?_) (fun _ => rfl) (fun _ => rfl))
      rw [upd_g r]
      exact ⟨.inr, fun z => z.resolve_left e⟩
  · rintro σ H' ⟨x5, n', rfl, B, U', hn⟩
    refine ⟨_, rfl, q1 k st n' H' B U' fun r => ?_⟩
    rw [hn r]
    refine congrArg (n.getD r 0 + ·) (ite_congr (propext ?_) (fun _ => rfl) (fun _ => rfl))
    unfold Btw
    omega
end
end Fk
set_option Elab.async false
set_option linter.all false
set_option maxRecDepth 100000
set_option maxHeartbeats 2000000
namespace Fk
open PySem L2
/-! ### reading the traces of an output -/
abbrev Trs := List (List (Wd Str))
def FormV (V : Trs) : Prop := ∀ t ∈ V, ∀ c, Wd.lt c ∈ t → c.length = 1 ∧ ofL c = true
def txt (V : Trs) : List (List Str) := V.map (·.map wS)
theorem txt_len (V : Trs) : (txt V).length = V.length := List.length_map _
theorem tracesD_txt (V : Trs) : tracesD V = tupD (txt V) := by
  unfold tracesD tupD txt
  rw [List.map_map]
  rfl
theorem nxt_in {V : Trs} (hV : FormV V) {o : List Ev} {r : Nat} {c : Str} (h : nxt V o r = some (.lt c)) : c.length = 1 ∧ ofL c = true := by
  unfold nxt at h
  have h1 := List.mem_of_getElem? h
  cases e : V[r]? with
  | none => rw [e] at h1; cases h1
  | some t =>
    rw [e] at h1
    exact hV t (List.mem_of_getElem? e) c h1
theorem nextW_nxt {V : Trs} {o : List Ev} {n : List Nat} {r : Nat} (h : n.getD r 0 = (tr o r).length) : nextW (txt V) n r = ((nxt V o r).map wS).getD "" := by
  unfold nextW nxt
  rw [h]
  unfold txt
  rw [List.getD_eq_getElem?_getD, List.getElem?_map]
  cases V[r]? with
  | none => rfl
  | some t =>
    show (((t.map wS)[(tr o r).length]?).getD "") = _
    rw [List.getElem?_map]
    rfl
/-- what W tells of the next word -/
structure Says (V : Trs) (o : List Ev) (W : Nat → Str) : Prop where
  form : FormV V
  at_ : ∀ r, r < V.length → W r = ((nxt V o r).map wS).getD ""
theorem Says.kinds {V : Trs} {o : List Ev} {W : Nat → Str} (S : Says V o W) {r : Nat} (h : r < V.length) :
    (W r = "" ∧ nxt V o r = none) ∨ (W r = "above" ∧ nxt V o r = some .up) ∨ (W r = "below" ∧ nxt V o r = some .dn) ∨ ∃ c, W r = c ∧ c.length = 1 ∧ nxt V o r = some (.lt c) := by
  have e := S.at_ r h
  cases hn : nxt V o r with
  | none => rw [hn] at e; exact .inl ⟨e, rfl⟩
  | some w =>
    rw [hn] at e
    cases w with
    | up => exact .inr (.inl ⟨e, rfl⟩)
    | dn => exact .inr (.inr (.inl ⟨e, rfl⟩))
    | lt c => exact .inr (.inr (.inr ⟨c, e, (nxt_in S.form hn).1, rfl⟩))
theorem lens5 : ("" : Str).length = 0 ∧ ("above" : Str).length = 5 ∧ ("below" : Str).length = 5 ∧ ("above" : Str) ≠ "below" ∧ ("above" : Str) ≠ "" ∧ ("below" : Str) ≠ "" := by decide +kernel
theorem Says.up {V : Trs} {o : List Ev} {W : Nat → Str} (S : Says V o W) {r : Nat} (h : r < V.length) : W r = "above" ↔ nxt V o r = some .up := by
  obtain ⟨l0, l1, l2, n1, n2, n3⟩ := lens5
  rcases S.kinds h with ⟨e, hn⟩ | ⟨e, hn⟩ | ⟨e, hn⟩ | ⟨c, e, l, hn⟩
  · rw [e, hn]; exact ⟨fun z => absurd z.symm n2, fun z => by cases z⟩
  · rw [e, hn]; exact ⟨fun _ => rfl, fun _ => rfl⟩
  · rw [e, hn]; exact ⟨fun z => absurd z.symm n1, fun z => by cases z⟩
  · rw [e, hn]; exact ⟨fun z => (by rw [z] at l; omega), fun z => by cases z⟩
theorem Says.dn {V : Trs} {o : List Ev} {W : Nat → Str} (S : Says V o W) {r : Nat} (h : r < V.length) : W r = "below" ↔ nxt V o r = some .dn := by
  obtain ⟨l0, l1, l2, n1, n2, n3⟩ := lens5
  rcases S.kinds h with ⟨e, hn⟩ | ⟨e, hn⟩ | ⟨e, hn⟩ | ⟨c, e, l, hn⟩
  · rw [e, hn]; exact ⟨fun z => absurd z.symm n3, fun z => by cases z⟩
  · rw [e, hn]; exact ⟨fun z => absurd z n1, fun z => by cases z⟩
  · rw [e, hn]; exact ⟨fun _ => rfl, fun _ => rfl⟩
  · rw [e, hn]; exact ⟨fun z => (by rw [z] at l; omega), fun z => by cases z⟩
theorem Says.one {V : Trs} {o : List Ev} {W : Nat → Str} (S : Says V o W) {r : Nat} (h : r < V.length) : (W r).length = 1 ↔ ∃ c, nxt V o r = some (.lt c) := by
  obtain ⟨l0, l1, l2, n1, n2, n3⟩ := lens5
  rcases S.kinds h with ⟨e, hn⟩ | ⟨e, hn⟩ | ⟨e, hn⟩ | ⟨c, e, l, hn⟩
  · rw [e, hn]; exact ⟨fun z => (by omega), fun ⟨_, z⟩ => by cases z⟩
  · rw [e, hn]; exact ⟨fun z => (by omega), fun ⟨_, z⟩ => by cases z⟩
  · rw [e, hn]; exact ⟨fun z => (by omega), fun ⟨_, z⟩ => by cases z⟩
  · rw [e, hn]; exact ⟨fun _ => ⟨c, rfl⟩, fun _ => l⟩
theorem step_begun {V : Trs} {o : List Ev} {d : Ev} {W : Nat → Str} (S : Says V (o ++ [d]) W) (B : Begun V (o ++ [d])) (q : Nat) : Step W V.length d.2 q ↔ ∃ c, Begun V (o ++ [d] ++ [(c, q)]) := by
  have dp : d.2 < V.length := B.1 d (by simp)
  constructor
  · intro h
    cases h with
    | here h1 =>
      obtain ⟨c, hc⟩ := (S.one dp).mp h1
      exact ⟨c, here_is B hc⟩
    | up h1 h2 h3 h4 =>
      obtain ⟨c, hc⟩ := (S.one h2).mp h4
      exact ⟨c, up_is B h1 (fun r g1 g2 => (S.up (by omega)).mp (h3 r g1 g2)) h2 hc⟩
    | dn h1 h3 h4 =>
      obtain ⟨c, hc⟩ := (S.one (by omega)).mp h4
      exact ⟨c, dn_is B h1 (fun r g1 g2 => (S.dn (by omega)).mp (h3 r g1 g2)) hc⟩
  · rintro ⟨c, h⟩
    obtain ⟨h1, h2⟩ := (begun_ext B).mp h
    have h1 : q < V.length := h1
    have hq := h2 q h1 _ (app_at d.2 (c, q))
    have l := (S.one h1).mpr ⟨c, hq⟩
    by_cases e : q = d.2
    · subst e
      exact .here l
    · by_cases g : d.2 < q
      · exact .up g h1 (fun r g1 g2 => (S.up (by omega)).mpr (h2 r (by omega) _ (app_up (e := (c, q)) g1 g2))) l
      · exact .dn (by omega) (fun r g1 g2 => (S.dn (by omega)).mpr (h2 r (by omega) _ (app_dn (e := (c, q)) g1 g2))) l
theorem first_begun {V : Trs} {W : Nat → Str} (S : Says V [] W) (q : Nat) : FirstAt W V.length q ↔ ∃ c, Begun V [(c, q)] := by
  constructor
  · rintro ⟨h1, h2, h3, h4⟩
    obtain ⟨c, hc⟩ := (S.one h1).mp h2
    refine ⟨c, begun_one.mpr ⟨h1, fun r hr => ?_⟩⟩
    unfold word
    simp only
    by_cases e : q = r
    · rw [if_pos e, ← e]
      exact hc
    · rw [if_neg e]
      by_cases g : q < r
      · rw [if_pos g]
        exact (S.dn hr).mp (h4 r g hr)
      · rw [if_neg g]
        exact (S.up hr).mp (h3 r (by omega))
  · rintro ⟨c, h⟩
    obtain ⟨h1, h2⟩ := begun_one.mp h
    have h1 : q < V.length := h1
    refine ⟨h1, (S.one h1).mpr ⟨c, ?_⟩, fun r g => (S.up (by omega)).mpr ?_, fun r g g2 => (S.dn g2).mpr ?_⟩
    · have := h2 q h1
      unfold word at this
      rw [if_pos rfl] at this
      exact this
    · have := h2 r (by omega)
      unfold word at this
      simp only at this
      rw [if_neg (by omega), if_neg (by omega)] at this
      exact this
    · have := h2 r g2
      unfold word at this
      simp only at this
      rw [if_neg (by omega), if_pos g] at this
      exact this
/-- how many words are read when the letter of e is to be read yet -/
def Rd (V : Trs) (o : List Ev) (e : Ev) (n : List Nat) : Prop := ∀ r, r < V.length → n.getD r 0 + (if r = e.2 then 1 else 0) = (tr (o ++ [e]) r).length
theorem rd_first {V : Trs} {q : Nat} {c : Str} {m : Nat} (hm : m = V.length) : Rd V [] (c, q) ((List.range m).map fun i => if i = q then 0 else 1) := fun r hr => by
  subst hm
  rw [List.nil_append, tr_one, List.getD_eq_getElem?_getD, List.getElem?_map, List.getElem?_range hr]
  show (if r = q then 0 else 1) + (if r = q then 1 else 0) = 1
  split <;> rfl
theorem rd_next {V : Trs} {o : List Ev} {d : Ev} {n n' : List Nat} {q : Nat} {c : Str} (h : ∀ r, r < V.length → n.getD r 0 = (tr (o ++ [d]) r).length) (h2 : ∀ r, n'.getD r 0 = n.getD r 0 + (if Btw d.2 q r then 1 else 0)) : Rd V (o ++ [d]) (c, q) n' := fun r hr => by
  rw [h2 r, h r hr, tr_ext, List.length_append]
  unfold app
  simp only
  by_cases e : r = q
  · rw [if_neg (show ¬ Btw d.2 q r from fun z => by rcases z with z | z <;> omega), if_pos e, if_pos e]
    rfl
  · rw [if_neg e, if_neg e]
    by_cases g1 : d.2 ≤ r ∧ r < q
    · rw [if_pos (show Btw d.2 q r from .inl g1), if_pos g1]
      rfl
    · by_cases g2 : q < r ∧ r ≤ d.2
      · rw [if_pos (show Btw d.2 q r from .inr g2), if_neg g1, if_pos g2]
        rfl
      · rw [if_neg (show ¬ Btw d.2 q r from fun z => z.elim g1 g2), if_neg g1, if_neg g2]
        rfl
theorem rd_take {V : Trs} {o : List Ev} {e : Ev} {n : List Nat} (hn : n.length = V.length) (h : Rd V o e n) (he : e.2 < V.length) : ∀ r, r < V.length → (n.set e.2 (n.getD e.2 0 + 1)).getD r 0 = (tr (o ++ [e]) r).length := fun r hr => by
  have := h r hr
  rw [getD_set _ _ _ _ (by omega)]
  by_cases g : r = e.2
  · rw [if_pos g] at this ⊢
    rw [← g]
    exact this
  · rw [if_neg g] at this ⊢
    exact this
/-- the letter that is read -/
theorem rd_word {V : Trs} {o : List Ev} {e : Ev} {n : List Nat} (B : Begun V (o ++ [e])) (h : Rd V o e n) : nextW (txt V) n e.2 = e.1 := by
  have he : e.2 < V.length := B.1 e (by simp)
  have hv : V[e.2]? = some V[e.2] := List.getElem?_eq_getElem he
  have h2 := B.2 _ _ hv
  have h3 := h e.2 he
  rw [if_pos rfl] at h3
  have et : tr (o ++ [e]) e.2 = tr o e.2 ++ [.lt e.1] := by
    rw [tr_snoc]
    unfold push word
    rw [if_pos rfl, if_pos (.inl rfl)]
  rw [et, List.length_append] at h3
  have h3 : n.getD e.2 0 = (tr o e.2).length := Nat.succ.inj h3
  rw [et] at h2
  unfold nextW
  rw [h3]
  unfold txt
  rw [List.getD_eq_getElem?_getD, List.getElem?_map, hv]
  show ((V[e.2].map wS)[(tr o e.2).length]?).getD "" = _
  rw [List.getElem?_map, (pre_app ((List.prefix_append _ _).trans h2)).mp h2]
  rfl
/-! ### at the end -/
theorem begun_nil (V : Trs) : Begun V ([] : List Ev) := ⟨fun e h => (by cases h), fun r t _ => List.nil_prefix⟩
theorem begun_pre {V : Trs} {o : List Ev} (h : Begun V o) : ∀ k, Begun V (o.take k) := by
  have : ∀ o : List Ev, Begun V o → ∀ k, Begun V (o.take k) := by
    refine snoc_ind (fun _ k => by rw [List.take_nil]; exact begun_nil V) fun l x ih h k => ?_
    by_cases g : k ≤ l.length
    · rw [List.take_append_of_le_length g]
      exact ih h.front k
    · rw [List.take_of_length_le (by rw [List.length_append, List.length_singleton]; omega)]
      exact h
  exact this o h
theorem begun_ones {V : Trs} (hV : FormV V) : ∀ o : List Ev, Begun V o → Ones o := by
  refine snoc_ind (fun _ e h => by cases h) fun o e ih h x hx => ?_
  rcases List.mem_append.mp hx with hx | hx
  · exact ih h.front x hx
  · rw [List.mem_singleton.mp hx]
    have he : e.2 < V.length := h.1 e (by simp)
    have hv : V[e.2]? = some V[e.2] := List.getElem?_eq_getElem he
    have h2 := h.2 _ _ hv
    refine hV _ (List.mem_of_getElem? hv) e.1 (h2.subset ?_)
    rw [tr_snoc]
    unfold push word
    rw [if_pos rfl, if_pos (.inl rfl)]
    simp
/-- nothing begun is longer than what is whole, and all begun is its beginning -/
theorem begun_same {V : Trs} {o o' : List Ev} (h : Begun V o) (h' : Begun V o') (hl : o.length = o'.length) : o = o' := by
  have : ∀ (o : List Ev), ∀ o', Begun V o → Begun V o' → o.length = o'.length → o = o' := by
    refine snoc_ind (fun o' _ _ e => (List.eq_nil_of_length_eq_zero e.symm).symm) fun l x ih o' h h' e => ?_
    have hne : o' ≠ [] := fun z => by rw [z, List.length_append] at e; cases e
    rw [← List.dropLast_concat_getLast hne] at h' ⊢
    have el := ih o'.dropLast h.front h'.front (by rw [List.length_append, List.length_singleton] at e; rw [List.length_dropLast]; omega)
    rw [← el] at h' ⊢
    rw [any_one h h']
  exact this o o' h h' hl
theorem whole_end {V : Trs} {o : List Ev} {e : Ev} (h : Whole V o) : ¬ Begun V (o ++ [e]) := fun b => by
  have he : e.2 < V.length := b.1 e (by simp)
  have hv : V[e.2]? = some V[e.2] := List.getElem?_eq_getElem he
  have h2 := (b.2 _ _ hv).length_le
  have h3 := h.2 _ _ hv
  rw [tr_snoc, h3] at h2
  unfold push word at h2
  rw [if_pos rfl, if_pos (.inl rfl), List.length_append, List.length_singleton] at h2
  exact absurd h2 (Nat.not_succ_le_self _)
theorem ends_same {V : Trs} {o o' : List Ev} (h : Begun V o) (he : ∀ e, ¬ Begun V (o ++ [e])) (h' : Whole V o') : o' = o := by
  have key : ∀ (a b : List Ev), Begun V a → (∀ e, ¬ Begun V (a ++ [e])) → Begun V b → b.length ≤ a.length := fun a b ha hx hb => by
    refine Nat.le_of_not_lt fun g => ?_
    have h1 := begun_pre hb (a.length + 1)
    rw [List.take_add_one, List.getElem?_eq_getElem g] at h1
    have h2 := begun_pre hb a.length
    rw [← begun_same ha h2 (by rw [List.length_take]; omega)] at h1
    exact hx _ h1
  have l1 := key o o' h he h'.begun
  have l2 := key o' o h'.begun (fun e => whole_end h') h
  exact (begun_same h h'.begun (by omega)).symm
/-- what is asked of traces -/
def Due (V : Trs) (r : PyData) : Prop := (∃ o, r = outD o ∧ Whole V o) ∨ (r = .none ∧ ∀ o, ¬ Whole V o)
theorem evD_inj {e f : Ev} (h : evD e = evD f) : e = f := by
  unfold evD at h
  injection h with h
  injection h with h1 h2
  injection h1 with h1
  injection h2 with h2 _
  injection h2 with h2
  obtain ⟨a, b⟩ := e
  obtain ⟨c, d⟩ := f
  have h1 : a = c := h1
  have h2 : ((b : Nat) : Int) = ((d : Nat) : Int) := h2
  have h2 : b = d := by omega
  rw [h1, h2]
theorem due_one {V : Trs} {r r' : PyData} (h : Due V r) (h' : Due V r') : r = r' := by
  rcases h with ⟨o, rfl, w⟩ | ⟨rfl, n⟩
  · rcases h' with ⟨o', rfl, w'⟩ | ⟨rfl, n⟩
    · rw [ends_same w.begun (fun e => whole_end w) w']
    · exact absurd w (n o)
  · rcases h' with ⟨o', rfl, w'⟩ | ⟨rfl, _⟩
    · exact absurd w' (n o')
    · rfl
theorem due_end {V : Trs} {o : List Ev} (h : Begun V o) (he : ∀ e, ¬ Begun V (o ++ [e])) (hn : ¬ Whole V o) : Due V .none := .inr ⟨rfl, fun o' w => hn (by rw [← ends_same h he w]; exact w)⟩
/-- how long what is begun can be -/
def total (V : Trs) : Nat := (V.map List.length).sum
theorem begun_total {V : Trs} {o : List Ev} (h : Begun V o) : o.length ≤ total V := by
  rw [← sum_many V.length o h.1]
  have : ∀ (V : Trs) (f : Nat → Nat), (∀ r t, V[r]? = some t → f r ≤ t.length) → ((List.range V.length).map f).sum ≤ (V.map List.length).sum := by
    intro V
    induction V with
    | nil => intro f _; exact Nat.le_refl _
    | cons t V ih =>
      intro f hf
      rw [List.length_cons, List.range_succ_eq_map, List.map_cons, List.sum_cons, List.map_map, List.map_cons, List.sum_cons]
      have h1 := hf 0 t rfl
      have h2 := ih (fun r => f (r + 1)) fun r t ht => hf (r + 1) t ht
      have e : (f ∘ Nat.succ) = fun r => f (r + 1) := rfl
      rw [e]
      omega
  refine this V (many o) fun r t ht => ?_
  rw [← letters_many]
  have h2 := (h.2 r t ht).length_le
  have h3 : (letters (tr o r)).length ≤ (tr o r).length := by
    unfold letters
    exact List.length_filterMap_le _ _
  omega
theorem whole_len {V : Trs} {o : List Ev} {n : List Nat} (B : Begun V o) (hn : n.length = V.length) (h : ∀ r, r < V.length → n.getD r 0 = (tr o r).length) : (n = (txt V).map List.length) ↔ Whole V o := by
  rw [begun_whole B]
  have e : (txt V).map List.length = V.map List.length := by
    unfold txt
    rw [List.map_map]
    refine List.map_congr_left fun t _ => List.length_map _
  rw [e]
  constructor
  · intro en r t ht
    have hr := (List.getElem?_eq_some_iff.mp ht).1
    have := h r hr
    rw [en, List.getD_eq_getElem?_getD, List.getElem?_map, ht] at this
    exact this.symm
  · intro hw
    refine List.ext_getElem (by rw [List.length_map]; exact hn) fun r h1 h2 => ?_
    have hr : r < V.length := by omega
    have := h r hr
    rw [List.getD_eq_getElem?_getD, List.getElem?_eq_getElem h1] at this
    rw [List.getElem_map, ← hw r V[r] (List.getElem?_eq_getElem hr)]
    exact this
/-! ### what has the form -/
theorem form_word {d : PyData} (h : wordOk d = true) : ∃ w : Wd Str, d = .str (wS w) ∧ ∀ c, w = .lt c → c.length = 1 ∧ ofL c = true := by
  cases d with
  | str z =>
    unfold wordOk at h
    simp only [Bool.or_eq_true, Bool.and_eq_true, decide_eq_true_eq] at h
    rcases h with (h | h) | h
    · exact ⟨.dn, by rw [h]; rfl, fun c e => by cases e⟩
    · exact ⟨.up, by rw [h]; rfl, fun c e => by cases e⟩
    · exact ⟨.lt z, rfl, fun c e => by rw [← lt_inj e]; exact h⟩
  | _ => cases h
theorem form_words : ∀ {ds : List PyData}, (∀ d ∈ ds, wordOk d = true) → ∃ t : List (Wd Str), ds = (t.map wS).map .str ∧ ∀ c, .lt c ∈ t → c.length = 1 ∧ ofL c = true
  | [], _ => ⟨[], rfl, fun c h => by cases h⟩
  | d :: ds, h => by
    obtain ⟨w, rfl, hw⟩ := form_word (h d List.mem_cons_self)
    obtain ⟨t, rfl, ht⟩ := form_words fun x hx => h x (List.mem_cons_of_mem _ hx)
    refine ⟨w :: t, rfl, fun c hc => ?_⟩
    rcases List.mem_cons.mp hc with e | hc
    · exact hw c e.symm
    · exact ht c hc
theorem form_traces : ∀ {ds : List PyData}, (∀ d ∈ ds, traceOk d = true) → ∃ V : Trs, ds = V.map trD ∧ FormV V
  | [], _ => ⟨[], rfl, fun t h => by cases h⟩
  | d :: ds, h => by
    have h1 := h d List.mem_cons_self
    obtain ⟨V, rfl, hV⟩ := form_traces fun x hx => h x (List.mem_cons_of_mem _ hx)
    cases d with
    | tuple ws =>
      obtain ⟨t, rfl, ht⟩ := form_words (ds := ws) fun d hd => List.all_eq_true.mp h1 d hd
      refine ⟨t :: V, rfl, fun t' ht' c hc => ?_⟩
      rcases List.mem_cons.mp ht' with e | ht'
      · rw [e] at hc
        exact ht c hc
      · exact hV t' ht' c hc
    | _ => cases h1
theorem form_is {d : PyData} (h : formOk d = true) : ∃ V : Trs, d = tracesD V ∧ 2 ≤ V.length ∧ FormV V := by
  cases d with
  | tuple ts =>
    unfold formOk at h
    simp only [Bool.and_eq_true, decide_eq_true_eq] at h
    obtain ⟨V, rfl, hV⟩ := form_traces fun d hd => List.all_eq_true.mp h.2 d hd
    exact ⟨V, rfl, by have := h.1; rwa [List.length_map] at this, hV⟩
  | _ => cases h
end Fk
set_option Elab.async false
set_option linter.all false
set_option maxRecDepth 100000
set_option maxHeartbeats 4000000
namespace Fk
open PySem L2
/-! ### output_of -/
abbrev s_output_of : Stmt := top 6
abbrev sc_output_ofN : List Str := ["traces", "unread", "output", "position"]
theorem sc_output_of : FnScope sc_output_ofN ["traces"] (defScope s_output_of) := ⟨rfl, rfl, rfl, by decide +kernel, rfl, by decide +kernel, by decide +kernel⟩
structure Maker (P : Program) (w : World) (K : PySem.W.Frag) (mg : Str → Option Value) (base : Heap) (C : Addr) (k : Nat) (x : Str) (ps : List Str) (sp : Sp) where
  f : Addr
  fd : FuncData
  ok : FnOk P w K mg base CX0 k f fd ps sp
  mkr : Mk K C f
  mg : mg x = some (.ref C)
  b : Binds K fd ps []
/-- not too many words -/
structure Few (d : PyData) : Prop where
  wd : Wd10 d
  le : ∀ V : Trs, d = tracesD V → V.length ≤ 900 ∧ total V ≤ 900
def spOutput (K : PySem.W.Frag) : Sp := fun vs H Q _ => ∃ (x : V) (d : PyData), vs = [x] ∧ Dv K H x d ∧ Few d ∧ (formOk d = false → ∀ H', Same H H' → Q .non H') ∧
  ∀ V : Trs, d = tracesD V → 2 ≤ V.length → FormV V → ∀ (r : PyData) (y : L2.V) (H' : Hp), Due V r → Same H H' → Dv K H' y r → Q y H'
theorem nextW_kinds {V : Trs} (hV : FormV V) (n : List Nat) (i : Nat) : nextW (txt V) n i = "" ∨ nextW (txt V) n i = "above" ∨ nextW (txt V) n i = "below" ∨ (nextW (txt V) n i).length = 1 := by
  unfold nextW txt
  rw [List.getD_eq_getElem?_getD, List.getElem?_map]
  cases e : V[i]? with
  | none => exact .inl rfl
  | some t =>
    show (((t.map wS)[n.getD i 0]?).getD "") = "" ∨ _
    rw [List.getElem?_map]
    cases e2 : t[n.getD i 0]? with
    | none => exact .inl rfl
    | some w =>
      have e3 : (((Option.map (fun x => List.map wS x) (some t)).getD [])[n.getD i 0]?).getD "" = wS w := by
        show (((t.map wS)[n.getD i 0]?).getD "") = _
        rw [List.getElem?_map, e2]
        rfl
      rw [e3]
      cases w with
      | up => exact .inr (.inl rfl)
      | dn => exact .inr (.inr (.inl rfl))
      | lt c => exact .inr (.inr (.inr (hV t (List.mem_of_getElem? e) c (List.mem_of_getElem? e2)).1))
theorem mem_sum {n : Nat} : ∀ {l : List Nat}, n ∈ l → n ≤ l.sum
  | a :: l, h => by
    rw [List.sum_cons]
    rcases List.mem_cons.mp h with rfl | h
    · omega
    · have := mem_sum h
      omega
theorem txt_ok {V : Trs} (hV : FormV V) : (∀ w ∈ txt V, StrOks w) ∧ ∀ w ∈ txt V, ∀ z ∈ w, z.length ≤ 1000000 := by
  have key : ∀ w ∈ txt V, ∀ z ∈ w, PyData.strOk z = true ∧ z.length ≤ 1000000 := fun w hw z hz => by
    obtain ⟨t, ht, rfl⟩ := List.mem_map.mp hw
    obtain ⟨wd, hwd, rfl⟩ := List.mem_map.mp hz
    cases wd with
    | up => exact ⟨by decide +kernel, by decide +kernel⟩
    | dn => exact ⟨by decide +kernel, by decide +kernel⟩
    | lt c =>
      have := hV t ht c hwd
      exact ⟨strOk_ofL this.2, by show c.length ≤ _; omega⟩
  exact ⟨fun w hw z hz => (key w hw z hz).1, fun w hw z hz => (key w hw z hz).2⟩
theorem UAt.but {K : PySem.W.Frag} {C : Addr} {H H' : Hp} {u t l D0 : Addr} {v : List (List Str)} {n : List Nat} (U : UAt K C H u t l v n) (e : But D0 H H') (hD : ∃ ys, H D0 = some (.lst ys)) (ne : l ≠ D0) : UAt K C H' u t l v n := by
  obtain ⟨ys, hD⟩ := hD
  refine ⟨U.ob.imp fun dx h => e _ _ h fun z => ?_, e _ _ U.rd ne, Dv.but e ⟨ys, hD⟩ (nl_tup v) U.tr, U.len, U.few, U.short, U.ok⟩
  rw [z, hD] at h
  cases h
structure St (K : PySem.W.Frag) (C : Addr) (H0 H : Hp) (u t l D0 : Addr) (V : Trs) (n : List Nat) (vs : List L2.V) (o : List Ev) : Prop where
  U : UAt K C H u t l (txt V) n
  out : H D0 = some (.lst vs)
  ds : DvAll K H vs (o.map evD)
  same : Same H0 H
  u0 : H0 u = none
  l0 : H0 l = none
  d0 : H0 D0 = none
  ne : l ≠ D0
def Ended (V : Trs) (o : List Ev) (n : List Nat) : Prop := Begun V o ∧ (∀ e, ¬ Begun V (o ++ [e])) ∧ ∀ r, r < V.length → n.getD r 0 = (tr o r).length
def Pos (V : Trs) (o : List Ev) (n : List Nat) (x : L2.V) : Prop := (x = .non ∧ Ended V o n) ∨ ∃ (c : Str) (q : Nat), x = .int (q : Int) ∧ Begun V (o ++ [(c, q)]) ∧ Rd V o (c, q) n
def tRead (K : PySem.W.Frag) (C : Addr) : TS := fun D σ H => ∃ (v0 : L2.V) (u t l D0 : Addr) (V : Trs) (n : List Nat) (vs : List L2.V) (o : List Ev) (x : L2.V) (H0 : Hp), σ = [some v0, some (.ref u), some (.ref D0), some x] ∧ St K C H0 H u t l D0 V n vs o ∧ Pos V o n x ∧ FormV V ∧ total V ≤ 900 ∧
  ∀ (l : Addr) (n : List Nat) (vs : List L2.V) (o : List Ev) (H' : Hp), St K C H0 H' u t l D0 V n vs o → Ended V o n → D.nx [some v0, some (.ref u), some (.ref D0), some .non] H'
theorem nl_evs (o : List Ev) : noListAll (o.map evD) = true := nl_all fun d hd => by
  obtain ⟨e, _, rfl⟩ := List.mem_map.mp hd
  exact nl_ev e
theorem same_out {H0 H H' : Hp} {p : Addr} (s : Same H0 H) (e : But p H H') (h : H0 p = none) : Same H0 H' := fun b o hb => e b o (s b o hb) fun z => by
  rw [z, h] at hb
  cases hb
section
variable {P : Program} {w : World} {K : PySem.W.Frag} {mg : Str → Option Value} {base : Heap}
theorem ok_output {f C : Addr} {fd : FuncData} (F : Fun K "output_of" "output_of" s_output_of f fd) (T : Bare mg) (TU : UTxt K C) (CA : Callee P w K mg base 3 "are_traces" ["value"] (spTestW K formOk)) (MK : Maker P w K mg base C 1 "Unread" ["self", "traces"] (spInitU K C))
    (MF : Meter P w K mg base C 2 "first_position" ["self"] (spFirstU K C)) (MN : Meter P w K mg base C 3 "next_position" ["self", "position"] (spNextU K C)) (MT : Meter P w K mg base C 2 "take" ["self", "position"] (spTakeU K C)) (ME : Meter P w K mg base C 1 "is_empty" ["self"] (spEmptyU K C)) :
    FnOk P w K mg base CX0 4 f fd ["traces"] (spOutput K) := by
  refine F.ok sc_output_of (fun vs H Q E h => ?_) (fun cdv A outer st H vs Q E hr h => ?_)
  · obtain ⟨x, d, rfl, _⟩ := h
    rfl
  obtain ⟨x, d, rfl, hd, few, q0, q1⟩ := h
  refine ⟨_, (pss_cons (ps_if (pt_not (pt_val (pe_call CA.ok hr rfl CA.mg CA.kp CA.b .nil pass0 (pa_cons (pv 0) pa_nil))))
(pss_one (ps_ret pe_non))
pss_nil)
(pss_cons (ps_set (i := 1) sc_output_of.nd rfl (Or.inl rfl) (pe_make MK.mkr MK.ok (hr.mono (by decide)) rfl MK.mg MK.b .nil pass0 (pa_cons (pv 0) pa_nil)))
(pss_cons (ps_set (i := 2) sc_output_of.nd rfl (Or.inl rfl) (pe_lst pa_nil))
(pss_cons (ps_set (i := 3) sc_output_of.nd rfl (Or.inl rfl) (pe_meth0 (pv 1) TU.cl MF.m MF.ok (hr.mono (by decide)) MF.b .nil pass0))
(pss_cons (ps_weak (t' := tRead K C) (ps_while PassesOwn.never (pt_cmpR op_notN (pv 3) pe_non (nomark _))
(pss_cons (ps_expr (pe_bm PySem.F.plainAttrs_list PySem.F.slot_list_append PySem.F.type_list_append mt_append (pv 2) (pa_cons (pe_tup (pa_cons (pe_meth (pv 1) TU.cl MT.m MT.ok (hr.mono (by decide)) MT.b .nil pass0 (pa_cons (pv 3) pa_nil)) (pa_cons (pv 3) pa_nil))) pa_nil)))
(pss_one (ps_set (i := 3) sc_output_of.nd rfl (Or.inl rfl) (pe_meth (pv 1) TU.cl MN.m MN.ok hr MN.b .nil pass0 (pa_cons (pv 3) pa_nil)))))) (fun D σ H h => by
    obtain ⟨v0, u, t, l, D0, V, n, vs, o, x, H0, rfl, S, hpos, hV, htot, fin⟩ := h
    refine ⟨fun m σ H => ∃ (l : Addr) (n : List Nat) (vs : List L2.V) (o : List Ev) (x : L2.V), σ = [some v0, some (.ref u), some (.ref D0), some x] ∧ St K C H0 H u t l D0 V n vs o ∧ Pos V o n x ∧ m = (if x = .non then 0 else total V + 1 - o.length), ⟨_, l, n, vs, o, x, rfl, S, hpos, rfl⟩, ?_⟩
    rintro m σ H ⟨l, n, vs, o, x, rfl, S, hpos, hm⟩
    refine ⟨_, rfl, rfl, _, rfl, ?_⟩
    rcases hpos with ⟨rfl, he⟩ | ⟨c, q, rfl, B, R⟩
    · exact fin l n vs o H S he
    refine iteT ⟨fun σ' H' => ∃ m', m' < m ∧ ∃ (l : Addr) (n : List Nat) (vs : List L2.V) (o : List Ev) (x : L2.V), σ' = [some v0, some (.ref u), some (.ref D0), some x] ∧ St K C H0 H' u t l D0 V n vs o ∧ Pos V o n x ∧ m' = (if x = .non then 0 else total V + 1 - o.length), fun σ' H' z => z, ?_⟩
    have bt := begun_total B
    rw [List.length_append, List.length_singleton] at bt
    rw [if_neg (by intro z; cases z)] at hm
    have hq : q < V.length := B.1 (c, q) (by simp)
    have tl := txt_len V
    obtain ⟨dx, ho⟩ := S.U.ob
    refine ⟨.ref D0, rfl, .inl ⟨rfl, _, .inl (.inl S.out)⟩, .ref u, rfl, u, dx, _, rfl, ho, (by kernel_rfl), _, rfl, u, t, l, _, n, q, rfl, S.U, by omega, ?_⟩
    have eW : nextW (txt V) n q = c := rd_word B R
    rw [eW]
    have len := S.U.len
    have U1 := S.U.put (n' := n.set q (n.getD q 0 + 1)) (by rw [List.length_set]; exact len)
    have R1 := rd_take (by omega) R hq
    have R1 : ∀ r, r < V.length → (n.set q (n.getD q 0 + 1)).getD r 0 = (tr (o ++ [(c, q)]) r).length := R1
    have b1 : But l H (upd H l (.lst (natV (n.set q (n.getD q 0 + 1))))) := But.upd
    generalize upd H l (.lst (natV (n.set q (n.getD q 0 + 1)))) = H1 at U1 b1 ⊢
    have lv : vs.length = o.length := by rw [S.ds.len, List.length_map]
    have hD1 := b1 _ _ S.out S.ne.symm
    have ds1 := DvAll.but b1 ⟨_, S.U.rd⟩ (nl_evs o) S.ds
    refine ⟨_, rfl, small (by show 2 ≤ 1000; decide), fun r hr1 => ?_⟩
    have s2 := same_new hr1 (.tup [.str c, .int (q : Int)])
    have hr2 : (upd H1 r (.tup [.str c, .int (q : Int)])) r = some (.tup [.str c, .int (q : Int)]) := upd_same
    have nr : r ≠ D0 := (ne_of_none hD1 hr1).symm
    refine ⟨D0, vs, _, rfl, rfl, s2 _ _ hD1, small1000 (by omega), ?_⟩
    have U2 := U1.same s2
    have hD2 := s2 _ _ hD1
    have ds2 := ds1.same s2
    have sm : Same H0 (upd H1 r (.tup [.str c, .int (q : Int)])) := Same.trans (same_out S.same b1 S.l0) s2
    generalize upd H1 r (.tup [.str c, .int (q : Int)]) = H2 at U2 hD2 ds2 sm hr2 ⊢
    have b3 : But D0 H2 (upd H2 D0 (.lst (vs ++ [.ref r]))) := But.upd
    have U3 := U2.but b3 ⟨_, hD2⟩ S.ne
    have hD3 : (upd H2 D0 (.lst (vs ++ [.ref r]))) D0 = some (.lst (vs ++ [.ref r])) := upd_same
    have ds3 : DvAll K (upd H2 D0 (.lst (vs ++ [.ref r]))) (vs ++ [.ref r]) ((o ++ [(c, q)]).map evD) := by
      rw [List.map_append]
      refine (DvAll.but b3 ⟨_, hD2⟩ (nl_evs o) ds2).append (.cons (.tup (.inl (.inl (b3 _ _ hr2 nr))) (.cons (.str c ?_) (.cons (.int _) .nil))) .nil)
      have := (begun_ones hV _ B (c, q) (by simp)).1
      have this : c.length = 1 := this
      omega
    have sm3 := same_out sm b3 S.d0
    generalize upd H2 D0 (.lst (vs ++ [.ref r])) = H3 at U3 hD3 ds3 sm3 ⊢
    obtain ⟨dx3, ho3⟩ := U3.ob
    have says : Says V (o ++ [(c, q)]) (nextW (txt V) (n.set q (n.getD q 0 + 1))) := ⟨hV, fun r hr => nextW_nxt (R1 r hr)⟩
    have step := step_begun says B
    refine ⟨.ref u, rfl, u, dx3, _, rfl, ho3, (by kernel_rfl), _, rfl, u, t, l, _, _, q, rfl, U3, by omega, nextW_kinds hV _, fun no => ?_, fun q' st n' H4 b4 U4 hn => ?_⟩
    · refine ⟨0, by omega, l, _, _, o ++ [(c, q)], .non, rfl, ⟨U3, hD3, ds3, sm3, S.u0, S.l0, S.d0, S.ne⟩, .inl ⟨rfl, B, fun e he => ?_, R1⟩, rfl⟩
      rw [tl] at no
      exact no e.2 ((step e.2).mpr ⟨e.1, he⟩)
    · rw [tl] at st
      obtain ⟨c', hc'⟩ := (step q').mp st
      refine ⟨total V + 1 - (o ++ [(c, q)]).length, by rw [List.length_append, List.length_singleton]; omega, l, n', _, o ++ [(c, q)], .int (q' : Int), rfl, ⟨U4, b4 _ _ hD3 S.ne.symm, DvAll.but b4 ⟨_, U3.rd⟩ (nl_evs _) ds3, same_out sm3 b4 S.l0, S.u0, S.l0, S.d0, S.ne⟩, .inr ⟨c', q', rfl, hc', ?_⟩, ?_⟩
      · exact rd_next (d := (c, q)) R1 hn
      · rw [if_neg (by intro z; cases z)]))
(pss_one (ps_ret (pe_ifExp (pt_val (pe_meth0 (pv 1) TU.cl ME.m ME.ok (hr.mono (by decide)) ME.b .nil pass0)) (pe_callTy call_tuple_of (by rfl) T.tuple (by decide +kernel) (pa_cons (pv 2) pa_nil)) pe_non)))))))), ?_⟩
  refine ⟨_, rfl, x, d, rfl, hd, few.wd, fun H1 s1 => ⟨_, rfl, ?_⟩⟩
  by_cases hf : formOk d = true
  rotate_left
  · rw [Bool.not_eq_true] at hf
    rw [hf]
    exact iteT (q0 hf H1 s1)
  rw [hf]
  refine iteF ?_
  obtain ⟨V, rfl, V2, hV⟩ := form_is hf
  have q1 := q1 V rfl V2 hV
  obtain ⟨f1, f2⟩ := few.le V rfl
  have hd1 := hd.same s1
  rw [tracesD_txt] at hd1
  obtain ⟨xs, t, rfl, hq, hall⟩ := hd1.tupE2
  have hd1 : Dv K H1 (.ref t) (tupD (txt V)) := .tup hq hall
  have tl := txt_len V
  have short : ∀ w ∈ txt V, w.length ≤ 10000 := fun w hw => by
    obtain ⟨t, ht, rfl⟩ := List.mem_map.mp hw
    rw [List.length_map]
    have : t.length ≤ total V := mem_sum (List.mem_map.mpr ⟨t, ht, rfl⟩)
    omega
  refine ⟨_, rfl, fun u dx hu hdx ndu => ⟨u, dx, t, txt V, rfl, upd_same, ?_, by omega, short, (txt_ok hV).2, fun l H2 hl b2 U2 => ⟨rfl, ?_⟩⟩⟩
  · exact hd1.same (Same.trans (same_new hdx _) (same_new (by rw [upd_ne ndu.symm]; exact hu) _))
  have sA : Same H1 (upd (upd H1 dx (.own u)) u (.ins C dx [])) := Same.trans (same_new hdx _) (same_new (by rw [upd_ne ndu.symm]; exact hu) _)
  have s2 : Same H1 H2 := same_out sA b2 hu
  have hl1 : H1 l = none := sA.free hl
  refine ⟨small (by show 0 ≤ 1000; decide), fun D0 hD0 => ?_⟩
  have s3 := same_new hD0 (.lst [])
  have U3 := U2.same s3
  have hD3 : (upd H2 D0 (.lst [])) D0 = some (.lst []) := upd_same
  have nlD : l ≠ D0 := ne_of_none U2.rd hD0
  have d0 : H1 D0 = none := s2.free hD0
  have s13 := Same.trans s2 s3
  generalize upd H2 D0 (.lst []) = H3 at U3 hD3 s13 ⊢
  obtain ⟨dx3, ho3⟩ := U3.ob
  have n0 : ∀ r, (List.replicate (txt V).length 0).getD r 0 = 0 := fun r => by
    rw [List.getD_eq_getElem?_getD, List.getElem?_replicate]
    split <;> rfl
  have says : Says V [] (nextW (txt V) (List.replicate (txt V).length 0)) := ⟨hV, fun r hr => nextW_nxt (n0 r)⟩
  have first := first_begun says
  have nuD : u ≠ D0 := by
    obtain ⟨dx2, ho2⟩ := U2.ob
    exact ne_of_none ho2 hD0
  refine ⟨.ref u, rfl, u, dx3, _, rfl, ho3, (by kernel_rfl), u, t, l, txt V, _, rfl, U3, (txt_ok hV).1, fun no H4 s4 => ⟨.ref t, u, t, l, D0, V, _, [], [], .non, H1, rfl, ⟨U3.same s4, s4 _ _ hD3, .nil, Same.trans s13 s4, hu, hl1, d0, nlD⟩, .inl ⟨rfl, begun_nil V, ?_, fun r hr => n0 r⟩, hV, f2, ?_⟩, fun q fa l' H4 hl4 b4 U4 => ⟨.ref t, u, t, l', D0, V, _, [], [], .int (q : Int), H1, rfl, ⟨U4, b4 _ _ hD3 nuD.symm, .nil, same_out s13 b4 hu, hu, s13.free hl4, d0, (ne_of_none hD3 hl4).symm⟩, ?_, hV, f2, ?_⟩⟩
  · intro e he
    rw [tl] at no first
    exact no e.2 ((first e.2).mpr ⟨e.1, he⟩)
  rotate_left
  · rw [tl] at fa first
    obtain ⟨c, hc⟩ := (first q).mp fa
    exact .inr ⟨c, q, rfl, hc, rd_first tl⟩
  all_goals
    rintro l n vs o H5 S ⟨B, he, hn⟩
    obtain ⟨dx5, ho5⟩ := S.U.ob
    refine ⟨.ref u, rfl, u, dx5, _, rfl, ho5, (by kernel_rfl), u, t, l, txt V, n, rfl, S.U, fun H6 s6 => ⟨_, rfl, ?_⟩⟩
    have wl := whole_len B (by rw [S.U.len, txt_len]) hn
    have s16 : Same H H6 := Same.trans (Same.trans s1 S.same) s6
    by_cases hw : Whole V o
    · rw [decide_eq_true (wl.mpr hw)]
      refine iteT ⟨.ref D0, rfl, D0, vs, rfl, .inl ⟨.inl (.inl (s6 _ _ S.out)), fun a ha => ?_⟩⟩
      have s7 := same_new ha (.tup vs)
      exact q1 (outD o) (.ref a) _ (.inl ⟨o, rfl, hw⟩) (Same.trans s16 s7) (.tup (.inl (.inl upd_same)) ((S.ds.same s6).same s7))
    · rw [decide_eq_false (fun z => hw (wl.mp z))]
      exact iteF (q1 .none .non H6 (due_end B he hw) s16 .non)
end
end Fk
set_option Elab.async false
set_option linter.all false
set_option maxRecDepth 100000
set_option maxHeartbeats 2000000
/-! ### a tuple turned about -/
namespace HT
open PySem PySem.Spec PyProof.Rows
section
variable {prog : Program} {w : World} {A : Around} {E : Value → Shared → Prop} {s : Shared}
theorem adjust_rev (n : Nat) : Builtin.Slice.sliceAdjust none none (-1) (n : Int) = ((n : Int) - 1, -1) := by
  unfold Builtin.Slice.sliceAdjust
  simp
theorem places_rev (n : Nat) : Builtin.Slice.slicePlaces ((n : Int) - 1) (-1) (-1) = n := by
  unfold Builtin.Slice.slicePlaces
  rw [if_neg (by decide)]
  by_cases h : (n : Int) - 1 > -1
  · rw [if_pos h, show (-(-1) : Int) = 1 by decide, Int.ediv_one]
    omega
  · rw [if_neg h]
    omega
theorem fm_congr {α β : Type} {f g : α → Option β} : ∀ {l : List α}, (∀ x ∈ l, f x = g x) → l.filterMap f = l.filterMap g
  | [], _ => rfl
  | a :: l, h => by
    rw [List.filterMap_cons, List.filterMap_cons, h a List.mem_cons_self, fm_congr fun x hx => h x (List.mem_cons_of_mem _ hx)]
theorem pick_rev (xs : Array Value) : ((List.range xs.size).filterMap fun (m : Nat) => xs[(((xs.size : Int) - 1) + (m : Int) * (-1)).toNat]?).toArray = xs.toList.reverse.toArray := by
  have e : (List.range xs.size).filterMap (fun (m : Nat) => xs[(((xs.size : Int) - 1) + (m : Int) * (-1)).toNat]?) = ((List.range xs.size).map fun k => xs.size - 1 - k).filterMap (xs[·]?) := by
    rw [List.filterMap_map]
    refine fm_congr fun m hm => ?_
    have := List.mem_range.mp hm
    have e : (((xs.size : Int) - 1) + (m : Int) * (-1)).toNat = xs.size - 1 - m := by omega
    rw [e]
    rfl
  rw [e, PySem.W.krv_range, List.filterMap_reverse, PySem.W.krv_all]
theorem sliceApplied_rev {sl : Addr} {vl vu vs : Value} {n : Nat} {Q : Int × Int × Nat → Shared → Prop} (hs : s.heap.IsSliceOf sl vl vu vs) (pl : IsPart vl none) (pu : IsPart vu none) (ps : IsPart vs (some (-1)))
    (h : Q ((n : Int) - 1, -1, n) s) : wpAny (model prog w) A (Builtin.Slice.sliceApplied (.ref sl) (pure (n : Int))) Q E s := by
  obtain ⟨os, hos, hcs, hds⟩ := id hs
  unfold Builtin.Slice.sliceApplied Builtin.Slice.sliceFields
  refine wpAny_bind (wpAny_bind (wpAny_field hos hds (x := vl) rfl (wpAny_bind (wpAny_field hos hds (x := vu) rfl (wpAny_bind (wpAny_field hos hds (x := vs) rfl (wpAny_pure ?_)))))))
  refine wpAny_bind (slicePart_ ps ?_)
  show wpAny _ _ (if ((-1 : Int) == 0) = true then _ else _) _ _ s
  rw [if_neg (by decide)]
  refine wpAny_bind (slicePart_ pl (wpAny_bind (slicePart_ pu (wpAny_bind (wpAny_pure ?_)))))
  show wpAny _ _ (match Builtin.Slice.sliceAdjust none none (-1) (n : Int) with | (lo, hi) => pure (lo, (-1 : Int), Builtin.Slice.slicePlaces lo hi (-1))) _ _ s
  rw [adjust_rev n]
  show wpAny _ _ (pure ((n : Int) - 1, (-1 : Int), Builtin.Slice.slicePlaces ((n : Int) - 1) (-1) (-1))) _ _ s
  rw [places_rev]
  exact wpAny_pure h
theorem getItem_tuple_rev {t sl : Addr} {items : Array Value} {vl vu vs : Value} {Q : Value → Shared → Prop} (ht : IsTup s.heap t items) (hs : s.heap.IsSliceOf sl vl vu vs) (pl : IsPart vl none) (pu : IsPart vu none) (ps : IsPart vs (some (-1)))
    (h : Q (.ref s.heap.objs.size) { s with heap := s.heap.push { cls := .type "tuple", data := .seq items.toList.reverse.toArray } })
    (hsz : items.size ≤ sizeLine) : wpAny (model prog w) A (getItem (.ref t) (.ref sl)) Q E s := by
  have htake : sizeOk (.seq items.toList.reverse.toArray) := by
    show items.toList.reverse.toArray.size ≤ sizeLine
    rw [List.size_toArray, List.length_reverse, Array.length_toList]
    exact hsz
  obtain ⟨os, hos, hcs, hds⟩ := id hs
  have hTs : s.TypeIs (.ref sl) "slice" := ⟨os, hos, hcs⟩
  unfold getItem
  try with_reducible refine wpAny_holding ?_
  first | refine wpAny_bind (wpAny_pure ?_) | skip
  refine wpAny_bind (wpAny_sequenceKey ht.typeIs (by decide) ?_)
  refine wpAny_bind (wpAny_callSpecial?_slot (name := Str.ofString "__getitem__") ht.typeIs PyProof.Rows.slot_tuple_getitem
    (wpAny_call_entry PyProof.Rows.slot_tuple_getitem ht.typeIs entry_tuple_getitem ?_ (args_tuple_getitem _ _)))
  show wpAny _ _ (Builtin.Tuple.tupleItemsOf (.ref t) >>= _) _ _ s
  refine wpAny_bind (tupleItemsOf_ ht ?_)
  refine wpAny_bind (wpAny_typeOf hTs ?_)
  rw [if_pos (by decide)]
  refine wpAny_bind (sliceApplied_rev hs pl pu ps ?_)
  have hno : ¬ ((((items.size : Int) - 1) == 0 && (-1 : Int) == 1 && items.size == items.size) = true) := by
    intro q
    rw [Bool.and_eq_true, Bool.and_eq_true] at q
    exact absurd q.1.2 (by decide)
  show wpAny _ _ (if (((items.size : Int) - 1) == 0 && (-1 : Int) == 1 && items.size == items.size) = true then _ else _) _ _ s
  rw [if_neg hno, pick_rev]
  first
    | exact wpAny_bind (m := Builtin.Tuple.tupleExact _) (wpAny_newObj_type (wpAny_pure ⟨_, rfl, wpAny_pure h⟩) htake)
    | exact wpAny_bind (m := Builtin.Tuple.tupleExact _) (wpAny_newObj_type (wpAny_bind (wpAny_pure (wpAny_pure ⟨_, rfl, wpAny_pure h⟩))) htake)
    | exact wpAny_bind (wpAny_bind (m := Builtin.Tuple.tupleExact _) (wpAny_newObj_type (wpAny_pure (wpAny_pure ⟨_, rfl, wpAny_pure h⟩)) htake))
    | exact wpAny_bind (wpAny_bind (m := Builtin.Tuple.tupleExact _) (wpAny_newObj_type (wpAny_pure ⟨_, rfl, wpAny_pure h⟩) htake))
end
end HT
namespace Fk
open PySem PySem.Spec PyProof.Rows L2
variable {X : Cx}
def tRevT (K : PySem.W.Frag) (te : TE) : TE := fun σ H Q => te σ H fun x H1 => ∃ a xs, x = .ref a ∧ SqT K H1 a xs ∧ ∀ p, H1 p = none → Q (.ref p) (upd H1 p (.tup xs.reverse))
theorem pe_revT {e : Expr} {te : TE} {k : Nat} {p1 p2 p3 pos : PySem.Pos} (he : PE X e te) : PE X (.Subscript e (.Slice none none (some (.UnaryOp .USub (.Constant (.int 1) k p1) p2)) p3) pos) (tRevT X.K te) := by
  refine ⟨fun pins s σ H Q I h => ?_⟩
  refine Subscript_ (thn (he.run pins s σ H _ I h) fun v s1 ⟨x, H1, I1, r1, q1⟩ => ?_)
  obtain ⟨a, xs, ex, hx, q⟩ := q1
  subst ex
  cases r1
  have hst : PO X (some (.UnaryOp .USub (.Constant (.int 1) k p1) p2)) (tPart (tUn (rU fun i => .int (-i)) (tC (.int 1)))) := po_some (pe_un un_neg pe_int)
  refine wpAny_Slice (thn (po_none.run pins s1 σ H1 (fun o H2 => o = none ∧ H2 = H1) I1 ⟨rfl, rfl⟩) fun vl s2 ⟨l, H2, I2, pl, el, e2⟩ => ?_)
  subst el e2
  refine thn (po_none.run pins s2 σ H2 (fun o H3 => o = none ∧ H3 = H2) I2 ⟨rfl, rfl⟩) fun vu s3 ⟨u, H3, I3, pu, eu, e3⟩ => ?_
  subst eu e3
  refine thn (hst.run pins s3 σ H3 (fun o H4 => o = some (-1) ∧ H4 = H3) I3 ⟨1, rfl, -1, rfl, rfl, rfl⟩) fun vs s4 ⟨o, H4, I4, ps, eo, e4⟩ => ?_
  subst eo e4
  have I5 : Inv X pins σ H4 { s4 with heap := s4.heap.push { cls := .type "slice", data := .fields #[vl, vu, vs] } } := I4.kept (t' := s4.toks) fun b ob q => Heap.get?_push_of_some _ q
  obtain ⟨its, r, ht, hz⟩ := I5.tuple hx
  have hlen := r.length
  show wpAny (model X.prog X.w) X.A (subscriptTail e (.Slice none none (some (.UnaryOp .USub (.Constant (.int 1) k p1) p2)) p3) (.ref a) (.ref s4.heap.objs.size)) (EP X pins σ Q) X.xe { s4 with heap := s4.heap.push { cls := .type "slice", data := .fields #[vl, vu, vs] } }
  refine tail_any (ops := [.ref a, .ref s4.heap.objs.size]) ht.typeIs (PyProof.Rows.slot_tuple_getitem.lookup) ?_ (by with_unfolding_all rfl)
  refine HT.getItem_tuple_rev ht (Heap.IsSliceOf.new _ vl vu vs) pl pu ps ?_ (by rw [List.size_toArray]; omega)
  refine ⟨.ref _, _, I5.laid (t' := s4.toks) (o := .tup xs.reverse) (fun b ob q => Heap.get?_push_of_some _ q) (Nat.le_refl _) ?_, rfl, q _ (I5.hok.fresh (Nat.le_refl _))⟩
  exact ⟨by rw [List.length_reverse]; exact hz, _, r.reverse, IsTup.new _ _⟩
/-! in a block K is named -/
theorem op_eqB {K : PySem.W.Frag} (hK : X.K = K) (hu : X.A.units + 64 < cLine) : OpR X (compareOp .Eq) (rEqW K) := by
  subst hK
  exact op_eqW hu
theorem sl_tupB {K : PySem.W.Frag} (hK : X.K = K) : SlR X (rSlA K) := by
  subst hK
  exact sl_tupA
theorem op_catB {K : PySem.W.Frag} (hK : X.K = K) : OpR X (binaryOp .Add) (rCatA K) := by
  subst hK
  exact op_catA
end Fk
set_option Elab.async false
set_option linter.all false
set_option maxRecDepth 100000
set_option maxHeartbeats 2000000
namespace Fk
open PySem L2
/-! ### _law_is_begun -/
abbrev s__law_is_begun : Stmt := top 18
abbrev sc__law_is_begunN : List Str := ["_law_output", "_law_value", "_law_mine", "_law_trace_here", "_law_whole"]
theorem sc__law_is_begun : FnScope sc__law_is_begunN ["_law_output", "_law_value"] (defScope s__law_is_begun) := ⟨rfl, rfl, rfl, by decide +kernel, rfl, by decide +kernel, by decide +kernel⟩
theorem walk_zipT {K : PySem.W.Frag} {a b : Addr} {xs ys : List L2.V} {n : Nat} (hn : n = min xs.length ys.length) : Walk (RZ.ItzT K a b) n (fun H => SqT K H a xs ∧ SqT K H b ys) (YPair (fun i => xs[i]?) (fun i => ys[i]?)) := by
  subst hn
  refine ⟨fun i _ hi q => ?_, fun _ q => ⟨xs, ys, q.1, q.2, by omega⟩, fun i H v H' _ q y => ?_⟩
  · have h1 : i < xs.length := by omega
    have h2 : i < ys.length := by omega
    exact ⟨xs, ys, xs[i], ys[i], q.1, q.2, by simp [h1], by simp [h2]⟩
  · obtain ⟨T, x, z, h1, h2, h3, h4, h5⟩ := y
    exact ⟨T, x, z, h1, h2, h3, h4 xs q.1, h5 ys q.2⟩
def spBegun (K : PySem.W.Frag) : Sp := fun vs H Q _ => ∃ (a t : Addr) (o : List Ev) (Z : Trs), vs = [.ref a, .ref t] ∧ Dv K H (.ref a) (outD o) ∧ Ones o ∧ o.length ≤ 900 ∧ Dv K H (.ref t) (tracesD Z) ∧ FormV Z ∧ Z.length ≤ 900 ∧ total Z ≤ 900 ∧ (∀ e ∈ o, e.2 < Z.length) ∧
  ∀ (c : Bool) (H' : Hp), (c = true ↔ Begun Z o) → Same H H' → Q (.bl c) H'
theorem form_trs {o : List Ev} (h : Ones o) (n : Nat) : FormV (trs o n) := fun t ht c hc => by
  obtain ⟨i, _, rfl⟩ := List.mem_map.mp ht
  exact tr_ones h i c hc
theorem wS_inj {u v : Wd Str} (hu : ∀ c, u = .lt c → c.length = 1) (hv : ∀ c, v = .lt c → c.length = 1) (h : wS u = wS v) : u = v := by
  obtain ⟨l0, l1, l2, n1, n2, n3⟩ := lens5
  have no : ∀ {c z : Str}, c.length = 1 → z.length = 5 → z ≠ c := fun {c z} a b e => by
    rw [e] at b
    omega
  cases u with
  | up =>
    cases v with
    | up => rfl
    | dn => exact absurd h n1
    | lt c => exact absurd h (no (hv c rfl) l1)
  | dn =>
    cases v with
    | up => exact absurd h.symm n1
    | dn => rfl
    | lt c => exact absurd h (no (hv c rfl) l2)
  | lt c =>
    cases v with
    | up => exact absurd h.symm (no (hu c rfl) l1)
    | dn => exact absurd h.symm (no (hu c rfl) l2)
    | lt d => exact congrArg _ h
theorem map_wS_inj : ∀ {a b : List (Wd Str)}, (∀ c, Wd.lt c ∈ a → c.length = 1) → (∀ c, Wd.lt c ∈ b → c.length = 1) → a.map wS = b.map wS → a = b
  | [], [], _, _, _ => rfl
  | [], _ :: _, _, _, h => by cases h
  | _ :: _, [], _, _, h => by cases h
  | x :: a, y :: b, ha, hb, h => by
    rw [List.map_cons, List.map_cons] at h
    injection h with h1 h2
    rw [wS_inj (fun c e => ha c (by rw [← e]; exact List.mem_cons_self)) (fun c e => hb c (by rw [← e]; exact List.mem_cons_self)) h1,
      map_wS_inj (fun c hc => ha c (List.mem_cons_of_mem _ hc)) (fun c hc => hb c (List.mem_cons_of_mem _ hc)) h2]
theorem mem_at {Z : Trs} {i : Nat} {t : List (Wd Str)} (h : Z[i]? = some t) : Z.getD i [] = t := by rw [List.getD_eq_getElem?_getD, h]; rfl
def begAt (Z : Trs) (o : List Ev) (i : Nat) : Bool := decide ((tr o i).map wS = ((Z.getD i []).map wS).take (tr o i).length)
theorem begAt_is {Z : Trs} {o : List Ev} (hZ : FormV Z) (ho : Ones o) {i : Nat} {t : List (Wd Str)} (h : Z[i]? = some t) : begAt Z o i = true ↔ tr o i <+: t := by
  unfold begAt
  rw [mem_at h, decide_eq_true_iff, List.prefix_iff_eq_take, ← List.map_take]
  constructor
  · intro e
    exact map_wS_inj (fun c hc => (tr_ones ho i c hc).1) (fun c hc => (hZ t (List.mem_of_getElem? h) c (List.mem_of_mem_take hc)).1) e
  · intro e
    exact congrArg _ e
theorem begAt_all {Z : Trs} {o : List Ev} (hZ : FormV Z) (ho : Ones o) (hin : ∀ e ∈ o, e.2 < Z.length) : ((List.range Z.length).map (begAt Z o)).all id = true ↔ Begun Z o := by
  rw [List.all_map, List.all_eq_true]
  constructor
  · intro h
    refine ⟨hin, fun r t ht => (begAt_is hZ ho ht).mp (h r (List.mem_range.mpr (List.getElem?_eq_some_iff.mp ht).1))⟩
  · intro h i hi
    exact (begAt_is hZ ho (List.getElem?_eq_getElem (List.mem_range.mp hi))).mpr (h.2 i _ (List.getElem?_eq_getElem (List.mem_range.mp hi)))
theorem trs_len (o : List Ev) (n : Nat) : (trs o n).length = n := by
  unfold trs
  rw [List.length_map, List.length_range]
theorem trs_at {o : List Ev} {n i : Nat} (h : i < n) : (trs o n)[i]? = some (tr o i) := by
  unfold trs
  rw [List.getElem?_map, List.getElem?_range h]
  rfl
/-- the i-th trace as it stands -/
theorem dv_traces {K : PySem.W.Frag} {H : Hp} {t : Addr} {Z : Trs} (h : Dv K H (.ref t) (tracesD Z)) (hZ : FormV Z) : ∃ xs, SqT K H t xs ∧ xs.length = Z.length ∧ ∀ (i : Nat) (x : L2.V), xs[i]? = some x → ∃ (b : Addr) (w : List (Wd Str)), x = .ref b ∧ Z[i]? = some w ∧ SqT K H b ((w.map wS).map .str) := by
  unfold tracesD at h
  cases h with
  | @tup _ xs _ hq hall =>
  refine ⟨xs, hq, by rw [hall.len, List.length_map], fun i x hx => ?_⟩
  obtain ⟨d, hd, hv⟩ := hall.get hx
  rw [List.getElem?_map] at hd
  cases e : Z[i]? with
  | none => rw [e] at hd; cases hd
  | some w =>
    rw [e] at hd
    have hd : trD w = d := by injection hd
    subst hd
    unfold trD at hv
    cases hv with
    | @tup b ys _ hq2 hall2 => exact ⟨b, w, rfl, rfl, by rw [← dv_strs_eq hall2]; exact hq2⟩
theorem trace_ok {Z : Trs} (hZ : FormV Z) {w : List (Wd Str)} (h : w ∈ Z) : StrOks (w.map wS) ∧ ∀ z ∈ w.map wS, z.length ≤ 1000000 := by
  obtain ⟨h1, h2⟩ := txt_ok hZ
  exact ⟨h1 _ (List.mem_map.mpr ⟨w, h, rfl⟩), h2 _ (List.mem_map.mpr ⟨w, h, rfl⟩)⟩
section
variable {P : Program} {w : World} {K : PySem.W.Frag} {mg : Str → Option Value} {base : Heap}
theorem ok_begun {f : Addr} {fd : FuncData} (F : Fun K "_law_is_begun" "_law_is_begun" s__law_is_begun f fd) (T : Bare mg) (CK : Con K mg) (CT : Callee P w K mg base 2 "_law_traces" ["_law_output", "_law_many"] (spTraces K)) : FnOk P w K mg base CX0 3 f fd ["_law_output", "_law_value"] (spBegun K) := by
  refine F.ok sc__law_is_begun (fun vs H Q E h => ?_) (fun cdv A outer st H vs Q E hr h => ?_)
  · obtain ⟨a, t, o, Z, rfl, _⟩ := h
    rfl
  obtain ⟨a, t, o, Z, rfl, hd, ho, hlo, hv, hZ, lZ, tZ, hin, q⟩ := h
  refine ⟨_, (pss_cons (ps_set (i := 2) sc__law_is_begun.nd rfl (Or.inl rfl) (pe_call CT.ok hr rfl CT.mg CT.kp CT.b .nil pass0 (pa_cons (pv 0) (pa_cons (pe_callB call_len_seq (by rfl) T.len PySem.boot_len (pa_cons (pv 1) pa_nil)) pa_nil))))
(pss_one (ps_ret (pe_all (K := K) rfl rfl (by rfl) CK.all (pa_cons (pe_lc (own := [("_law_trace_here", 3), ("_law_whole", 4)]) (g := gTup K 2 (gCons (gName 3) (gCons (gName 4) gNil))) rfl sc__law_is_begun.nd (RZ.pi_zipA (by rfl) CK.zip (pa_cons (pv 2) (pa_cons (pv 1) pa_nil))) (blkOk_by (N := sc__law_is_begunN) (sc := defScope s__law_is_begun) (by decide +kernel)) (fun _ _ _ _ _ => pg_tup (by rfl) (pgs_cons (pg_name (i := 3) sc__law_is_begun.nd rfl (Or.inl rfl)) (pgs_cons (pg_name (i := 4) sc__law_is_begun.nd rfl (Or.inl rfl)) pgs_nil))) (fun _ _ _ _ _ => pts_nil) (fun _ _ _ _ _ => (pe_cmpR (op_eqB (K := K) rfl hr.units) (pv 3) (pe_slice (sl_tupB (K := K) rfl) (pv 4) po_none (po_some (pe_callB (call_lenB (K := K) rfl) (by rfl) T.len PySem.boot_len (pa_cons (pv 3) pa_nil)))) (nomark _)))) pa_nil))))), ?_⟩
  obtain ⟨ys, hqy, ly, hy⟩ := dv_traces hv hZ
  refine ⟨.ref a, rfl, .ref t, rfl, t, ys, rfl, .inr hqy, a, Z.length, o, (by show [L2.V.ref a, L2.V.int ((ys.length : Nat) : Int)] = _; rw [ly]), hd, ho, hlo, by omega, fun t1 H1 s1 h1 => ?_⟩
  obtain ⟨xs, hqx, lx, hx⟩ := dv_traces h1 (form_trs ho _)
  rw [trs_len] at lx
  have hqy1 := same_sqT s1 hqy
  have hy1 := fun i x h => (hy i x h).elim fun b h => h.elim fun w h => (⟨b, w, h.1, h.2.1, same_sqT s1 h.2.2⟩ : ∃ b w, x = .ref b ∧ Z[i]? = some w ∧ SqT K H1 b ((w.map wS).map .str))
  refine ⟨.ref t1, rfl, .ref t, rfl, t1, t, xs, ys, rfl, .inr ⟨hqx, hqy1, fun D hD => lc_it (walk_zipT (n := Z.length) (xs := xs) (ys := ys) (by omega)) (fun i H' => H' D = some (.lst (((List.range i).map (begAt Z o)).map .bl)) ∧ Same H1 H') ⟨upd_same, same_new hD _⟩ (fun i H' hi pv => ⟨same_sqT pv.2 hqx, same_sqT pv.2 hqy1⟩) (fun i x H' H2 hi pv y => ?_) (fun H2 pv => ?_)⟩⟩
  · obtain ⟨g1, g2⟩ := pv
    obtain ⟨Tt, xv, yv, rfl, hT, rfl, hxv, hyv⟩ := y
    obtain ⟨b, wb, rfl, ewb, hqb⟩ := hx i xv hxv
    obtain ⟨c, wc, rfl, ewc, hqc⟩ := hy1 i yv hyv
    rw [trs_at hi] at ewb
    have ewb : tr o i = wb := by injection ewb
    subst ewb
    have sT := same_new hT (.tup [L2.V.ref b, L2.V.ref c])
    refine ⟨Tt, _, rfl, .inl (.inl upd_same), rfl, _, _, rfl, _, _, rfl, rfl, rfl, ?_⟩
    simp only [tYes, ↓reduceIte]
    have g3 := sT _ _ g1
    have g4 := Same.trans g2 sT
    generalize upd H' Tt (.tup [L2.V.ref b, L2.V.ref c]) = H3 at g3 g4 ⊢
    have hqb3 := same_sqT g4 hqb
    have hqc3 := same_sqT g4 hqc
    have okb := trace_ok (form_trs ho Z.length) (List.mem_of_getElem? (trs_at (o := o) hi))
    have okc := trace_ok hZ (List.mem_of_getElem? ewc)
    have okt : StrOks (((wc.map wS).take (tr o i).length)) ∧ ∀ z ∈ (wc.map wS).take (tr o i).length, z.length ≤ 1000000 := ⟨fun z hz => okc.1 z (List.mem_of_mem_take hz), fun z hz => okc.2 z (List.mem_of_mem_take hz)⟩
    have key : ∀ (H4 : Hp) (y : L2.V), Same H3 H4 → Dv K H4 y (.tuple (((wc.map wS).take (tr o i).length).map .str)) → rEqW K (.ref b) y H4 fun y H4 => ∃ acc, H4 D = some (.lst acc) ∧ acc.length < sizeLine ∧ (upd H4 D (.lst (acc ++ [y]))) D = some (.lst (((List.range (i + 1)).map (begAt Z o)).map .bl)) ∧ Same H1 (upd H4 D (.lst (acc ++ [y]))) := fun H4 y s4 hy4 => by
      refine ⟨_, _, .tup (same_sqT s4 hqb3) (dv_strs okb.2), hy4, (shaped_strs okb.1).1, (shaped_strs okt.1).1, _, s4 _ _ g3, ?_, ?_, fun p ob hp => ?_⟩
      · rw [List.length_map, List.length_map, List.length_range]
        exact Nat.lt_of_lt_of_le (by omega : i < 1001) (by rw [sizeLine_eq]; decide)
      · rw [upd_same, List.range_succ, List.map_append, List.map_append]
        have e : PyData.eqv (.tuple (((tr o i).map wS).map .str)) (.tuple (((wc.map wS).take (tr o i).length).map .str)) = begAt Z o i := by
          unfold begAt
          rw [mem_at ewc]
          exact eqv_strs _ _
        rw [e]
        rfl
      · rw [upd_ne (ne_of_none hp hD)]
        exact s4 _ _ (g4 _ _ hp)
    refine ⟨.ref b, rfl, .ref c, rfl, .ref b, rfl, b, _, rfl, .inr hqb3, _, rfl, c, _, rfl, hqc3, fun hw => ?_, fun hw p hp => ?_⟩
    · refine key H3 (.ref c) (fun _ _ e => e) ?_
      have e : (wc.map wS).take (tr o i).length = wc.map wS := by
        have h2 := hw.2
        rw [HT.sIx_nat] at h2
        rw [List.length_map, List.length_map] at h2
        exact List.take_of_length_le (by rw [List.length_map] at h2 ⊢; rw [List.length_map] at h2; omega)
      rw [e]
      exact .tup hqc3 (dv_strs okc.2)
    · refine key _ (.ref p) (same_new hp _) ?_
      refine .tup (.inl (.inl upd_same)) ?_
      rw [cutV_to, List.length_map, List.length_map, ← List.map_take]
      exact dv_strs okt.2
  · refine ⟨D, _, rfl, .inl (.inl pv.1), ?_⟩
    exact q _ H2 (begAt_all hZ ho hin) (Same.trans s1 pv.2)
end
end Fk
set_option Elab.async false
set_option linter.all false
set_option maxRecDepth 100000
set_option maxHeartbeats 2000000
namespace Fk
open PySem L2
/-! ### the search among all orders, turn by turn -/
abbrev lts (Z : Trs) (i : Nat) : List Str := letters (Z.getD i [])
def size (Z : Trs) : Nat := ((List.range Z.length).map fun i => (lts Z i).length).sum
theorem letter_of (w : Wd Str) : letter? w = (match w with | .lt c => some c | _ => none) := by cases w <;> rfl
theorem sum_le {n : Nat} {f g : Nat → Nat} (h : ∀ i, i < n → f i ≤ g i) : ((List.range n).map f).sum ≤ ((List.range n).map g).sum := by
  have : ∀ l : List Nat, (∀ i ∈ l, f i ≤ g i) → (l.map f).sum ≤ (l.map g).sum := fun l => by
    induction l with
    | nil => intro _; exact Nat.le_refl _
    | cons a l ih =>
      intro h
      rw [List.map_cons, List.sum_cons, List.map_cons, List.sum_cons]
      have h1 := h a List.mem_cons_self
      have h2 := ih fun i hi => h i (List.mem_cons_of_mem _ hi)
      omega
  exact this _ fun i hi => h i (List.mem_range.mp hi)
theorem total_range (Z : Trs) : total Z = ((List.range Z.length).map fun i => (Z.getD i []).length).sum := by
  unfold total
  refine congrArg List.sum (range_map (f := fun i => (Z.getD i []).length) (g := List.length) fun i a h => ?_).symm
  rw [mem_at h]
theorem size_total (Z : Trs) : size Z ≤ total Z := by
  rw [total_range]
  refine sum_le fun i _ => ?_
  unfold lts letters
  exact List.length_filterMap_le _ _
theorem whole_size {Z : Trs} {o : List Ev} (h : Whole Z o) : o.length = size Z := by
  rw [← sum_many Z.length o h.1]
  unfold size
  refine congrArg List.sum (List.map_congr_left fun i hi => ?_)
  have hi := List.mem_range.mp hi
  rw [← letters_many, h.2 i _ (List.getElem?_eq_getElem hi)]
  unfold lts
  rw [mem_at (List.getElem?_eq_getElem hi)]
noncomputable def begB (Z : Trs) (o : List Ev) : Bool := @decide (Begun Z o) (Classical.propDecidable _)
theorem begB_is {Z : Trs} {o : List Ev} : begB Z o = true ↔ Begun Z o := @decide_eq_true_iff _ (Classical.propDecidable _)
noncomputable def whB (Z : Trs) (o : List Ev) : Bool := @decide (Whole Z o) (Classical.propDecidable _)
theorem whB_is {Z : Trs} {o : List Ev} : whB Z o = true ↔ Whole Z o := @decide_eq_true_iff _ (Classical.propDecidable _)
theorem eq_bool {a b : Bool} {p : Prop} (h : a = true ↔ p) (h2 : b = true ↔ p) : a = b := Bool.eq_iff_iff.mpr (h.trans h2.symm)
/-- what is found with m letters -/
def Found (Z : Trs) (m : Nat) (os : List (List Ev)) : Prop := (os = [] ∧ ∀ o, Begun Z o → o.length < m) ∨ ∃ o, os = [o] ∧ Begun Z o ∧ o.length = m
theorem found_zero (Z : Trs) : Found Z 0 [[]] := .inr ⟨[], rfl, begun_nil Z, rfl⟩
theorem found_turn {Z : Trs} {m : Nat} {os : List (List Ev)} (h : Found Z m os) : Found Z (m + 1) ((os.flatMap (longer Z)).filter (begB Z)) := by
  rcases h with ⟨rfl, h⟩ | ⟨o, rfl, h, hl⟩
  · exact .inl ⟨rfl, fun o b => Nat.lt_succ_of_lt (h o b)⟩
  · have e : List.flatMap (longer Z) [o] = longer Z o := by simp
    rw [e]
    by_cases hx : ∃ f, Begun Z (o ++ [f])
    · obtain ⟨f, hf⟩ := hx
      refine .inr ⟨o ++ [f], turn_one (fun e _ => begB_is) hf, hf, ?_⟩
      rw [List.length_append, hl]
      rfl
    · have hx : ∀ e, ¬ Begun Z (o ++ [e]) := fun e he => hx ⟨e, he⟩
      refine .inl ⟨turn_none (fun e _ => begB_is.mp) hx, fun o' b => ?_⟩
      refine Nat.lt_of_not_le fun g => ?_
      have h1 := begun_pre b (m + 1)
      have hm : m < o'.length := by omega
      rw [List.take_add_one, List.getElem?_eq_getElem hm] at h1
      have h2 := begun_pre b m
      rw [← begun_same h h2 (by rw [List.length_take]; omega)] at h1
      exact hx _ h1
theorem found_in {Z : Trs} {m : Nat} {os : List (List Ev)} (h : Found Z m os) : os.length ≤ 1 ∧ ∀ o ∈ os, Begun Z o := by
  rcases h with ⟨rfl, h⟩ | ⟨o, rfl, h, hl⟩
  · exact ⟨by simp, fun o h => by cases h⟩
  · exact ⟨by simp, fun o' h' => by rw [List.mem_singleton.mp h']; exact h⟩
theorem found_end {Z : Trs} {os : List (List Ev)} (h : Found Z (size Z) os) : (os.filter (whB Z) = [] ∧ Due Z .none) ∨ ∃ o, os.filter (whB Z) = [o] ∧ Due Z (outD o) := by
  rcases h with ⟨rfl, h⟩ | ⟨o, rfl, h, hl⟩
  · exact .inl ⟨rfl, .inr ⟨rfl, fun o w => absurd (h o w.begun) (by rw [whole_size w]; exact Nat.lt_irrefl _)⟩⟩
  · by_cases w : Whole Z o
    · refine .inr ⟨o, ?_, .inl ⟨o, rfl, w⟩⟩
      rw [List.filter_cons_of_pos (whB_is.mpr w)]
      rfl
    · refine .inl ⟨?_, .inr ⟨rfl, fun o' w' => w ?_⟩⟩
      · rw [List.filter_cons_of_neg fun z => w (whB_is.mp z)]
        rfl
      · rw [begun_same h w'.begun (by rw [hl, whole_size w'])]
        exact w'
theorem longer_len (Z : Trs) (o : List Ev) (n : Nat) : ((List.range n).flatMap (more Z o)).length ≤ n := by
  induction n with
  | zero => simp
  | succ n ih =>
    rw [List.range_succ, List.flatMap_append, List.length_append]
    have : (List.flatMap (more Z o) [n]).length ≤ 1 := by
      rw [show List.flatMap (more Z o) [n] = more Z o n by simp]
      unfold more
      rw [List.length_map, List.length_take]
      omega
    omega
/-- what is sought is in places, of letters, not too long -/
theorem longer_ok {Z : Trs} (hZ : FormV Z) {o x : List Ev} (h : Begun Z o) (hx : x ∈ longer Z o) : Ones x ∧ x.length ≤ total Z + 1 ∧ ∀ e ∈ x, e.2 < Z.length := by
  obtain ⟨r, hr, hx⟩ := List.mem_flatMap.mp hx
  have hr := List.mem_range.mp hr
  unfold more at hx
  obtain ⟨c, hc, rfl⟩ := List.mem_map.mp hx
  have hc : c ∈ letters (Z[r]?.getD []) := List.mem_of_mem_drop (List.mem_of_mem_take hc)
  rw [List.getElem?_eq_getElem hr] at hc
  obtain ⟨w, hw, hc⟩ := List.mem_filterMap.mp hc
  have ew : w = .lt c := by
    cases w with
    | lt d => injection hc with hc; rw [hc]
    | up => cases hc
    | dn => cases hc
  have hw : w ∈ Z[r] := hw
  rw [ew] at hw
  have ok := hZ _ (List.getElem_mem hr) c hw
  refine ⟨fun e he => ?_, ?_, fun e he => ?_⟩
  · rcases List.mem_append.mp he with he | he
    · exact begun_ones hZ o h e he
    · rw [List.mem_singleton.mp he]
      exact ok
  · have := begun_total h
    rw [List.length_append, List.length_singleton]
    omega
  · rcases List.mem_append.mp he with he | he
    · exact h.1 e he
    · rw [List.mem_singleton.mp he]
      exact hr
theorem trs_whole {Z : Trs} {o : List Ev} (hZ : FormV Z) (ho : Ones o) (hin : ∀ e ∈ o, e.2 < Z.length) : decide ((trs o Z.length).map (·.map wS) = Z.map (·.map wS)) = true ↔ Whole Z o := by
  rw [decide_eq_true_iff]
  constructor
  · intro h
    refine ⟨hin, fun r t ht => ?_⟩
    have hr := (List.getElem?_eq_some_iff.mp ht).1
    have h2 := congrArg (·[r]?) h
    simp only [List.getElem?_map, trs_at hr, ht, Option.map_some, Option.some.injEq] at h2
    exact map_wS_inj (fun c hc => (tr_ones ho r c hc).1) (fun c hc => (hZ t (List.mem_of_getElem? ht) c hc).1) h2
  · intro h
    refine congrArg _ (List.ext_getElem (trs_len _ _) fun i h1 h2 => ?_)
    have := trs_at (o := o) h2
    rw [List.getElem?_eq_getElem h1] at this
    have this := Option.some.inj this
    rw [this]
    exact h.2 i _ (List.getElem?_eq_getElem h2)
theorem cutV_one (xs : List L2.V) (k : Nat) : cutV xs (some (k : Int)) (some ((k : Int) + 1)) = (xs.drop k).take 1 := by
  unfold cutV
  rw [show ((k : Int) + 1) = ((k + 1 : Nat) : Int) by omega, HT.sIx_nat, HT.sIx_nat]
  by_cases h : k < xs.length
  · rw [Nat.min_eq_left (by omega), Nat.min_eq_left (by omega), show k + 1 - k = 1 by omega]
  · rw [Nat.min_eq_right (show xs.length ≤ k + 1 by omega), Nat.min_eq_right (show xs.length ≤ k by omega), List.drop_of_length_le (Nat.le_refl _), List.drop_of_length_le (by omega), List.take_nil, List.take_nil]
theorem nl_out (o : List Ev) : noList (outD o) = true := by
  unfold outD
  simp only [noList]
  exact nl_evs o
theorem nl_outs (os : List (List Ev)) : noListAll (os.map outD) = true := nl_all fun d hd => by
  obtain ⟨o, _, rfl⟩ := List.mem_map.mp hd
  exact nl_out o
theorem shaped_out {o : List Ev} (ho : Ones o) : PyData.canLay0 (outD o) = true ∧ PyData.depth (outD o) ≤ 2 := by
  have l : PyData.canLayAll0 (o.map evD) = true := lay_all fun d hd => by
    obtain ⟨e, he, rfl⟩ := List.mem_map.mp hd
    have := strOk_ofL (ho e he).2
    show (PyData.strOk e.1 && (true && true)) = true
    rw [this]
    rfl
  refine ⟨l, ?_⟩
  have e : PyData.depthAll (o.map evD) ≤ 1 := dp_all fun d hd => by
    obtain ⟨e, he, rfl⟩ := List.mem_map.mp hd
    unfold evD
    simp only [PyData.depth, PyData.depthAll]
    omega
  unfold outD
  simp only [PyData.depth]
  omega
theorem shaped_outs {os : List (List Ev)} (h : ∀ o ∈ os, Ones o) : SeqAt.shaped (.list (os.map outD)) = true := by
  refine shaped_of (lay_all fun d hd => ?_) ?_
  · obtain ⟨o, ho, rfl⟩ := List.mem_map.mp hd
    exact (shaped_out (h o ho)).1
  · have e : PyData.depthAll (os.map outD) ≤ 2 := dp_all fun d hd => by
      obtain ⟨o, ho, rfl⟩ := List.mem_map.mp hd
      exact (shaped_out (h o ho)).2
    simp only [PyData.depth]
    omega
end Fk
set_option Elab.async false
set_option linter.all false
set_option maxRecDepth 100000
set_option maxHeartbeats 8000000
namespace Fk
open PySem L2
/-! ### _law_due: the only output of given traces, by trying all orders -/
abbrev s__law_due : Stmt := top 19
abbrev sc__law_dueN : List Str := ["_law_value", "_law_letters", "_law_found", "_law_turn", "_law_longer", "_law_output", "_law_at", "_law_some", "_law_many", "_law_trace_here", "_law_word", "_law_letter", "_law_place"]
theorem sc__law_due : FnScope sc__law_dueN ["_law_value"] (defScope s__law_due) := ⟨rfl, rfl, rfl, by decide +kernel, rfl, by decide +kernel, by decide +kernel⟩
theorem few_line {n : Nat} (h : n ≤ 10000) : n < sizeLine := Nat.lt_of_lt_of_le (by omega : n < 10001) (by rw [sizeLine_eq]; decide)
theorem letters_snoc {w : List (Wd Str)} {j : Nat} {x : Wd Str} (h : w[j]? = some x) : letters (w.take (j + 1)) = letters (w.take j) ++ (letter? x).toList := by
  rw [take_more h]
  unfold letters
  rw [List.filterMap_append]
  cases e : letter? x <;> simp [e]
theorem lt_one {x : Wd Str} (h : ∀ c, x = .lt c → c.length = 1) : ((wS x).length = 1 → letter? x = some (wS x)) ∧ (¬ (wS x).length = 1 → letter? x = none) := by
  obtain ⟨l0, l1, l2, _⟩ := lens5
  cases x with
  | up => exact ⟨fun e => by have e : ("above" : Str).length = 1 := e; omega, fun _ => rfl⟩
  | dn => exact ⟨fun e => by have e : ("below" : Str).length = 1 := e; omega, fun _ => rfl⟩
  | lt c => exact ⟨fun _ => rfl, fun e => absurd (h c rfl) e⟩
theorem filter_more {α : Type} {p : α → Bool} {l : List α} {i : Nat} {a : α} (h : l[i]? = some a) : (l.take (i + 1)).filter p = (l.take i).filter p ++ (if p a = true then [a] else []) := by
  rw [take_more h, List.filter_append]
  by_cases e : p a = true
  · rw [if_pos e, List.filter_cons_of_pos e]
    rfl
  · rw [if_neg e, List.filter_cons_of_neg e]
    rfl
/-- the lists of letters, one for each trace -/
structure LetAt (H : Hp) (L : Addr) (as : List Addr) (Z : Trs) : Prop where
  at_ : H L = some (.lst (as.map V.ref))
  len : as.length = Z.length
  each : ∀ i a, as[i]? = some a → H a = some (.lst ((lts Z i).map V.str))
theorem LetAt.same {H H' : Hp} {L : Addr} {as : List Addr} {Z : Trs} (h : LetAt H L as Z) (s : Same H H') : LetAt H' L as Z := ⟨s _ _ h.at_, h.len, fun i a e => s _ _ (h.each i a e)⟩
theorem refs_of {H : Hp} {D : Addr} {Z : Trs} : ∀ (ys : List L2.V), (∀ i y, ys[i]? = some y → ∃ a, y = V.ref a ∧ a ≠ D ∧ H a = some (.lst ((lts Z i).map V.str))) → ∃ as : List Addr, ys = as.map V.ref ∧ ∀ i a, as[i]? = some a → H a = some (.lst ((lts Z i).map V.str)) := fun ys h => by
  have key : ∀ ys : List L2.V, (∀ i y, ys[i]? = some y → ∃ a, y = V.ref a) → ∃ as : List Addr, ys = as.map V.ref := fun ys => by
    induction ys with
    | nil => exact fun _ => ⟨[], rfl⟩
    | cons y ys ih =>
      intro h
      obtain ⟨a, e⟩ := h 0 y rfl
      obtain ⟨as, e2⟩ := ih fun i y hy => h (i + 1) y hy
      exact ⟨a :: as, by rw [e, e2]; rfl⟩
  obtain ⟨as, e⟩ := key ys fun i y hy => by
    obtain ⟨a, e, _⟩ := h i y hy
    exact ⟨a, e⟩
  refine ⟨as, e, fun i a ha => ?_⟩
  obtain ⟨b, e2, _, h2⟩ := h i (V.ref a) (by rw [e, List.getElem?_map, ha]; rfl)
  have e2 : a = b := by injection e2
  rw [e2]
  exact h2
theorem dv_out {K : PySem.W.Frag} {H : Hp} {a : Addr} {o : List Ev} (h : Dv K H (.ref a) (outD o)) : ∃ xs, SqT K H a xs ∧ DvAll K H xs (o.map evD) ∧ xs.length = o.length ∧ ∀ (i : Nat) (x : L2.V), xs[i]? = some x → ∃ (b : Addr) (e : Ev), x = .ref b ∧ o[i]? = some e ∧ SqT K H b [.str e.1, .int (e.2 : Int)] := by
  unfold outD at h
  cases h with
  | @tup _ xs _ hq hall =>
  refine ⟨xs, hq, hall, by rw [hall.len, List.length_map], fun i x hx => ?_⟩
  obtain ⟨d, hd, hv⟩ := hall.get hx
  rw [List.getElem?_map] at hd
  cases e : o[i]? with
  | none => rw [e] at hd; cases hd
  | some w =>
    rw [e] at hd
    have hd : evD w = d := by injection hd
    subst hd
    obtain ⟨b, e2, hb⟩ := dv_ev hv
    exact ⟨b, w, e2, rfl, hb⟩
theorem found_len {Z : Trs} {m : Nat} {os : List (List Ev)} (h : Found Z m os) : ∀ o ∈ os, o.length = m := by
  rcases h with ⟨rfl, h⟩ | ⟨o, rfl, h, hl⟩
  · exact fun o h => by cases h
  · exact fun o' h' => by rw [List.mem_singleton.mp h']; exact hl
theorem sum_cast (l : List Nat) (f : Nat → Nat) : (l.map fun i => (f i : Int)).sum = (((l.map f).sum : Nat) : Int) := by
  induction l with
  | nil => rfl
  | cons a l ih =>
    rw [List.map_cons, List.sum_cons, List.map_cons, List.sum_cons, ih]
    omega
end Fk
set_option Elab.async false
set_option linter.all false
set_option maxRecDepth 100000
set_option maxHeartbeats 8000000
namespace Fk
open PySem L2
section
variable {P : Program} {w : World} {K : PySem.W.Frag} {mg : Str → Option Value} {base : Heap}
theorem ok_due {f : Addr} {fd : FuncData} (F : Fun K "_law_due" "_law_due" s__law_due f fd) (T : Bare mg) (CK : Con K mg) (CF : Callee P w K mg base 1 "_law_is_form" ["_law_value"] (spTestW K formOk))
    (CT : Callee P w K mg base 2 "_law_traces" ["_law_output", "_law_many"] (spTraces K)) (CB : Callee P w K mg base 3 "_law_is_begun" ["_law_output", "_law_value"] (spBegun K)) : FnOk P w K mg base CX0 4 f fd ["_law_value"] (spOutput K) := by
  refine F.ok sc__law_due (fun vs H Q E h => ?_) (fun cdv A outer st H vs Q E hr h => ?_)
  · obtain ⟨x, d, rfl, _⟩ := h
    rfl
  obtain ⟨x, d, rfl, hd, few, q0, q1⟩ := h
  refine ⟨_, (pss_cons (ps_if (pt_not (pt_val (pe_call CF.ok (hr.mono (by decide)) rfl CF.mg CF.kp CF.b .nil pass0 (pa_cons (pv 0) pa_nil))))
(pss_one (ps_ret pe_non))
pss_nil)
(pss_cons (ps_par (i := 1) (j := 2) (by rfl) sc__law_due.nd rfl rfl (by decide) rfl rfl (pa_cons (pe_lc (own := [("_law_trace_here", 9)]) (g := gName 9) rfl sc__law_due.nd (pi_tup (pv 0)) (blkOk_by (N := sc__law_dueN) (sc := defScope s__law_due) (by decide +kernel)) (fun _ _ _ _ _ => pg_name (i := 9) sc__law_due.nd rfl (Or.inl rfl)) (fun _ _ _ _ _ => pts_nil) (fun _ _ _ _ _ => (pe_lc (own := [("_law_word", 10)]) (g := gName 10) rfl sc__law_due.nd (pi_tupB (K := K) rfl (pv 9)) (blk_in (blkOk_by (N := sc__law_dueN) (sc := noScope) (by decide +kernel))) (fun _ _ _ _ _ => pg_name (i := 10) sc__law_due.nd rfl (Or.inl rfl)) (fun _ _ _ _ _ => (pts_one (pt_cmpR op_eq (pe_callB call_lenS (by rfl) T.len PySem.boot_len (pa_cons (pv 10) pa_nil)) pe_int (nomark _)))) (fun _ _ _ _ _ => (pv 10))))) (pa_cons (pe_lst (pa_cons (pe_tup pa_nil) pa_nil)) pa_nil)) (by rfl))
(pss_cons (ps_for PassesOwn.never rfl (pi_range1 (by rfl) T.range (pa_cons (pe_callB (cr_sum rfl) (by rfl) CK.sum (by decide +kernel) (pa_cons (pe_lc (own := [("_law_some", 7)]) (g := gName 7) rfl sc__law_due.nd (pi_list (pv 1)) (blkOk_by (N := sc__law_dueN) (sc := defScope s__law_due) (by decide +kernel)) (fun _ _ _ _ _ => pg_name (i := 7) sc__law_due.nd rfl (Or.inl rfl)) (fun _ _ _ _ _ => pts_nil) (fun _ _ _ _ _ => (pe_callB (call_lenB (K := K) rfl) (by rfl) T.len PySem.boot_len (pa_cons (pv 7) pa_nil)))) pa_nil)) pa_nil)) (pg_name (i := 3) sc__law_due.nd rfl (Or.inl rfl))
(pss_cons (ps_set (i := 4) sc__law_due.nd rfl (Or.inl rfl) (pe_lst pa_nil))
(pss_cons (ps_for PassesOwn.never rfl (pi_list (pv 2)) (pg_name (i := 5) sc__law_due.nd rfl (Or.inr rfl))
(pss_one (ps_for PassesOwn.never rfl (pi_enum (by rfl) CK.enum (pa_cons (pv 1) pa_nil)) (pg_tup (by rfl) (pgs_cons (pg_name (i := 6) sc__law_due.nd rfl (Or.inr rfl)) (pgs_cons (pg_name (i := 7) sc__law_due.nd rfl (Or.inl rfl)) pgs_nil)))
(pss_cons (ps_set (i := 8) sc__law_due.nd rfl (Or.inl rfl) (pe_callB call_len_seq (by rfl) T.len PySem.boot_len (pa_cons (pe_lc (own := [("_law_letter", 11), ("_law_place", 12)]) (g := gTup K 2 (gCons (gName 11) (gCons (gName 12) gNil))) rfl sc__law_due.nd (pi_tup (pv 5)) (blkOk_by (N := sc__law_dueN) (sc := defScope s__law_due) (by decide +kernel)) (fun _ _ _ _ _ => pg_tup (by rfl) (pgs_cons (pg_name (i := 11) sc__law_due.nd rfl (Or.inl rfl)) (pgs_cons (pg_name (i := 12) sc__law_due.nd rfl (Or.inl rfl)) pgs_nil))) (fun _ _ _ _ _ => (pts_one (pt_cmpR op_eq (pv 12) (pv 6) (nomark _)))) (fun _ _ _ _ _ => (pv 12))) pa_nil)))
(pss_one (ps_expr (pe_bm PySem.F.plainAttrs_list PySem.F.slot_list_extend PySem.F.type_list_extend mt_extend (pv 4) (pa_cons (pe_lc (own := [("_law_letter", 11)]) (g := gName 11) rfl sc__law_due.nd (pi_list (pe_slice sl_list (pv 7) (po_some (pv 8)) (po_some (pe_op op_add (pv 8) pe_int)))) (blkOk_by (N := sc__law_dueN) (sc := defScope s__law_due) (by decide +kernel)) (fun _ _ _ _ _ => pg_name (i := 11) sc__law_due.nd rfl (Or.inl rfl)) (fun _ _ _ _ _ => pts_nil) (fun _ _ _ _ _ => (pe_op (op_catB (K := K) rfl) (pv 5) (pe_tup (pa_cons (pe_tup (pa_cons (pv 11) (pa_cons (pv 6) pa_nil))) pa_nil))))) pa_nil))))))))
(pss_one (ps_setLc (i := 2) (own := [("_law_output", 5)]) (g := gName 5) rfl sc__law_due.nd rfl rfl (sw_true rfl rfl rfl (by decide +kernel)) (pi_list (pv 4)) (blkOk_by (N := sc__law_dueN) (sc := defScope s__law_due) (by decide +kernel)) (fun _ _ _ _ _ => pg_name (i := 5) sc__law_due.nd rfl (Or.inl rfl)) (fun _ _ _ _ _ => (pts_one (pt_val (pe_call CB.ok (hr.mono (by decide)) rfl CB.mg CB.kp CB.b .nil pass0 (pa_cons (pv 5) (pa_cons (pv 0) pa_nil)))))) (fun _ _ _ _ _ => (pv 5)))))))
(pss_cons (ps_setLc (i := 2) (own := [("_law_output", 5)]) (g := gName 5) rfl sc__law_due.nd rfl rfl (sw_true rfl rfl rfl (by decide +kernel)) (pi_list (pv 2)) (blkOk_by (N := sc__law_dueN) (sc := defScope s__law_due) (by decide +kernel)) (fun _ _ _ _ _ => pg_name (i := 5) sc__law_due.nd rfl (Or.inl rfl)) (fun _ _ _ _ _ => (pts_one (pt_cmpR (op_eqB (K := K) rfl hr.units) (pe_call CT.ok (hr.mono (by decide)) rfl CT.mg CT.kp CT.b .nil pass0 (pa_cons (pv 5) (pa_cons (pe_callB (call_lenB (K := K) rfl) (by rfl) T.len PySem.boot_len (pa_cons (pv 0) pa_nil)) pa_nil))) (pv 0) (nomark _)))) (fun _ _ _ _ _ => (pv 5)))
(pss_one (ps_ret (pe_ifExp (pt_cmpR (op_neW hr.units) (pv 2) (pe_lst pa_nil) (nomark _)) (pe_ix ix_list (pv 2) pe_int (fun _ _ => rfl)) pe_non))))))), ?_⟩
  refine ⟨_, rfl, x, d, rfl, hd, few.wd, fun H1 s1 => ⟨_, rfl, ?_⟩⟩
  by_cases hf : formOk d = true
  rotate_left
  · rw [Bool.not_eq_true] at hf
    rw [hf]
    exact iteT (q0 hf H1 s1)
  rw [hf]
  refine iteF ?_
  obtain ⟨Z, rfl, Z2, hZ⟩ := form_is hf
  have q1 := q1 Z rfl Z2 hZ
  obtain ⟨f1, f2⟩ := few.le Z rfl
  obtain ⟨_, t, rfl, _, _⟩ := Dv.tupE2 (show Dv K H x (.tuple (Z.map trD)) from hd)
  have hd1 := hd.same s1
  obtain ⟨xs, hq, lx, hx⟩ := dv_traces hd1 hZ
  have sz : size Z ≤ 900 := Nat.le_trans (size_total Z) f2
  have lle : ∀ i, (lts Z i).length ≤ 900 := fun i => by
    by_cases hi : i < Z.length
    · exact Nat.le_trans (mem_sum (List.mem_map.mpr ⟨i, List.mem_range.mpr hi, rfl⟩)) sz
    · have e : lts Z i = [] := by
        unfold lts
        rw [List.getD_eq_getElem?_getD, List.getElem?_eq_none (by omega)]
        rfl
      rw [e]
      show 0 ≤ 900
      omega
  refine ⟨.ref t, rfl, t, rfl, ⟨_, hq⟩, fun L0 hL0 => lc_each (walk_tup (xs := xs)) (fun i y H' => ∃ a, y = .ref a ∧ a ≠ L0 ∧ H' a = some (.lst ((lts Z i).map V.str))) (fun _ => rfl) (by omega) hL0 (fun H' s => same_sqT s hq) (fun i v H2 H3 hi _ b r => ?_) (fun i v H2 Q' hv s2 hys k => ?_) (fun ys H2 ly hys hL s2 => ?_)⟩
  · obtain ⟨a, rfl, ne, h⟩ := r
    exact ⟨a, rfl, ne, b _ _ h ne⟩
  · obtain ⟨b, wb, rfl, ewb, hqb⟩ := hx i v hv
    have hqb2 := same_sqT s2 hqb
    have okb := trace_ok hZ (List.mem_of_getElem? ewb)
    have lwb : wb.length ≤ 900 := Nat.le_trans (mem_sum (List.mem_map.mpr ⟨wb, List.mem_of_getElem? ewb, rfl⟩)) f2
    have lxs : ((wb.map wS).map V.str).length = wb.length := by rw [List.length_map, List.length_map]
    refine ⟨.ref b, rfl, b, rfl, ⟨_, hqb2⟩, fun D2 hD2 => lc_it (walk_tup (xs := (wb.map wS).map V.str)) (fun j H' => H' D2 = some (.lst ((letters (wb.take j)).map V.str)) ∧ Same H2 H') ⟨upd_same, same_new hD2 _⟩ (fun j H' hj pv => same_sqT pv.2 hqb2) (fun j u H3 H4 hj pv y => ?_) (fun H3 pv => ?_)⟩
    · obtain ⟨rfl, hu⟩ := y
      obtain ⟨g1, g2⟩ := pv
      rw [List.getElem?_map, List.getElem?_map] at hu
      cases ew : wb[j]? with
      | none => rw [ew] at hu; cases hu
      | some wd =>
      rw [ew] at hu
      have hu : V.str (wS wd) = u := by injection hu
      subst hu
      have l1 := lt_one (x := wd) fun c e => (hZ wb (List.mem_of_getElem? ewb) c (by rw [← e]; exact List.mem_of_getElem? ew)).1
      have ok2 := okb.2 (wS wd) (List.mem_map.mpr ⟨wd, List.mem_of_getElem? ew, rfl⟩)
      have ls := letters_snoc ew
      refine ⟨rfl, _, rfl, wS wd, rfl, ok2, rfl, _, rfl, ?_⟩
      refine ite2 (fun h => ?_) (fun h => ?_)
      · have h1 : (wS wd).length = 1 := by
          have := of_decide_eq_true h
          injection this with this
          omega
        rw [l1.1 h1] at ls
        refine ⟨_, rfl, _, g1, few_line ?_, ?_, fun p ob hp => ?_⟩
        · rw [List.length_map]
          have h2 := List.length_filterMap_le letter? (wb.take j)
          have h3 := List.length_take_le j wb
          have h4 : (letters (wb.take j)).length ≤ _ := h2
          omega
        · rw [upd_same, ls, List.map_append]
          rfl
        · rw [upd_ne (ne_of_none hp hD2)]
          exact g2 _ _ hp
      · have h1 : ¬ (wS wd).length = 1 := fun e => h (decide_eq_true (by rw [e]; rfl))
        rw [l1.2 h1] at ls
        refine ⟨?_, g2⟩
        rw [ls]
        show _ = some (HO.lst ((letters (wb.take j) ++ []).map V.str))
        rw [List.append_nil]
        exact g1
    · obtain ⟨g1, g2⟩ := pv
      rw [lxs, List.take_length] at g1
      refine k (.ref D2) H3 g2 ⟨D2, rfl, fun e => ?_, ?_⟩
      · obtain ⟨ys, h⟩ := hys
        rw [← e, hD2] at h
        cases h
      · rw [g1]
        unfold lts
        rw [mem_at ewb]
  obtain ⟨as, rfl, has⟩ := refs_of ys hys
  rw [List.length_map] at ly
  have LA : LetAt H2 L0 as Z := ⟨hL, by omega, has⟩
  refine ⟨small (by show 0 ≤ 1000; decide), fun e0 he0 => ⟨small (by show 1 ≤ 1000; decide), fun Fd0 hFd0 => ⟨_, _, rfl, ?_⟩⟩⟩
  have t1 := same_new he0 (.tup [])
  have t2 := same_new hFd0 (.lst [.ref e0])
  have k0 := t2 _ _ (upd_same (H := H2) (a := e0) (o := .tup []))
  have k1 := upd_same (H := upd H2 e0 (.tup [])) (a := Fd0) (o := .lst [.ref e0])
  have s4 := Same.trans s2 (Same.trans t1 t2)
  have LA := LA.same (Same.trans t1 t2)
  generalize upd (upd H2 e0 (.tup [])) Fd0 (.lst [.ref e0]) = H4 at k0 k1 s4 LA ⊢
  have hd4 := hd1.same s4
  have hq4 := same_sqT s4 hq
  have las : (as.map V.ref).length = Z.length := by rw [List.length_map]; exact LA.len
  -- how many letters
  refine ⟨.ref L0, rfl, L0, rfl, ⟨_, .inl (.inl LA.at_)⟩, fun D3 hD3 => lc_fn (walk_list (xs := as.map V.ref)) (fun i => .int ((lts Z i).length : Int)) (fun _ => rfl) (by omega) hD3 (fun H' s => .inl (.inl (s _ _ LA.at_))) (fun i v H5 Q' hv s5 k => ?_) (fun H5 hD5 s5 => ?_)⟩
  · rw [List.getElem?_map] at hv
    cases ea : as[i]? with
    | none => rw [ea] at hv; cases hv
    | some a =>
    rw [ea] at hv
    have hv : V.ref a = v := by injection hv
    subst hv
    have := k H5 (fun _ _ e => e)
    refine ⟨.ref a, rfl, a, _, rfl, .inl (.inl (.inl (s5 _ _ (LA.each i a ea)))), ?_⟩
    rw [List.length_map]
    exact this
  have en : ((List.range (as.map V.ref).length).map fun i => V.int ((lts Z i).length : Int)) = ((List.range Z.length).map fun i => ((lts Z i).length : Int)).map V.int := by
    rw [las, List.map_map]
    rfl
  rw [en] at hD5
  refine ⟨D3, _, rfl, .inl (.inl hD5), ?_⟩
  have es : ((List.range Z.length).map fun i => ((lts Z i).length : Int)).sum = ((size Z : Nat) : Int) := sum_cast _ _
  rw [es]
  have LA5 := LA.same s5
  have hd5 := hd4.same s5
  have hq5 := same_sqT s5 hq4
  refine ⟨((size Z : Nat) : Int), rfl, by omega, by omega, for_range (lo := 0) (n := size Z) (fun m σ H' => ∃ (x3 x4 x5 x6 x7 x8 : Option L2.V) (Fd : Addr) (vs : List L2.V) (os : List (List Ev)), σ = [some (.ref t), some (.ref L0), some (.ref Fd), x3, x4, x5, x6, x7, x8, none, none, none, none] ∧ Same H5 H' ∧ H' Fd = some (.lst vs) ∧ DvAll K H' vs (os.map outD) ∧ Found Z m os) ?_ ?_ ?_⟩
  · refine ⟨_, _, _, _, _, _, Fd0, [.ref e0], [[]], rfl, fun _ _ e => e, s5 _ _ k1, .cons (.tup (.inl (.inl (s5 _ _ k0))) .nil) .nil, found_zero Z⟩
  · rintro m σ H6 hm ⟨x3, x4, x5, x6, x7, x8, Fd, vs, os, rfl, s6, hFd, hds, hF⟩
    obtain ⟨los, hbeg⟩ := found_in hF
    have LA6 := LA5.same s6
    have hd6 := hd5.same s6
    have hq6 := same_sqT s6 hq5
    have lvs : vs.length = os.length := by rw [hds.len, List.length_map]
    refine ⟨small (by show 0 ≤ 1000; decide), fun Lg hLg => ?_⟩
    have t3 := same_new hLg (.lst [])
    refine ⟨.ref Fd, rfl, Fd, rfl, ⟨_, .inl (.inl (t3 _ _ hFd))⟩, for_it (walk_list (xs := vs)) (fun j σ H' => ∃ (x5 x6 x7 x8 : Option L2.V) (ws : List L2.V), σ = [some (.ref t), some (.ref L0), some (.ref Fd), some (.int (0 + (m : Int))), some (.ref Lg), x5, x6, x7, x8, none, none, none, none] ∧ Same H6 H' ∧ H' Lg = some (.lst ws) ∧ DvAll K H' ws (((os.take j).flatMap (longer Z)).map outD)) ?_ ?_ ?_ ?_⟩
    · exact ⟨_, _, _, _, [], rfl, t3, upd_same, .nil⟩
    · rintro j σ H' hj ⟨_, _, _, _, ws, rfl, s, _, _⟩
      exact .inl (.inl (s _ _ hFd))
    · rintro j v σ H7 H8 hj ⟨x5, x6, x7, x8, ws, rfl, s7, hLg7, hw7⟩ ⟨rfl, hv⟩
      obtain ⟨d, hd0, hdv⟩ := hds.get hv
      rw [List.getElem?_map] at hd0
      cases eo : os[j]? with
      | none => rw [eo] at hd0; cases hd0
      | some o =>
      rw [eo] at hd0
      have hd0 : outD o = d := by injection hd0
      subst hd0
      have hob := hbeg o (List.mem_of_getElem? eo)
      have hol := begun_total hob
      have ho1 := begun_ones hZ o hob
      have hj0 : j = 0 := by omega
      obtain ⟨_, a, rfl, _, _⟩ := Dv.tupE2 (show Dv K H6 v (.tuple (o.map evD)) from hdv)
      obtain ⟨es, hqo, des, les, hes⟩ := dv_out hdv
      refine ⟨.ref L0, rfl, L0, _, rfl, .inl (.inl (s7 _ _ LA6.at_)), for_it (walk_enum (xs := as.map V.ref)) (fun r σ H' => ∃ (x6 x7 x8 : Option L2.V) (ws : List L2.V), σ = [some (.ref t), some (.ref L0), some (.ref Fd), some (.int (0 + (m : Int))), some (.ref Lg), some (.ref a), x6, x7, x8, none, none, none, none] ∧ Same H6 H' ∧ H' Lg = some (.lst ws) ∧ DvAll K H' ws (((os.take j).flatMap (longer Z) ++ (List.range r).flatMap (more Z o)).map outD)) ?_ ?_ ?_ ?_⟩
      · exact ⟨_, _, _, ws, rfl, s7, hLg7, by simpa using hw7⟩
      · rintro r σ H' hr ⟨_, _, _, ws, rfl, s, _, _⟩
        exact .inl (.inl (s _ _ LA6.at_))
      rotate_left
      · rintro σ H' ⟨x6, x7, x8, ws, rfl, s, h1, h2⟩
        refine ⟨_, _, _, _, ws, rfl, s, h1, ?_⟩
        rw [las] at h2
        rw [take_more eo, List.flatMap_append, show List.flatMap (longer Z) [o] = longer Z o by simp]
        exact h2
      rintro r y σ H8 H9 hr ⟨x6, x7, x8, ws, rfl, s8, hLg8, hw8⟩ hy
      obtain ⟨Tt, _, zv, rfl, hT, rfl, ⟨⟩, hz⟩ := hy
      rw [las] at hr
      have hz : (as.map V.ref)[r]? = some zv := hz
      rw [List.getElem?_map] at hz
      cases ea : as[r]? with
      | none => rw [ea] at hz; cases hz
      | some b =>
      rw [ea] at hz
      have hz : V.ref b = zv := by injection hz
      subst hz
      have h6 := LA6.each r b ea
      refine ⟨Tt, _, rfl, .inl (.inl upd_same), rfl, _, _, rfl, _, _, rfl, rfl, ?_⟩
      have sT := same_new hT (.tup [.int ((r : Nat) : Int), .ref b])
      have hLg9 := sT _ _ hLg8
      have hw9 := hw8.same sT
      have s9 := Same.trans s8 sT
      generalize upd H8 Tt (.tup [.int ((r : Nat) : Int), .ref b]) = H9 at hLg9 hw9 s9 ⊢
      refine ⟨.ref a, rfl, a, rfl, ⟨_, same_sqT s9 hqo⟩, fun D hD => lc_it (walk_tup (xs := es)) (fun k H' => H' D = some (.lst (((o.take k).filter fun e => decide (e.2 = r)).map fun e => V.int (e.2 : Int))) ∧ Same H9 H') ⟨upd_same, same_new hD _⟩ (fun k H' hk pv => same_sqT pv.2 (same_sqT s9 hqo)) (fun k u H10 H11 hk pv y => ?_) (fun H10 pv => ?_)⟩
      · obtain ⟨rfl, hu⟩ := y
        obtain ⟨g1, g2⟩ := pv
        obtain ⟨c, e, rfl, ee, hc⟩ := hes k u hu
        refine ⟨c, _, rfl, same_sqT g2 (same_sqT s9 hc), rfl, _, _, rfl, _, _, rfl, rfl, rfl, _, rfl, _, rfl, rfl, _, rfl, ?_⟩
        rw [dec_nat]
        have fm := filter_more (p := fun e : Ev => decide (e.2 = r)) ee
        by_cases he : e.2 = r
        · rw [if_pos (by exact decide_eq_true he)] at fm
          rw [decide_eq_true he]
          refine iteT ⟨_, rfl, _, g1, few_line ?_, ?_, fun p ob hp => ?_⟩
          · rw [List.length_map]
            have h2 := List.length_filter_le (fun e : Ev => decide (e.2 = r)) (o.take k)
            have h3 := List.length_take_le k o
            have h3 := List.length_take_le' k o
            omega
          · rw [upd_same, fm, List.map_append]
            rfl
          · rw [upd_ne (ne_of_none hp hD)]
            exact g2 _ _ hp
        · rw [if_neg (by simpa using he), List.append_nil] at fm
          rw [decide_eq_false he]
          refine iteF ⟨?_, g2⟩
          rw [fm]
          exact g1
      obtain ⟨g1, g2⟩ := pv
      rw [les, List.take_length] at g1
      refine ⟨D, _, rfl, .inl (.inl (.inl g1)), ?_⟩
      rw [List.length_map, show (o.filter fun e => decide (e.2 = r)).length = many o r from rfl]
      have s10 := Same.trans s9 g2
      have hLg10 := g2 _ _ hLg9
      have hw10 := hw9.same g2
      have ec : cutV ((lts Z r).map V.str) (some ((many o r : Nat) : Int)) (some (((many o r : Nat) : Int) + 1)) = (((lts Z r).drop (many o r)).take 1).map V.str := by
        rw [cutV_one, ← List.map_drop, ← List.map_take]
      have em : more Z o r = (((lts Z r).drop (many o r)).take 1).map fun c => o ++ [(c, r)] := by
        unfold more lts
        rw [List.getD_eq_getElem?_getD]
      have lcs : (((lts Z r).drop (many o r)).take 1).length ≤ 1 := by
        rw [List.length_take]
        omega
      generalize ((lts Z r).drop (many o r)).take 1 = cs at ec em lcs
      refine ⟨.ref Lg, rfl, .inl ⟨rfl, _, .inl (.inl hLg10)⟩, .ref b, rfl, _, rfl, _, rfl, _, rfl, _, _, rfl, rfl, _, rfl, b, _, rfl, .inl (.inl (s10 _ _ h6)), fun S hS => ?_⟩
      rw [ec]
      have tS := same_new hS (.lst (cs.map V.str))
      have hS11 := upd_same (H := H10) (a := S) (o := .lst (cs.map V.str))
      have s11 := Same.trans s10 tS
      have hLg11 := tS _ _ hLg10
      have hw11 := hw10.same tS
      generalize upd H10 S (.lst (cs.map V.str)) = H11 at hS11 s11 hLg11 hw11 ⊢
      refine ⟨S, rfl, ⟨_, .inl (.inl hS11)⟩, fun D5 hD5 => lc_it (walk_list (xs := cs.map V.str)) (fun k H' => ∃ zs, H' D5 = some (.lst zs) ∧ DvAll K H' zs (((cs.take k).map fun c => o ++ [(c, r)]).map outD) ∧ Same H11 H') ⟨[], upd_same, .nil, same_new hD5 _⟩ (fun k H' hk pv => ?_) (fun k u H12 H13 hk pv y => ?_) (fun H12 pv => ?_)⟩
      · obtain ⟨_, _, _, s⟩ := pv
        exact .inl (.inl (s _ _ hS11))
      · obtain ⟨rfl, hu⟩ := y
        obtain ⟨zs, z1, z2, z3⟩ := pv
        rw [List.getElem?_map] at hu
        cases eu : cs[k]? with
        | none => rw [eu] at hu; cases hu
        | some c =>
        rw [eu] at hu
        have hu : V.str c = u := by injection hu
        subst hu
        have okc := (longer_ok hZ hob (List.mem_flatMap.mpr ⟨r, List.mem_range.mpr hr, by rw [em]; exact List.mem_map.mpr ⟨c, List.mem_of_getElem? eu, rfl⟩⟩)).1 (c, r) (List.mem_append_right _ List.mem_cons_self)
        have okc : c.length = 1 := okc.1
        have lzs : zs.length ≤ 1 := by
          rw [z2.len, List.length_map, List.length_map]
          have := List.length_take_le' k cs
          omega
        have fin : ∀ (y : L2.V) (Hc : Hp), Same H13 Hc → Dv K Hc y (outD (o ++ [(c, r)])) → ∃ acc, Hc D5 = some (.lst acc) ∧ acc.length < sizeLine ∧ ∃ zs, (upd Hc D5 (.lst (acc ++ [y]))) D5 = some (.lst zs) ∧ DvAll K (upd Hc D5 (.lst (acc ++ [y]))) zs (((cs.take (k + 1)).map fun c => o ++ [(c, r)]).map outD) ∧ Same H11 (upd Hc D5 (.lst (acc ++ [y]))) := fun y Hc sc hy => by
          refine ⟨zs, sc _ _ z1, few_line (by omega), zs ++ [y], upd_same, ?_, same_out (Same.trans z3 sc) But.upd hD5⟩
          rw [take_more eu, List.map_append, List.map_append]
          exact (DvAll.but But.upd ⟨_, sc _ _ z1⟩ (nl_outs _) (z2.same sc)).append (.cons (Dv.but But.upd ⟨_, sc _ _ z1⟩ (nl_out _) hy) .nil)
        refine ⟨rfl, ?_⟩
        simp only [tYes, ↓reduceIte]
        have s13 := Same.trans s11 z3
        refine ⟨.ref a, rfl, _, rfl, _, rfl, small (by show 2 ≤ 1000; decide), fun p1 hp1 => ⟨small (by show 1 ≤ 1000; decide), fun p2 hp2 => ?_⟩⟩
        have u1 := same_new hp1 (.tup [.str c, .int ((r : Nat) : Int)])
        have u2 := same_new hp2 (.tup [.ref p1])
        have w1 := u2 _ _ (upd_same (H := H13) (a := p1) (o := .tup [.str c, .int ((r : Nat) : Int)]))
        have w2 := upd_same (H := upd H13 p1 (.tup [.str c, .int ((r : Nat) : Int)])) (a := p2) (o := .tup [.ref p1])
        have u12 := Same.trans u1 u2
        generalize upd (upd H13 p1 (.tup [.str c, .int ((r : Nat) : Int)])) p2 (.tup [.ref p1]) = H14 at w1 w2 u12 ⊢
        have s14 := Same.trans s13 u12
        have dp : DvAll K H14 [.ref p1] ([(c, r)].map evD) := .cons (.tup (.inl (.inl w1)) (.cons (.str c (by omega)) (.cons (.int _) .nil))) .nil
        refine ⟨a, p2, es, [.ref p1], rfl, rfl, same_sqT s14 hqo, .inl (.inl w2), (show es.length + 1 ≤ sizeLine from small (by omega)), fun e => ?_, fun _ e => (by cases e), fun _ _ p3 hp3 => ?_⟩
        · have e0 : o = [] := List.eq_nil_of_length_eq_zero (by rw [← les, e]; rfl)
          refine fin (.ref p2) H14 u12 ?_
          rw [e0]
          exact .tup (.inl (.inl w2)) dp
        · have u3 := same_new hp3 (.tup (es ++ [.ref p1]))
          refine fin (.ref p3) _ (Same.trans u12 u3) ?_
          refine .tup (.inl (.inl upd_same)) ?_
          rw [List.map_append]
          exact ((des.same s14).same u3).append (dp.same u3)
      obtain ⟨zs, z1, z2, z3⟩ := pv
      rw [List.length_map, List.take_length, ← em] at z2
      have hLg12 := z3 _ _ hLg11
      have hw12 := hw11.same z3
      have lpre : ((os.take j).flatMap (longer Z) ++ (List.range r).flatMap (more Z o)).length ≤ r := by
        rw [hj0]
        exact longer_len Z o r
      have lws : ws.length ≤ r := by
        rw [hw12.len, List.length_map]
        exact lpre
      have lzs : zs.length ≤ 1 := by
        rw [z2.len, List.length_map, em, List.length_map]
        exact lcs
      refine ⟨Lg, D5, ws, zs, rfl, rfl, hLg12, z1, (show ws.length + zs.length ≤ sizeLine from small (by omega)), ?_⟩
      refine ⟨_, _, _, ws ++ zs, rfl, same_out (Same.trans s11 z3) But.upd hLg, upd_same, ?_⟩
      have e2 : (os.take j).flatMap (longer Z) ++ (List.range (r + 1)).flatMap (more Z o) = ((os.take j).flatMap (longer Z) ++ (List.range r).flatMap (more Z o)) ++ more Z o r := by
        rw [List.range_succ, List.flatMap_append, show List.flatMap (more Z o) [r] = more Z o r by simp, List.append_assoc]
      rw [e2, List.map_append]
      exact (DvAll.but But.upd ⟨_, hLg12⟩ (nl_outs _) hw12).append (DvAll.but But.upd ⟨_, hLg12⟩ (nl_outs _) z2)
    · rintro σ H7 ⟨x5, x6, x7, x8, ws, rfl, s7, hLg7, hw7⟩
      rw [lvs, List.take_length] at hw7
      have lng : ∀ x ∈ os.flatMap (longer Z), Ones x ∧ x.length ≤ 900 ∧ ∀ e ∈ x, e.2 < Z.length := fun x hx => by
        obtain ⟨o, ho, hx⟩ := List.mem_flatMap.mp hx
        obtain ⟨l1, l2, l3⟩ := longer_ok hZ (hbeg o ho) hx
        refine ⟨l1, ?_, l3⟩
        obtain ⟨r, _, hx⟩ := List.mem_flatMap.mp hx
        obtain ⟨c, rfl⟩ := more_in hx
        have := found_len hF o ho
        rw [List.length_append, List.length_singleton]
        omega
      have fnew := found_turn hF
      have lls : (os.flatMap (longer Z)).length ≤ 10000 := by
        rcases hF with ⟨rfl, _⟩ | ⟨o, rfl, _⟩
        · exact Nat.zero_le _
        · rw [show List.flatMap (longer Z) [o] = longer Z o by simp]
          exact Nat.le_trans (longer_len Z o Z.length) (by omega)
      generalize os.flatMap (longer Z) = ls at hw7 lng fnew lls
      have lws : ws.length = ls.length := by rw [hw7.len, List.length_map]
      refine ⟨.ref Lg, rfl, Lg, rfl, ⟨_, .inl (.inl hLg7)⟩, fun D hD => lc_it (walk_list (xs := ws)) (fun k H' => ∃ zs, H' D = some (.lst zs) ∧ DvAll K H' zs (((ls.take k).filter (begB Z)).map outD) ∧ Same H7 H') ⟨[], upd_same, .nil, same_new hD _⟩ (fun k H' hk pv => ?_) (fun k u H8 H9 hk pv y => ?_) (fun H8 pv => ?_)⟩
      · obtain ⟨_, _, _, s⟩ := pv
        exact .inl (.inl (s _ _ hLg7))
      · obtain ⟨rfl, hu⟩ := y
        obtain ⟨zs, g1, g2, g3⟩ := pv
        obtain ⟨d, hdd, hdu⟩ := hw7.get hu
        rw [List.getElem?_map] at hdd
        cases ek : ls[k]? with
        | none => rw [ek] at hdd; cases hdd
        | some x =>
        rw [ek] at hdd
        have hdd : outD x = d := by injection hdd
        subst hdd
        obtain ⟨l1, l2, l3⟩ := lng x (List.mem_of_getElem? ek)
        obtain ⟨_, a, rfl, _, _⟩ := Dv.tupE2 (show Dv K H7 u (.tuple (x.map evD)) from hdu)
        have hdu8 := hdu.same g3
        refine ⟨rfl, .ref a, rfl, .ref t, rfl, a, t, x, Z, rfl, hdu8, l1, l2, (hd6.same (Same.trans s7 g3)), hZ, f1, f2, l3, fun c H10 hc s10 => ⟨_, rfl, ?_⟩⟩
        have ec : c = begB Z x := eq_bool hc begB_is
        subst ec
        have fm := filter_more (p := begB Z) ek
        have lz : zs.length ≤ 10000 := by
          rw [g2.len, List.length_map]
          have h1 := List.length_filter_le (begB Z) (ls.take k)
          have h2 := List.length_take_le' k ls
          omega
        by_cases hb : begB Z x = true
        · rw [if_pos hb] at fm
          rw [hb]
          refine iteT ⟨_, rfl, zs, s10 _ _ g1, few_line lz, zs ++ [.ref a], upd_same, ?_, same_out (Same.trans g3 s10) But.upd hD⟩
          rw [fm, List.map_append]
          exact (DvAll.but But.upd ⟨_, s10 _ _ g1⟩ (nl_outs _) (g2.same s10)).append (.cons (Dv.but But.upd ⟨_, s10 _ _ g1⟩ (nl_out x) (hdu8.same s10)) .nil)
        · rw [if_neg hb, List.append_nil] at fm
          rw [Bool.eq_false_iff.mpr hb]
          refine iteF ⟨zs, s10 _ _ g1, ?_, Same.trans g3 s10⟩
          rw [fm]
          exact g2.same s10
      · obtain ⟨zs, g1, g2, g3⟩ := pv
        rw [lws, List.take_length] at g2
        exact ⟨_, _, _, _, _, _, D, zs, _, rfl, Same.trans s6 (Same.trans s7 g3), g1, g2, fnew⟩
  · rintro σ H6 ⟨x3, x4, x5, x6, x7, x8, Fd, vs, os, rfl, s6, hFd, hds, hF⟩
    obtain ⟨los, hbeg⟩ := found_in hF
    have hd6 := hd5.same s6
    have hq6 := same_sqT s6 hq5
    have lvs : vs.length = os.length := by rw [hds.len, List.length_map]
    refine ⟨.ref Fd, rfl, Fd, rfl, ⟨_, .inl (.inl hFd)⟩, fun D hD => lc_it (walk_list (xs := vs)) (fun k H' => ∃ zs, H' D = some (.lst zs) ∧ DvAll K H' zs (((os.take k).filter (whB Z)).map outD) ∧ Same H6 H') ⟨[], upd_same, .nil, same_new hD _⟩ (fun k H' hk pv => ?_) (fun k u H8 H9 hk pv y => ?_) (fun H8 pv => ?_)⟩
    · obtain ⟨_, _, _, s⟩ := pv
      exact .inl (.inl (s _ _ hFd))
    · obtain ⟨rfl, hu⟩ := y
      obtain ⟨zs, g1, g2, g3⟩ := pv
      obtain ⟨d, hdd, hdu⟩ := hds.get hu
      rw [List.getElem?_map] at hdd
      cases eo : os[k]? with
      | none => rw [eo] at hdd; cases hdd
      | some o =>
      rw [eo] at hdd
      have hdd : outD o = d := by injection hdd
      subst hdd
      have hob := hbeg o (List.mem_of_getElem? eo)
      have hol := begun_total hob
      have ho1 := begun_ones hZ o hob
      obtain ⟨_, a, rfl, _, _⟩ := Dv.tupE2 (show Dv K H6 u (.tuple (o.map evD)) from hdu)
      have hdu8 := hdu.same g3
      have hd8 := hd6.same g3
      refine ⟨rfl, .ref a, rfl, .ref t, rfl, t, xs, rfl, .inr (same_sqT g3 hq6), a, Z.length, o, (by show [L2.V.ref a, L2.V.int ((xs.length : Nat) : Int)] = _; rw [lx]), hdu8, ho1, by omega, by omega, fun t2 H10 s10 h10 => ?_⟩
      have hd10 := hd8.same s10
      rw [tracesD_txt] at h10 hd10
      refine ⟨.ref t, rfl, _, _, h10, hd10, shaped_tups (txt_ok (form_trs ho1 _)).1, shaped_tups (txt_ok hZ).1, _, rfl, ?_⟩
      rw [show PyData.eqv (tupD (txt (trs o Z.length))) (tupD (txt Z)) = whB Z o from (eqv_tups _ _).trans (eq_bool (trs_whole hZ ho1 hob.1) whB_is)]
      have fm := filter_more (p := whB Z) eo
      have lz : zs.length ≤ 10000 := by
        rw [g2.len, List.length_map]
        have h1 := List.length_filter_le (whB Z) (os.take k)
        have h2 := List.length_take_le' k os
        omega
      by_cases hb : whB Z o = true
      · rw [if_pos hb] at fm
        rw [hb]
        refine iteT ⟨_, rfl, zs, s10 _ _ g1, few_line lz, zs ++ [.ref a], upd_same, ?_, same_out (Same.trans g3 s10) But.upd hD⟩
        rw [fm, List.map_append]
        exact (DvAll.but But.upd ⟨_, s10 _ _ g1⟩ (nl_outs _) (g2.same s10)).append (.cons (Dv.but But.upd ⟨_, s10 _ _ g1⟩ (nl_out o) (hdu8.same s10)) .nil)
      · rw [if_neg hb, List.append_nil] at fm
        rw [Bool.eq_false_iff.mpr hb]
        refine iteF ⟨zs, s10 _ _ g1, ?_, Same.trans g3 s10⟩
        rw [fm]
        exact g2.same s10
    · obtain ⟨zs, g1, g2, g3⟩ := pv
      rw [lvs, List.take_length] at g2
      have fe := found_end hF
      have ones : ∀ o ∈ os.filter (whB Z), Ones o := fun o h => begun_ones hZ o (hbeg o (List.mem_filter.mp h).1)
      generalize os.filter (whB Z) = es at g2 fe ones
      have s8 : Same H H8 := Same.trans s1 (Same.trans s4 (Same.trans s5 (Same.trans s6 g3)))
      refine ⟨.ref D, rfl, small (by show 0 ≤ 1000; decide), fun E0 hE0 => ?_⟩
      have tE := same_new hE0 (.lst [])
      refine ⟨.list (es.map outD), .list [], .lst (.inl (.inl (tE _ _ g1))) (g2.same tE), .lst (.inl (.inl upd_same)) .nil, shaped_outs ones, (by decide +kernel), _, rfl, ?_⟩
      rcases fe with ⟨rfl, due⟩ | ⟨o, rfl, due⟩
      · rw [show (!PyData.eqv (.list (([] : List (List Ev)).map outD)) (.list [])) = false from rfl]
        exact iteF (q1 .none .non _ due (Same.trans s8 tE) .non)
      · rw [show (!PyData.eqv (.list ([o].map outD)) (.list [])) = true from rfl]
        cases g2 with
        | cons hv g2 =>
        cases g2
        exact iteT ⟨.ref D, rfl, D, _, 0, _, rfl, rfl, .inl (.inl (tE _ _ g1)), rfl, q1 (outD o) _ _ due (Same.trans s8 tE) (hv.same tE)⟩
end
end Fk
set_option Elab.async false
set_option linter.all false
set_option maxRecDepth 100000
set_option maxHeartbeats 2000000
namespace Fk
open PySem L2
/-! ### expressions that cut tuples and put them together, the pot hidden -/
structure Env where
  ds : List PyData
  k : Nat
  w : PyData
abbrev Ro := List (Nat × (Env → PyData))
def Kn (K : PySem.W.Frag) (ρ : Ro) (p : Addr) (ε : Env) (σ : L2.St) (H : Hp) : Prop := ∀ r ∈ ρ, ∃ v, σ[r.1]? = some (some v) ∧ Dv K (hid [p] H) v (r.2 ε)
theorem Kn.same {K : PySem.W.Frag} {ρ : Ro} {p : Addr} {ε : Env} {σ : L2.St} {H H' : Hp} (s : Same (hid [p] H) (hid [p] H')) (h : Kn K ρ p ε σ H) : Kn K ρ p ε σ H' := fun r m => (h r m).imp fun _ z => ⟨z.1, z.2.same s⟩
structure KnP (K : PySem.W.Frag) (ρ : Ro) (p : Addr) (n : Nat) (ε : Env) (σ : L2.St) (H : Hp) : Prop where
  pot : Pot H p n
  few : ε.ds.length ≤ 1000
  kn : Kn K ρ p ε σ H
theorem KnP.same {K : PySem.W.Frag} {ρ : Ro} {p : Addr} {n : Nat} {ε : Env} {σ : L2.St} {H H' : Hp} (s : Same H H') (h : KnP K ρ p n ε σ H) : KnP K ρ p n ε σ H' := ⟨h.pot.same s, h.few, h.kn.same (Same.hid s)⟩
def tX (K : PySem.W.Frag) (ρ : Ro) (f : Env → PyData) : TE := fun σ H Q => ∃ (p : Addr) (n : Nat) (ε : Env), KnP K ρ p n ε σ H ∧ ∀ v H', Same H H' → Dv K (hid [p] H') v (f ε) → Q v H'
def tXs (K : PySem.W.Frag) (ρ : Ro) (f : Env → List PyData) : TA := fun σ H Q => ∃ (p : Addr) (n : Nat) (ε : Env), KnP K ρ p n ε σ H ∧ ∀ vs H', Same H H' → DvAll K (hid [p] H') vs (f ε) → Q vs H'
def tXo (K : PySem.W.Frag) (ρ : Ro) (g : Env → Option Nat) : TO := fun σ H Q => ∃ (p : Addr) (n : Nat) (ε : Env), KnP K ρ p n ε σ H ∧ Q ((g ε).map fun (j : Nat) => (j : Int)) H
/-- the items from lo to hi -/
def cutD (ds : List PyData) (lo hi : Option Nat) : List PyData := (ds.take (hi.getD ds.length)).drop (lo.getD 0)
theorem cutV_is {α : Type} (xs : List α) (lo hi : Nat) : (xs.drop (min lo xs.length)).take (min hi xs.length - min lo xs.length) = (xs.take hi).drop lo := by
  rw [List.drop_take]
  by_cases h : lo ≤ xs.length
  · rw [Nat.min_eq_left h]
    by_cases h2 : hi ≤ xs.length
    · rw [Nat.min_eq_left h2]
    · rw [Nat.min_eq_right (by omega), List.take_of_length_le (by rw [List.length_drop]; exact Nat.le_refl _), List.take_of_length_le (by rw [List.length_drop]; omega)]
  · rw [List.drop_of_length_le (by omega), List.drop_of_length_le (by omega), List.take_nil, List.take_nil]
theorem cutV_nat (xs : List L2.V) (lo hi : Option Nat) : cutV xs (lo.map fun (j : Nat) => (j : Int)) (hi.map fun (j : Nat) => (j : Int)) = (xs.take (hi.getD xs.length)).drop (lo.getD 0) := by
  have a : ∀ (o : Option Nat) (d n : Nat), d ≤ n → HT.sIx n d (o.map fun (j : Nat) => (j : Int)) = min (o.getD d) n := fun o d n h => by
    cases o with
    | none => show d = min d n; omega
    | some k => exact HT.sIx_nat n d k
  unfold cutV
  rw [a lo 0 _ (Nat.zero_le _), a hi _ _ (Nat.le_refl _)]
  exact cutV_is xs _ _
theorem DvAll.cut {K : PySem.W.Frag} {H : Hp} {vs : List L2.V} {ds : List PyData} (h : DvAll K H vs ds) (lo hi : Option Nat) : DvAll K H (cutV vs (lo.map fun (j : Nat) => (j : Int)) (hi.map fun (j : Nat) => (j : Int))) (cutD ds lo hi) := by
  rw [cutV_nat]
  unfold cutD
  rw [h.len]
  exact (h.take _).drop _
theorem cut_whole {α : Type} (xs : List α) (lo hi : Option Nat) (h : HT.sIx xs.length 0 (lo.map fun (j : Nat) => (j : Int)) = 0 ∧ HT.sIx xs.length xs.length (hi.map fun (j : Nat) => (j : Int)) = xs.length) : (xs.take (hi.getD xs.length)).drop (lo.getD 0) = xs := by
  obtain ⟨h1, h2⟩ := h
  have e2 : xs.take (hi.getD xs.length) = xs := by
    cases hi with
    | none => exact List.take_length
    | some k =>
      rw [show (some k).map (fun (j : Nat) => (j : Int)) = some (k : Int) from rfl, HT.sIx_nat] at h2
      exact List.take_of_length_le (by show xs.length ≤ k; omega)
  rw [e2]
  cases lo with
  | none => rfl
  | some k =>
    rw [show (some k).map (fun (j : Nat) => (j : Int)) = some (k : Int) from rfl, HT.sIx_nat] at h1
    show xs.drop k = xs
    by_cases hk : k = 0
    · rw [hk]; rfl
    · have : xs = [] := List.eq_nil_of_length_eq_zero (by omega)
      rw [this, List.drop_nil]
theorem DvAll.reverse {K : PySem.W.Frag} {H : Hp} : ∀ {vs : List L2.V} {ds : List PyData}, DvAll K H vs ds → DvAll K H vs.reverse ds.reverse
  | _, _, .nil => .nil
  | _, _, .cons h g => by
    rw [List.reverse_cons, List.reverse_cons]
    exact (DvAll.reverse g).append (.cons h .nil)
theorem pe_weak {X : Cx} {e : Expr} {t t' : TE} (i : ∀ σ H Q, t' σ H Q → t σ H Q) (h : PE X e t) : PE X e t' := ⟨fun pins s σ H Q I q => h.run pins s σ H Q I (i _ _ _ q)⟩
theorem paf_weak {X : Cx} {es : List Expr} {t t' : TA} (i : ∀ σ H Q, t' σ H Q → t σ H Q) (h : PA X es t) : PA X es t' := ⟨fun pos pins s σ H Q I q => h.run pos pins s σ H Q I (i _ _ _ q)⟩
theorem po_weak {X : Cx} {e : Option Expr} {t t' : TO} (i : ∀ σ H Q, t' σ H Q → t σ H Q) (h : PO X e t) : PO X e t' := ⟨fun pins s σ H Q I q => h.run pins s σ H Q I (i _ _ _ q)⟩
theorem dv_new {K : PySem.W.Frag} {H : Hp} {p q : Addr} {n : Nat} {xs : List L2.V} {ds : List PyData} (hp : Pot H p n) (hq : H q = none) (h : DvAll K (hid [p] H) xs ds) : Dv K (hid [p] (upd H q (.tup xs))) (.ref q) (.tuple ds) := .tup (.inl (.inl (hid_new hp hq))) (h.same (Same.hid (same_new hq _)))
theorem dv_newL {K : PySem.W.Frag} {H : Hp} {p q : Addr} {n : Nat} {xs : List L2.V} {ds : List PyData} (hp : Pot H p n) (hq : H q = none) (h : DvAll K (hid [p] H) xs ds) : Dv K (hid [p] (upd H q (.lst xs))) (.ref q) (.list ds) := .lst (.inl (.inl (hid_new hp hq))) (h.same (Same.hid (same_new hq _)))
section
variable {X : Cx} {ρ : Ro} {e a b : Expr} {es : List Expr} {f g : Env → PyData} {F G : Env → List PyData} {pos : PySem.Pos}
theorem px_of {v : L2.V} {d : PyData} (hd : ∀ H, Dv X.K H v d) (h : PE X e (tC v)) : PE X e (tX X.K ρ fun _ => d) := pe_weak (fun _ H _ q => by
  obtain ⟨p, n, ε, kn, q⟩ := q
  exact q v H (fun _ _ e => e) (hd _)) h
theorem px_var {x : Str} {i : Nat} (m : (i, f) ∈ ρ) (h : PE X (.Name x pos) (tVar i)) : PE X (.Name x pos) (tX X.K ρ f) := pe_weak (fun σ H Q q => by
  obtain ⟨p, n, ε, kn, q⟩ := q
  obtain ⟨v, h1, h2⟩ := kn.kn _ m
  exact ⟨v, h1, q v H (fun _ _ e => e) h2⟩) h
theorem px_nil : PA X [] (tXs X.K ρ fun _ => []) := paf_weak (fun σ H Q q => by
  obtain ⟨p, n, ε, kn, q⟩ := q
  exact q [] H (fun _ _ e => e) .nil) pa_nil
theorem px_cons (h : PE X e (tX X.K ρ f)) (t : PA X es (tXs X.K ρ F)) (hs : starEach (e :: es) X.env = (false, eval e X.env) :: starEach es X.env := by rfl) : PA X (e :: es) (tXs X.K ρ fun ε => f ε :: F ε) :=
  paf_weak (fun σ H Q q => by
    obtain ⟨p, n, ε, kn, q⟩ := q
    exact ⟨p, n, ε, kn, fun v H1 s1 h1 => ⟨p, n, ε, kn.same s1, fun vs H2 s2 h2 => q _ H2 (Same.trans s1 s2) (.cons (h1.same (Same.hid s2)) h2)⟩⟩) (pa_cons h t hs)
theorem px_tup {x1} (t : PA X es (tXs X.K ρ F)) (hl : ∀ ε, (F ε).length ≤ 1000 := by intro _; decide) : PE X (.Tuple es x1 pos) (tX X.K ρ fun ε => .tuple (F ε)) :=
  pe_weak (fun σ H Q q => by
    obtain ⟨p, n, ε, kn, q⟩ := q
    exact ⟨p, n, ε, kn, fun vs H1 s1 h1 => ⟨small (by rw [h1.len]; exact hl ε), fun r hr => q _ _ (Same.trans s1 (same_new hr _)) (dv_new (kn.same s1).pot hr h1)⟩⟩) (pe_tup t)
theorem px_slice {lo hi : Option Expr} {p2} {g1 g2 : Env → Option Nat} (he : PE X e (tX X.K ρ fun ε => .tuple (F ε))) (hlo : PO X lo (tXo X.K ρ g1)) (hhi : PO X hi (tXo X.K ρ g2)) : PE X (.Subscript e (.Slice lo hi none p2) pos) (tX X.K ρ fun ε => .tuple (cutD (F ε) (g1 ε) (g2 ε))) :=
  pe_weak (fun σ H Q q => by
    obtain ⟨p, n, ε, kn, q⟩ := q
    refine ⟨p, n, ε, kn, fun v H1 s1 h1 => ⟨p, n, ε, kn.same s1, p, n, ε, kn.same s1, ?_⟩⟩
    cases h1 with
    | @tup a xs _ hq hall =>
    refine ⟨a, xs, rfl, same_sqT hid_same hq, fun hw => ?_, fun hw r hr => ?_⟩
    · have e1 : cutD (F ε) (g1 ε) (g2 ε) = F ε := by
        rw [hall.len] at hw
        exact cut_whole (F ε) _ _ hw
      have q : ∀ v H', Same H H' → Dv X.K (hid [p] H') v (.tuple (cutD (F ε) (g1 ε) (g2 ε))) → Q v H' := q
      rw [e1] at q
      exact q _ H1 s1 (.tup hq hall)
    · exact q _ _ (Same.trans s1 (same_new hr _)) (dv_new (kn.same s1).pot hr (hall.cut _ _))) (pe_slice sl_tupA he hlo hhi)
theorem px_rev {k : Nat} {p1 p2 p3 : PySem.Pos} (he : PE X e (tX X.K ρ fun ε => .tuple (F ε))) : PE X (.Subscript e (.Slice none none (some (.UnaryOp .USub (.Constant (.int 1) k p1) p2)) p3) pos) (tX X.K ρ fun ε => .tuple (F ε).reverse) :=
  pe_weak (fun σ H Q q => by
    obtain ⟨p, n, ε, kn, q⟩ := q
    refine ⟨p, n, ε, kn, fun v H1 s1 h1 => ?_⟩
    cases h1 with
    | @tup a xs _ hq hall => exact ⟨a, xs, rfl, same_sqT hid_same hq, fun r hr => q _ _ (Same.trans s1 (same_new hr _)) (dv_new (kn.same s1).pot hr hall.reverse)⟩) (pe_revT he)
theorem px_cat (hl : ∀ ε : Env, ε.ds.length ≤ 1000 → (F ε).length + (G ε).length ≤ 10000) (ha : PE X a (tX X.K ρ fun ε => .tuple (F ε))) (hb : PE X b (tX X.K ρ fun ε => .tuple (G ε))) : PE X (.BinOp a .Add b pos) (tX X.K ρ fun ε => .tuple (F ε ++ G ε)) :=
  pe_weak (fun σ H Q q => by
    obtain ⟨p, n, ε, kn, q⟩ := q
    refine ⟨p, n, ε, kn, fun v H1 s1 h1 => ⟨p, n, ε, kn.same s1, fun v2 H2 s2 h2 => ?_⟩⟩
    have s12 := Same.trans s1 s2
    have hlen := hl ε kn.few
    cases h1.same (Same.hid s2) with
    | @tup l xs _ hq hall =>
    cases h2 with
    | @tup l2 ys _ hq2 hall2 =>
    have e1 := hall.len
    have e2 := hall2.len
    refine ⟨l, l2, xs, ys, rfl, rfl, same_sqT hid_same hq, same_sqT hid_same hq2, Nat.le_of_lt (few_line (by omega)), fun z => ?_, fun _ z => ?_, fun _ _ r hr => ?_⟩
    · refine q (.ref l2) H2 s12 (.tup hq2 ?_)
      have : F ε = [] := List.eq_nil_of_length_eq_zero (by rw [← e1, z]; rfl)
      show DvAll _ _ _ (F ε ++ G ε)
      rw [this]
      exact hall2
    · refine q (.ref l) H2 s12 (.tup hq ?_)
      have : G ε = [] := List.eq_nil_of_length_eq_zero (by rw [← e2, z]; rfl)
      show DvAll _ _ _ (F ε ++ G ε)
      rw [this, List.append_nil]
      exact hall
    · exact q _ _ (Same.trans s12 (same_new hr _)) (dv_new (kn.same s12).pot hr (hall.append hall2))) (pe_op op_catA ha hb)
theorem px_list {p0 : PySem.Pos} (hg : Gl X "list") (hm : X.mg "list" = none) (he : PE X e (tX X.K ρ fun ε => .tuple (F ε))) (hs : starEach [e] X.env = (false, eval e X.env) :: starEach [] X.env := by rfl) : PE X (.Call (.Name "list" p0) [e] [] pos) (tX X.K ρ fun ε => .list (F ε)) :=
  pe_weak (fun σ H Q q => by
    obtain ⟨p, n, ε, kn, q⟩ := q
    refine ⟨p, n, ε, kn, fun v H1 s1 h1 => ?_⟩
    cases h1 with
    | @tup a xs _ hq hall => exact ⟨a, xs, rfl, .inr (same_sqT hid_same hq), fun r hr => q _ _ (Same.trans s1 (same_new hr _)) (dv_newL (kn.same s1).pot hr hall)⟩) (pe_callTy call_list_of hg hm (by decide +kernel) (pa_cons he pa_nil hs) (by decide) (by decide) hs)
/-! bounds -/
theorem po_no : PO X none (tXo X.K ρ fun _ => none) := po_weak (fun σ H Q q => by
  obtain ⟨p, n, ε, kn, q⟩ := q
  exact q) po_none
theorem po_k {x : Str} {i : Nat} (m : (i, fun ε : Env => PyData.int (ε.k : Int)) ∈ ρ) (h : PE X (.Name x pos) (tVar i)) : PO X (some (.Name x pos)) (tXo X.K ρ fun ε => some ε.k) := po_weak (fun σ H Q q => by
  obtain ⟨p, n, ε, kn, q⟩ := q
  obtain ⟨v, h1, h2⟩ := kn.kn _ m
  cases h2
  exact ⟨_, h1, _, rfl, q⟩) (po_some h)
theorem po_kc {x : Str} {i c k1 : Nat} {p1 p2 : PySem.Pos} (m : (i, fun ε : Env => PyData.int (ε.k : Int)) ∈ ρ) (h : PE X (.Name x p1) (tVar i)) : PO X (some (.BinOp (.Name x p1) .Add (.Constant (.int (c : Int)) k1 p2) pos)) (tXo X.K ρ fun ε => some (ε.k + c)) := po_weak (fun σ H Q q => by
  obtain ⟨p, n, ε, kn, q⟩ := q
  obtain ⟨v, h1, h2⟩ := kn.kn _ m
  cases h2
  refine ⟨_, h1, _, _, rfl, rfl, _, rfl, ?_⟩
  have e : ((ε.k : Int) + (c : Int)) = ((ε.k + c : Nat) : Int) := by omega
  rw [e]
  exact q) (po_some (pe_op op_add h pe_int))
theorem po_c {c k1 : Nat} {p2 : PySem.Pos} : PO X (some (.Constant (.int (c : Int)) k1 p2)) (tXo X.K ρ fun _ => some c) := po_weak (fun σ H Q q => by
  obtain ⟨p, n, ε, kn, q⟩ := q
  exact ⟨_, rfl, q⟩) (po_some pe_int)
end
end Fk
set_option Elab.async false
set_option linter.all false
set_option maxRecDepth 100000
set_option maxHeartbeats 2000000
namespace Fk
open PySem L2
/-! ### how large data are -/
mutual
def nodes : PyData → Nat
  | .list xs => 1 + nodesAll xs
  | .tuple xs => 1 + nodesAll xs
  | _ => 1
def nodesAll : List PyData → Nat
  | [] => 0
  | x :: xs => nodes x + nodesAll xs
end
theorem nodes_tup (ds : List PyData) : nodes (.tuple ds) = 1 + nodesAll ds := by simp only [nodes]
theorem nodes_lst (ds : List PyData) : nodes (.list ds) = 1 + nodesAll ds := by simp only [nodes]
theorem nodes_nil : nodesAll [] = 0 := by simp only [nodesAll]
theorem nodes_cons (d : PyData) (ds : List PyData) : nodesAll (d :: ds) = nodes d + nodesAll ds := by simp only [nodesAll]
theorem nodes_pos (d : PyData) : 1 ≤ nodes d := by
  cases d <;> simp only [nodes] <;> omega
theorem nodes_append : ∀ (a b : List PyData), nodesAll (a ++ b) = nodesAll a + nodesAll b
  | [], b => by rw [List.nil_append, nodes_nil, Nat.zero_add]
  | x :: a, b => by
    rw [List.cons_append, nodes_cons, nodes_cons, nodes_append a b]
    omega
theorem nodes_rev : ∀ (a : List PyData), nodesAll a.reverse = nodesAll a
  | [] => rfl
  | x :: a => by
    rw [List.reverse_cons, nodes_append, nodes_rev a, nodes_cons, nodes_cons, nodes_nil]
    omega
theorem nodes_cut (k : Nat) (ds : List PyData) : nodesAll (ds.take k) + nodesAll (ds.drop k) = nodesAll ds := by
  rw [← nodes_append, List.take_append_drop]
theorem nodes_mid {k j : Nat} (h : k ≤ j) (ds : List PyData) : nodesAll (ds.take k) + nodesAll ((ds.take j).drop k) + nodesAll (ds.drop j) = nodesAll ds := by
  have h1 := nodes_cut k (ds.take j)
  rw [List.take_take, Nat.min_eq_left h] at h1
  have h2 := nodes_cut j ds
  omega
theorem nodes_len : ∀ (ds : List PyData), ds.length ≤ nodesAll ds
  | [] => Nat.zero_le _
  | d :: ds => by
    have := nodes_len ds
    have := nodes_pos d
    rw [nodes_cons, List.length_cons]
    omega
theorem nodes_mem : ∀ {ds : List PyData} {d : PyData}, d ∈ ds → nodes d ≤ nodesAll ds
  | x :: ds, d, h => by
    rw [nodes_cons]
    rcases List.mem_cons.mp h with rfl | h
    · omega
    · have := nodes_mem h
      omega
def isLf : PyData → Bool
  | .none => true
  | .bool _ => true
  | .int i => decide (i.natAbs < 100)
  | .str z => decide (z.length ≤ 7) && (tl z).all fun c => decide (c < 1114112)
  | _ => false
inductive Ta : Nat → PyData → Prop
  | leaf {M : Nat} {d : PyData} (h : isLf d = true) : Ta M d
  | tup {M : Nat} {ds : List PyData} (h : ∀ d ∈ ds, Ta M d) : Ta (M + 1) (.tuple ds)
  | lst {M : Nat} {ds : List PyData} (h : ∀ d ∈ ds, Ta M d) : Ta (M + 1) (.list ds)
theorem Ta.mono {M : Nat} {d : PyData} (h : Ta M d) : ∀ {M' : Nat}, M ≤ M' → Ta M' d := by
  induction h with
  | leaf h => exact fun _ => .leaf h
  | tup h ih =>
    intro M' l
    obtain ⟨m, rfl⟩ : ∃ m, M' = m + 1 := ⟨M' - 1, by omega⟩
    exact .tup fun d hd => ih d hd (by omega)
  | lst h ih =>
    intro M' l
    obtain ⟨m, rfl⟩ : ∃ m, M' = m + 1 := ⟨M' - 1, by omega⟩
    exact .lst fun d hd => ih d hd (by omega)
theorem Ta.items {M : Nat} {ds : List PyData} (h : Ta M (.tuple ds)) : ∃ m, M = m + 1 ∧ ∀ d ∈ ds, Ta m d := by
  cases h with
  | leaf h => cases h
  | tup h => exact ⟨_, rfl, h⟩
theorem lens_sum {ds : List PyData} (h : ∀ d ∈ ds, d.shown.length + 2 ≤ 100 * nodes d) : lens ds ≤ 100 * nodesAll ds := by
  induction ds with
  | nil => exact Nat.zero_le _
  | cons d ds ih =>
    have h1 := h d List.mem_cons_self
    have h2 := ih fun x hx => h x (List.mem_cons_of_mem _ hx)
    rw [lens_cons, nodes_cons]
    omega
theorem Ta.ok {M : Nat} {d : PyData} (h : Ta M d) : ∃ N, Ok N M d ∧ N + 2 ≤ 100 * nodes d := by
  induction h with
  | @leaf M d h =>
    cases d with
    | none => exact ⟨98, ok_non (by omega), by simp only [nodes]; omega⟩
    | bool b => exact ⟨98, ok_bool b (by omega), by simp only [nodes]; omega⟩
    | int i =>
      have h : i.natAbs < 100 := of_decide_eq_true h
      exact ⟨98, ok_int (by omega) (by omega), by simp only [nodes]; omega⟩
    | str z =>
      obtain ⟨h1, h2⟩ := Bool.and_eq_true_iff.mp h
      have h1 := of_decide_eq_true h1
      refine ⟨98, ok_str (n := 7) (fun c hc => ?_) h1 (by omega), by simp only [nodes]; omega⟩
      have := of_decide_eq_true (List.all_eq_true.mp h2 c hc)
      exact Nat.lt_of_lt_of_le this (by decide)
    | list xs => cases h
    | tuple xs => cases h
    | dict xs => cases h
  | @tup M ds h ih =>
    have l := lens_sum fun d hd => by
      obtain ⟨N, k, l⟩ := ih d hd
      have := k.len
      exact (by omega : d.shown.length + 2 ≤ 100 * nodes d)
    refine ⟨lens ds + 3, ok_tup (fun d hd => ?_) (Nat.le_refl _), by rw [nodes_tup]; omega⟩
    obtain ⟨N, k, _⟩ := ih d hd
    exact ⟨N, k⟩
  | @lst M ds h ih =>
    have l := lens_sum fun d hd => by
      obtain ⟨N, k, l⟩ := ih d hd
      have := k.len
      exact (by omega : d.shown.length + 2 ≤ 100 * nodes d)
    refine ⟨lens ds + 3, ok_lst (fun d hd => ?_) (Nat.le_refl _), by rw [nodes_lst]; omega⟩
    obtain ⟨N, k, _⟩ := ih d hd
    exact ⟨N, k⟩
/-- bounded data: so deep, so many nodes -/
structure Tm (N M : Nat) (d : PyData) : Prop where
  ta : Ta M d
  sz : nodes d ≤ N
theorem Tm.mono {N M N' M' : Nat} {d : PyData} (h : Tm N M d) (a : N ≤ N') (b : M ≤ M') : Tm N' M' d := ⟨h.ta.mono b, Nat.le_trans h.sz a⟩
/-! what is cut from a tuple -/
theorem cut_mem {ds : List PyData} {lo hi : Option Nat} {d : PyData} (h : d ∈ cutD ds lo hi) : d ∈ ds := List.mem_of_mem_take (List.mem_of_mem_drop h)
theorem cut_to (ds : List PyData) (k : Nat) : cutD ds none (some k) = ds.take k := rfl
theorem cut_from (ds : List PyData) (k : Nat) : cutD ds (some k) none = ds.drop k := by
  show (ds.take ds.length).drop k = _
  rw [List.take_length]
theorem cut_mid (ds : List PyData) (k j : Nat) : cutD ds (some k) (some j) = (ds.take j).drop k := rfl
theorem Tm.tup {N M : Nat} {ds : List PyData} (h : ∀ d ∈ ds, Ta M d) (l : 1 + nodesAll ds ≤ N) : Tm N (M + 1) (.tuple ds) := ⟨.tup h, by rw [nodes_tup]; exact l⟩
theorem Tm.lst {N M : Nat} {ds : List PyData} (h : ∀ d ∈ ds, Ta M d) (l : 1 + nodesAll ds ≤ N) : Tm N (M + 1) (.list ds) := ⟨.lst h, by rw [nodes_lst]; exact l⟩
theorem drop_le (ds : List PyData) {k j : Nat} (h : k ≤ j) : nodesAll (ds.drop j) ≤ nodesAll (ds.drop k) := by
  have h1 := nodes_mid h ds
  have h2 := nodes_cut k ds
  omega
/-- an item between what stands before and after -/
theorem nodes_at {ds : List PyData} {k : Nat} {d : PyData} (h : ds[k]? = some d) : nodesAll (ds.take k) + nodes d + nodesAll (ds.drop (k + 1)) = nodesAll ds := by
  have h1 := nodes_cut (k + 1) ds
  rw [take_more h, nodes_append, nodes_cons, nodes_nil] at h1
  omega
theorem nodes_mid' (ds : List PyData) (k j : Nat) : nodesAll ((ds.take j).drop k) ≤ nodesAll ds := by
  have h1 := nodes_cut k (ds.take j)
  have h2 := nodes_cut j ds
  omega
end Fk
set_option Elab.async false
set_option linter.all false
set_option maxRecDepth 100000
set_option maxHeartbeats 8000000
namespace Fk
open PySem L2
/-! ### _law_bent_trace -/
abbrev s__law_bent_trace : Stmt := top 20
abbrev sc__law_bent_traceN : List Str := ["_law_pot", "_law_trace_here", "_law_at", "_law_way", "_law_some", "_law_word"]
theorem sc__law_bent_trace : FnScope sc__law_bent_traceN ["_law_pot", "_law_trace_here"] (defScope s__law_bent_trace) := ⟨rfl, rfl, rfl, by decide +kernel, rfl, by decide +kernel, by decide +kernel⟩
theorem one_le : (1 : Nat) ≤ 1000 := by decide
abbrev rT : Ro := [(1, fun ε => .tuple ε.ds), (2, fun ε => .int (ε.k : Int)), (5, fun ε => ε.w)]
def spBend (K : PySem.W.Frag) (ok : List PyData → Nat → Prop) (c : Nat) : Sp := fun vs H Q _ => ∃ (p : Addr) (v : V) (ds : List PyData) (n N M : Nat), vs = [.ref p, v] ∧ Pot H p n ∧ n + c + 10 < 1000000 ∧ Dv K (hid [p] H) v (.tuple ds) ∧ Tm N M (.tuple ds) ∧ N ≤ 900 ∧ ok ds M ∧
  ∀ (y : V) (d : PyData) (H' : Hp), Pot H' p (n + c) → But p H H' → Dv K (hid [p] H') y d → Tm (2 * N + 3) (M + 1) d → Q y H'
theorem tm_of {N M : Nat} {ds es : List PyData} {w : PyData} (h : Tm N M (.tuple ds)) (l : ∀ d ∈ es, d ∈ ds ∨ d = w) (hw : Ta 1 w) (sz : 1 + nodesAll es ≤ 2 * N + 3) : Tm (2 * N + 3) (M + 1) (.tuple es) := by
  obtain ⟨m, rfl, hm⟩ := h.ta.items
  refine Tm.tup (fun d hd => ?_) sz
  rcases l d hd with h | rfl
  · exact (hm d h).mono (by omega)
  · exact hw.mono (by omega)
theorem tm_of0 {N M : Nat} {ds es : List PyData} (h : Tm N M (.tuple ds)) (l : ∀ d ∈ es, d ∈ ds) (sz : 1 + nodesAll es ≤ 2 * N + 3) : Tm (2 * N + 3) (M + 1) (.tuple es) := tm_of (w := .none) h (fun d hd => .inl (l d hd)) (.leaf rfl) sz
def words15 : List PyData := [.str "below", .str "above", .str "below", .str "above", .str "a", .str "b", .str "x", .str "", .str "ab", .str "A", .none, .int 0, .bool true, .tuple [.str "a"], .str "beneath"]
theorem words15_ok : ∀ d ∈ words15, Ta 1 d ∧ nodes d ≤ 2 := fun d hd => by
  unfold words15 at hd
  simp only [List.mem_cons, List.mem_nil_iff, or_false] at hd
  have t1 : Ta 1 (.tuple [.str "a"]) := .tup (M := 0) fun d hd => by
    rw [List.mem_singleton.mp hd]
    exact .leaf (by decide +kernel)
  rcases hd with rfl | rfl | rfl | rfl | rfl | rfl | rfl | rfl | rfl | rfl | rfl | rfl | rfl | rfl | rfl
  all_goals first
    | exact ⟨.leaf (by decide +kernel), by simp only [nodes]; omega⟩
    | exact ⟨t1, by simp only [nodes, nodesAll]; omega⟩
section
variable {P : Program} {w : World} {K : PySem.W.Frag} {mg : Str → Option Value} {base : Heap}
theorem ok_bentT {f : Addr} {fd : FuncData} (F : Fun K "_law_bent_trace" "_law_bent_trace" s__law_bent_trace f fd) (T : Bare mg) (CT : Callee P w K mg base 1 "_law_take" ["_law_pot", "_law_upto"] spTake)
    (CO : Callee P w K mg base 2 "_law_of" ["_law_pot", "_law_some"] (spOf K)) : FnOk P w K mg base CX0 3 f fd ["_law_pot", "_law_trace_here"] (spBend K (fun _ _ => True) 3) := by
  refine F.ok sc__law_bent_trace (fun vs H Q E h => ?_) (fun cdv A outer st H vs Q E hr h => ?_)
  · obtain ⟨p, v, ds, n, N, M, rfl, _⟩ := h
    rfl
  obtain ⟨p, v, ds, n, N, M, rfl, hp, hn, hv, tm, hN, _, q⟩ := h
  refine ⟨_, (pss_cons (ps_par (i := 2) (j := 3) (by rfl) sc__law_bent_trace.nd rfl rfl (by decide) rfl rfl (pa_cons (pe_call CT.ok (hr.mono (by decide)) rfl CT.mg CT.kp CT.b .nil pass0 (pa_cons (pv 0) (pa_cons (pe_op op_add (pe_callB call_len_seq (by rfl) T.len PySem.boot_len (pa_cons (pv 1) pa_nil)) pe_int) pa_nil))) (pa_cons (pe_call CT.ok (hr.mono (by decide)) rfl CT.mg CT.kp CT.b .nil pass0 (pa_cons (pv 0) (pa_cons pe_int pa_nil))) pa_nil)) (by rfl))
(pss_cons (ps_set (i := 4) sc__law_bent_trace.nd rfl (Or.inl rfl) (pe_lst (pa_cons pe_str (pa_cons pe_str (pa_cons pe_str (pa_cons pe_str (pa_cons pe_str (pa_cons pe_str (pa_cons pe_str (pa_cons pe_str (pa_cons pe_str (pa_cons pe_str (pa_cons pe_non (pa_cons pe_int (pa_cons pe_bl (pa_cons (pe_tup (pa_cons pe_str pa_nil)) (pa_cons pe_str pa_nil)))))))))))))))))
(pss_cons (ps_set (i := 5) sc__law_bent_trace.nd rfl (Or.inl rfl) (pe_call CO.ok (hr.mono (by decide)) rfl CO.mg CO.kp CO.b .nil pass0 (pa_cons (pv 0) (pa_cons (pv 4) pa_nil))))
(pss_cons (ps_if (pt_cmpR op_lt (pv 3) pe_int (nomark _))
(pss_one (ps_ret (px_cat (by intro ε h; simp only [cutD, List.length_append, List.length_drop, List.length_take, List.length_reverse, List.length_cons, List.length_nil, Option.getD]; omega) (px_slice (F := fun ε => ε.ds) (px_var (ρ := rT) (f := fun ε => .tuple ε.ds) (.head _) (pv 1)) po_no (po_k (.tail _ (.head _)) (pv 2))) (px_slice (F := fun ε => ε.ds) (px_var (ρ := rT) (f := fun ε => .tuple ε.ds) (.head _) (pv 1)) (po_kc (c := 1) (.tail _ (.head _)) (pv 2)) po_no))))
pss_nil)
(pss_cons (ps_if (pt_cmpR op_eq (pv 3) pe_int (nomark _))
(pss_one (ps_ret (px_cat (by intro ε h; simp only [cutD, List.length_append, List.length_drop, List.length_take, List.length_reverse, List.length_cons, List.length_nil, Option.getD]; omega) (px_cat (by intro ε h; simp only [cutD, List.length_append, List.length_drop, List.length_take, List.length_reverse, List.length_cons, List.length_nil, Option.getD]; omega) (px_slice (F := fun ε => ε.ds) (px_var (ρ := rT) (f := fun ε => .tuple ε.ds) (.head _) (pv 1)) po_no (po_k (.tail _ (.head _)) (pv 2))) (px_tup (F := fun ε => [ε.w]) (px_cons (px_var (ρ := rT) (f := fun ε => ε.w) (.tail _ (.tail _ (.head _))) (pv 5)) px_nil) (fun _ => one_le))) (px_slice (F := fun ε => ε.ds) (px_var (ρ := rT) (f := fun ε => .tuple ε.ds) (.head _) (pv 1)) (po_k (.tail _ (.head _)) (pv 2)) po_no))))
pss_nil)
(pss_cons (ps_if (pt_cmpR op_eq (pv 3) pe_int (nomark _))
(pss_one (ps_ret (px_cat (by intro ε h; simp only [cutD, List.length_append, List.length_drop, List.length_take, List.length_reverse, List.length_cons, List.length_nil, Option.getD]; omega) (px_cat (by intro ε h; simp only [cutD, List.length_append, List.length_drop, List.length_take, List.length_reverse, List.length_cons, List.length_nil, Option.getD]; omega) (px_slice (F := fun ε => ε.ds) (px_var (ρ := rT) (f := fun ε => .tuple ε.ds) (.head _) (pv 1)) po_no (po_k (.tail _ (.head _)) (pv 2))) (px_tup (F := fun ε => [ε.w]) (px_cons (px_var (ρ := rT) (f := fun ε => ε.w) (.tail _ (.tail _ (.head _))) (pv 5)) px_nil) (fun _ => one_le))) (px_slice (F := fun ε => ε.ds) (px_var (ρ := rT) (f := fun ε => .tuple ε.ds) (.head _) (pv 1)) (po_kc (c := 1) (.tail _ (.head _)) (pv 2)) po_no))))
pss_nil)
(pss_cons (ps_if (pt_cmpR op_eq (pv 3) pe_int (nomark _))
(pss_one (ps_ret (px_cat (by intro ε h; simp only [cutD, List.length_append, List.length_drop, List.length_take, List.length_reverse, List.length_cons, List.length_nil, Option.getD]; omega) (px_cat (by intro ε h; simp only [cutD, List.length_append, List.length_drop, List.length_take, List.length_reverse, List.length_cons, List.length_nil, Option.getD]; omega) (px_slice (F := fun ε => ε.ds) (px_var (ρ := rT) (f := fun ε => .tuple ε.ds) (.head _) (pv 1)) po_no (po_k (.tail _ (.head _)) (pv 2))) (px_rev (F := fun ε => cutD ε.ds (some ε.k) (some (ε.k + 2))) (px_slice (F := fun ε => ε.ds) (px_var (ρ := rT) (f := fun ε => .tuple ε.ds) (.head _) (pv 1)) (po_k (.tail _ (.head _)) (pv 2)) (po_kc (c := 2) (.tail _ (.head _)) (pv 2))))) (px_slice (F := fun ε => ε.ds) (px_var (ρ := rT) (f := fun ε => .tuple ε.ds) (.head _) (pv 1)) (po_kc (c := 2) (.tail _ (.head _)) (pv 2)) po_no))))
pss_nil)
(pss_cons (ps_if (pt_cmpR op_eq (pv 3) pe_int (nomark _))
(pss_one (ps_ret (px_cat (by intro ε h; simp only [cutD, List.length_append, List.length_drop, List.length_take, List.length_reverse, List.length_cons, List.length_nil, Option.getD]; omega) (px_cat (by intro ε h; simp only [cutD, List.length_append, List.length_drop, List.length_take, List.length_reverse, List.length_cons, List.length_nil, Option.getD]; omega) (px_slice (F := fun ε => ε.ds) (px_var (ρ := rT) (f := fun ε => .tuple ε.ds) (.head _) (pv 1)) po_no (po_k (.tail _ (.head _)) (pv 2))) (px_slice (F := fun ε => ε.ds) (px_var (ρ := rT) (f := fun ε => .tuple ε.ds) (.head _) (pv 1)) (po_k (.tail _ (.head _)) (pv 2)) (po_kc (c := 1) (.tail _ (.head _)) (pv 2)))) (px_slice (F := fun ε => ε.ds) (px_var (ρ := rT) (f := fun ε => .tuple ε.ds) (.head _) (pv 1)) (po_k (.tail _ (.head _)) (pv 2)) po_no))))
pss_nil)
(pss_one (ps_ret (pe_ix ix_list (pe_lst (px_cons (px_rev (F := fun ε => ε.ds) (px_var (ρ := rT) (f := fun ε => .tuple ε.ds) (.head _) (pv 1))) (px_cons (px_list (F := fun ε => ε.ds) (by rfl) T.list (px_var (ρ := rT) (f := fun ε => .tuple ε.ds) (.head _) (pv 1))) px_nil))) (pe_op op_sub (pv 3) pe_int) (fun _ _ => rfl)))))))))))), ?_⟩
  have hds : ds.length + 1 ≤ N := by
    have h1 := tm.sz
    have h2 := nodes_len ds
    rw [nodes_tup] at h1
    omega
  have hsz : 1 + nodesAll ds ≤ N := by
    have h1 := tm.sz
    rw [nodes_tup] at h1
    exact h1
  obtain ⟨xs, t, rfl, hq, hall⟩ := hv.tupE2
  have hlen := hall.len
  refine ⟨.ref p, rfl, .ref t, rfl, t, xs, rfl, .inr (same_sqT hid_same hq), _, 1, rfl, rfl, p, _, n, rfl, hp, by omega, by omega, by omega, fun at_ H1 a0 a1 hp1 b1 => ?_⟩
  refine ⟨.ref p, rfl, p, 8, _, rfl, hp1, by omega, by omega, by omega, fun way H2 w0 w1 hp2 b2 => ⟨_, _, rfl, ?_⟩⟩
  obtain ⟨k, rfl⟩ : ∃ k : Nat, at_ = k := ⟨at_.toNat, by omega⟩
  -- the words
  refine ⟨small (by show 1 ≤ 1000; decide), fun r hr1 => ⟨small (by show 15 ≤ 1000; decide), fun l hl => ?_⟩⟩
  have g1 := same_new hr1 (.tup [V.str "a"])
  have hp3 := (hp2.same g1).new hl (.lst [V.str "below", V.str "above", V.str "below", V.str "above", V.str "a", V.str "b", V.str "x", V.str "", V.str "ab", V.str "A", V.non, V.int 0, V.bl true, V.ref r, V.str "beneath"])
  have ne := (hp2.same g1).ne hl
  have hw3 : DvAll K (hid [p] (upd (upd H2 r (.tup [V.str "a"])) l (.lst [V.str "below", V.str "above", V.str "below", V.str "above", V.str "a", V.str "b", V.str "x", V.str "", V.str "ab", V.str "A", V.non, V.int 0, V.bl true, V.ref r, V.str "beneath"]))) [V.str "below", V.str "above", V.str "below", V.str "above", V.str "a", V.str "b", V.str "x", V.str "", V.str "ab", V.str "A", V.non, V.int 0, V.bl true, V.ref r, V.str "beneath"] words15 := by
    have hr2 := (dv_new (K := K) hp2 hr1 (.cons (.str "a" (by decide)) .nil)).same (Same.hid (l := [p]) (same_new hl (.lst [V.str "below", V.str "above", V.str "below", V.str "above", V.str "a", V.str "b", V.str "x", V.str "", V.str "ab", V.str "A", V.non, V.int 0, V.bl true, V.ref r, V.str "beneath"])))
    exact .cons (.str _ (by decide)) (.cons (.str _ (by decide)) (.cons (.str _ (by decide)) (.cons (.str _ (by decide)) (.cons (.str _ (by decide)) (.cons (.str _ (by decide)) (.cons (.str _ (by decide)) (.cons (.str _ (by decide)) (.cons (.str _ (by decide)) (.cons (.str _ (by decide)) (.cons .non (.cons (.int 0) (.cons (.bl true) (.cons hr2 (.cons (.str _ (by decide)) .nil))))))))))))))
  refine ⟨.ref p, rfl, .ref l, rfl, p, .ref l, _, _, rfl, hp3, by omega, .inl ⟨l, rfl, .inl (.inl (.inl upd_same))⟩, fun e => ne (V.ref.inj e), (by show 0 < 15; decide), (by show 15 < 1000; decide), fun i vw H4 hvw hp4 b4 => ?_⟩
  obtain ⟨wd, hwd, hdw⟩ := hw3.get hvw
  obtain ⟨tw, nw⟩ := words15_ok wd (List.mem_of_getElem? hwd)
  have hdw4 := hdw.same (But.hid b4 (List.mem_singleton.mpr rfl))
  have bb : But p H H4 := (b1.trans b2).trans (same_but (Same.trans g1 (same_new hl _)) b4)
  have hv4 := hv.same (But.hid bb (List.mem_singleton.mpr rfl))
  generalize upd (upd H2 r (.tup [V.str "a"])) l (.lst [V.str "below", V.str "above", V.str "below", V.str "above", V.str "a", V.str "b", V.str "x", V.str "", V.str "ab", V.str "A", V.non, V.int 0, V.bl true, V.ref r, V.str "beneath"]) = H3 at *
  have kn : KnP K rT p (n + 3) ⟨ds, k, wd⟩ [some (.ref p), some (.ref t), some (.int (k : Int)), some (.int way), some (.ref l), some vw] H4 := ⟨hp4, by show ds.length ≤ 1000; omega, fun r m => by
    simp only [List.mem_cons, List.mem_nil_iff, or_false] at m
    rcases m with rfl | rfl | rfl
    · exact ⟨_, rfl, hv4⟩
    · exact ⟨_, rfl, .int _⟩
    · exact ⟨_, rfl, hdw4⟩⟩
  have fin : ∀ (y : V) (d : PyData) (H' : Hp), Same H4 H' → Dv K (hid [p] H') y d → Tm (2 * N + 3) (M + 1) d → Q y H' := fun y d H' s hd td => q y d H' (hp4.same s) (bb.trans (But.of_same s)) hd td
  refine ⟨_, rfl, _, _, rfl, rfl, _, rfl, ite2 (fun h => ?_) (fun n0 => ?_)⟩
  · refine ⟨p, n + 3, _, kn, fun y H' s hy => fin y _ H' s hy (tm_of0 tm (fun d hd => ?_) ?_)⟩
    · rcases List.mem_append.mp hd with hd | hd <;> exact cut_mem hd
    · show 1 + nodesAll (cutD ds none (some k) ++ cutD ds (some (k + 1)) none) ≤ _
      rw [nodes_append, cut_to, cut_from]
      have := nodes_mid (show k ≤ k + 1 by omega) ds
      omega
  refine ⟨_, rfl, rfl, _, rfl, ite2 (fun h => ?_) (fun n1 => ?_)⟩
  · refine ⟨p, n + 3, _, kn, fun y H' s hy => fin y _ H' s hy (tm_of tm (fun d hd => ?_) tw ?_)⟩
    · rcases List.mem_append.mp hd with hd | hd
      · rcases List.mem_append.mp hd with hd | hd
        · exact .inl (cut_mem hd)
        · exact .inr (List.mem_singleton.mp hd)
      · exact .inl (cut_mem hd)
    · show 1 + nodesAll (cutD ds none (some k) ++ [wd] ++ cutD ds (some k) none) ≤ _
      rw [nodes_append, nodes_append, cut_to, cut_from, nodes_cons, nodes_nil]
      have := nodes_cut k ds
      omega
  refine ⟨_, rfl, rfl, _, rfl, ite2 (fun h => ?_) (fun n2 => ?_)⟩
  · refine ⟨p, n + 3, _, kn, fun y H' s hy => fin y _ H' s hy (tm_of tm (fun d hd => ?_) tw ?_)⟩
    · rcases List.mem_append.mp hd with hd | hd
      · rcases List.mem_append.mp hd with hd | hd
        · exact .inl (cut_mem hd)
        · exact .inr (List.mem_singleton.mp hd)
      · exact .inl (cut_mem hd)
    · show 1 + nodesAll (cutD ds none (some k) ++ [wd] ++ cutD ds (some (k + 1)) none) ≤ _
      rw [nodes_append, nodes_append, cut_to, cut_from, nodes_cons, nodes_nil]
      have := nodes_mid (show k ≤ k + 1 by omega) ds
      omega
  refine ⟨_, rfl, rfl, _, rfl, ite2 (fun h => ?_) (fun n3 => ?_)⟩
  · refine ⟨p, n + 3, _, kn, fun y H' s hy => fin y _ H' s hy (tm_of0 tm (fun d hd => ?_) ?_)⟩
    · rcases List.mem_append.mp hd with hd | hd
      · rcases List.mem_append.mp hd with hd | hd
        · exact cut_mem hd
        · exact cut_mem (List.mem_reverse.mp hd)
      · exact cut_mem hd
    · show 1 + nodesAll (cutD ds none (some k) ++ (cutD ds (some k) (some (k + 2))).reverse ++ cutD ds (some (k + 2)) none) ≤ _
      rw [nodes_append, nodes_append, nodes_rev, cut_to, cut_from, cut_mid]
      have := nodes_mid (show k ≤ k + 2 by omega) ds
      omega
  refine ⟨_, rfl, rfl, _, rfl, ite2 (fun h => ?_) (fun n4 => ?_)⟩
  · refine ⟨p, n + 3, _, kn, fun y H' s hy => fin y _ H' s hy (tm_of0 tm (fun d hd => ?_) ?_)⟩
    · rcases List.mem_append.mp hd with hd | hd
      · rcases List.mem_append.mp hd with hd | hd <;> exact cut_mem hd
      · exact cut_mem hd
    · show 1 + nodesAll (cutD ds none (some k) ++ cutD ds (some k) (some (k + 1)) ++ cutD ds (some k) none) ≤ _
      rw [nodes_append, nodes_append, cut_to, cut_from, cut_mid]
      have := nodes_cut k ds
      have := nodes_mid' ds k (k + 1)
      omega
  refine ⟨p, n + 3, _, kn, fun vs H5 s5 hvs => ?_⟩
  cases hvs with
  | cons hv1 hvs =>
  cases hvs with
  | cons hv2 hvs =>
  cases hvs
  refine ⟨small (by show 2 ≤ 1000; decide), fun l2 hl2 => ?_⟩
  have e0 : ¬ way < 2 := fun e => n0 (decide_eq_true e)
  have e1 : way ≠ 2 := fun e => n1 (decide_eq_true (by rw [e]))
  have e2 : way ≠ 3 := fun e => n2 (decide_eq_true (by rw [e]))
  have e3 : way ≠ 4 := fun e => n3 (decide_eq_true (by rw [e]))
  have e4 : way ≠ 5 := fun e => n4 (decide_eq_true (by rw [e]))
  rcases (show way = 6 ∨ way = 7 by omega) with rfl | rfl
  · refine ⟨_, rfl, _, _, rfl, rfl, l2, _, 0, _, rfl, rfl, .inl (.inl upd_same), rfl, ?_⟩
    refine fin _ _ _ (Same.trans s5 (same_new hl2 _)) (hv1.same (Same.hid (same_new hl2 _))) (tm_of0 tm (fun d hd => List.mem_reverse.mp hd) ?_)
    rw [nodes_rev]
    show 1 + nodesAll ds ≤ _
    omega
  · refine ⟨_, rfl, _, _, rfl, rfl, l2, _, 1, _, rfl, rfl, .inl (.inl upd_same), rfl, ?_⟩
    refine fin _ _ _ (Same.trans s5 (same_new hl2 _)) (hv2.same (Same.hid (same_new hl2 _))) ?_
    obtain ⟨m, rfl, hm⟩ := tm.ta.items
    exact Tm.lst (fun d hd => (hm d hd).mono (by omega)) (by show 1 + nodesAll ds ≤ _; omega)
end
end Fk
set_option Elab.async false
set_option linter.all false
set_option maxRecDepth 100000
set_option maxHeartbeats 8000000
namespace Fk
open PySem L2
/-! ### _law_bent -/
abbrev s__law_bent : Stmt := top 21
abbrev sc__law_bentN : List Str := ["_law_pot", "_law_value", "_law_at", "_law_way"]
theorem sc__law_bent : FnScope sc__law_bentN ["_law_pot", "_law_value"] (defScope s__law_bent) := ⟨rfl, rfl, rfl, by decide +kernel, rfl, by decide +kernel, by decide +kernel⟩
abbrev rB : Ro := [(1, fun ε => .tuple ε.ds), (2, fun ε => .int (ε.k : Int))]
theorem cat_in {K : PySem.W.Frag} {H : Hp} {p : Addr} {n : Nat} {x y : V} {A B : List PyData} {Q : VK} (hp : Pot H p n) (hx : Dv K (hid [p] H) x (.tuple A)) (hy : Dv K (hid [p] H) y (.tuple B)) (l : A.length + B.length ≤ 10000)
    (q : ∀ v H', Same H H' → Dv K (hid [p] H') v (.tuple (A ++ B)) → Q v H') : rCatA K x y H Q := by
  cases hx with
  | @tup a xs _ hq hall =>
  cases hy with
  | @tup b ys _ hq2 hall2 =>
  have e1 := hall.len
  have e2 := hall2.len
  refine ⟨a, b, xs, ys, rfl, rfl, same_sqT hid_same hq, same_sqT hid_same hq2, Nat.le_of_lt (few_line (by omega)), fun z => ?_, fun _ z => ?_, fun _ _ r hr => ?_⟩
  · refine q (.ref b) H (fun _ _ e => e) (.tup hq2 ?_)
    have : A = [] := List.eq_nil_of_length_eq_zero (by rw [← e1, z]; rfl)
    rw [this]
    exact hall2
  · refine q (.ref a) H (fun _ _ e => e) (.tup hq ?_)
    have : B = [] := List.eq_nil_of_length_eq_zero (by rw [← e2, z]; rfl)
    rw [this, List.append_nil]
    exact hall
  · exact q _ _ (same_new hr _) (dv_new hp hr (hall.append hall2))
def words4 : List PyData := [.tuple [], .str "a", .none, .str "below"]
theorem words4_ok : ∀ d ∈ words4, Ta 1 d ∧ nodes d ≤ 2 := fun d hd => by
  unfold words4 at hd
  simp only [List.mem_cons, List.mem_nil_iff, or_false] at hd
  have t1 : Ta 1 (.tuple []) := .tup (M := 0) fun d hd => by cases hd
  rcases hd with rfl | rfl | rfl | rfl
  all_goals first
    | exact ⟨.leaf (by decide +kernel), by simp only [nodes]; omega⟩
    | exact ⟨t1, by simp only [nodes, nodesAll]; omega⟩
section
variable {P : Program} {w : World} {K : PySem.W.Frag} {mg : Str → Option Value} {base : Heap}
theorem ok_bent {f : Addr} {fd : FuncData} (F : Fun K "_law_bent" "_law_bent" s__law_bent f fd) (T : Bare mg) (C : Con K mg) (CT : Callee P w K mg base 1 "_law_take" ["_law_pot", "_law_upto"] spTake)
    (CO : Callee P w K mg base 2 "_law_of" ["_law_pot", "_law_some"] (spOf K)) (CB : Callee P w K mg base 3 "_law_bent_trace" ["_law_pot", "_law_trace_here"] (spBend K (fun _ _ => True) 3)) : FnOk P w K mg base CX0 4 f fd ["_law_pot", "_law_value"] (spBend K (fun ds M => ds ≠ [] ∧ 2 ≤ M) 5) := by
  refine F.ok sc__law_bent (fun vs H Q E h => ?_) (fun cdv A outer st H vs Q E hr h => ?_)
  · obtain ⟨p, v, ds, n, N, M, rfl, _⟩ := h
    rfl
  obtain ⟨p, v, ds, n, N, M, rfl, hp, hn, hv, tm, hN, ⟨hne, hM⟩, q⟩ := h
  refine ⟨_, (pss_cons (ps_par (i := 2) (j := 3) (by rfl) sc__law_bent.nd rfl rfl (by decide) rfl rfl (pa_cons (pe_call CT.ok (hr.mono (by decide)) rfl CT.mg CT.kp CT.b .nil pass0 (pa_cons (pv 0) (pa_cons (pe_callB call_len_seq (by rfl) T.len PySem.boot_len (pa_cons (pv 1) pa_nil)) pa_nil))) (pa_cons (pe_call CT.ok (hr.mono (by decide)) rfl CT.mg CT.kp CT.b .nil pass0 (pa_cons (pv 0) (pa_cons pe_int pa_nil))) pa_nil)) (by rfl))
(pss_cons (ps_if (pt_cmpR op_eq (pv 3) pe_int (nomark _))
(pss_one (ps_ret (px_cat (by intro ε h; simp only [cutD, List.length_append, List.length_drop, List.length_take, List.length_reverse, List.length_cons, List.length_nil, Option.getD]; omega) (px_slice (F := fun ε => ε.ds) (px_var (ρ := rB) (f := fun ε => .tuple ε.ds) (.head _) (pv 1)) po_no (po_k (.tail _ (.head _)) (pv 2))) (px_slice (F := fun ε => ε.ds) (px_var (ρ := rB) (f := fun ε => .tuple ε.ds) (.head _) (pv 1)) (po_kc (c := 1) (.tail _ (.head _)) (pv 2)) po_no))))
pss_nil)
(pss_cons (ps_if (pt_cmpR op_eq (pv 3) pe_int (nomark _))
(pss_one (ps_ret (px_cat (by intro ε h; simp only [cutD, List.length_append, List.length_drop, List.length_take, List.length_reverse, List.length_cons, List.length_nil, Option.getD]; omega) (px_cat (by intro ε h; simp only [cutD, List.length_append, List.length_drop, List.length_take, List.length_reverse, List.length_cons, List.length_nil, Option.getD]; omega) (px_slice (F := fun ε => ε.ds) (px_var (ρ := rB) (f := fun ε => .tuple ε.ds) (.head _) (pv 1)) po_no (po_k (.tail _ (.head _)) (pv 2))) (px_tup (F := fun _ => [.tuple []]) (px_cons (px_tup (F := fun _ => []) px_nil (fun _ => by show 0 ≤ 1000; decide)) px_nil) (fun _ => by show 1 ≤ 1000; decide))) (px_slice (F := fun ε => ε.ds) (px_var (ρ := rB) (f := fun ε => .tuple ε.ds) (.head _) (pv 1)) (po_k (.tail _ (.head _)) (pv 2)) po_no))))
pss_nil)
(pss_cons (ps_if (pt_cmpR op_eq (pv 3) pe_int (nomark _))
(pss_one (ps_ret (px_cat (by intro ε h; simp only [cutD, List.length_append, List.length_drop, List.length_take, List.length_reverse, List.length_cons, List.length_nil, Option.getD]; omega) (px_cat (by intro ε h; simp only [cutD, List.length_append, List.length_drop, List.length_take, List.length_reverse, List.length_cons, List.length_nil, Option.getD]; omega) (px_slice (F := fun ε => ε.ds) (px_var (ρ := rB) (f := fun ε => .tuple ε.ds) (.head _) (pv 1)) po_no (po_k (.tail _ (.head _)) (pv 2))) (px_rev (F := fun ε => cutD ε.ds (some ε.k) (some (ε.k + 2))) (px_slice (F := fun ε => ε.ds) (px_var (ρ := rB) (f := fun ε => .tuple ε.ds) (.head _) (pv 1)) (po_k (.tail _ (.head _)) (pv 2)) (po_kc (c := 2) (.tail _ (.head _)) (pv 2))))) (px_slice (F := fun ε => ε.ds) (px_var (ρ := rB) (f := fun ε => .tuple ε.ds) (.head _) (pv 1)) (po_kc (c := 2) (.tail _ (.head _)) (pv 2)) po_no))))
pss_nil)
(pss_cons (ps_if (pt_cmpR op_eq (pv 3) pe_int (nomark _))
(pss_one (ps_ret (pe_call CO.ok (hr.mono (by decide)) rfl CO.mg CO.kp CO.b .nil pass0 (pa_cons (pv 0) (pa_cons (pe_lst (px_cons (px_rev (F := fun ε => ε.ds) (px_var (ρ := rB) (f := fun ε => .tuple ε.ds) (.head _) (pv 1))) (px_cons (px_list (F := fun ε => ε.ds) (by rfl) T.list (px_var (ρ := rB) (f := fun ε => .tuple ε.ds) (.head _) (pv 1))) (px_cons (px_slice (F := fun ε => ε.ds) (px_var (ρ := rB) (f := fun ε => .tuple ε.ds) (.head _) (pv 1)) po_no (po_c (c := 1))) (px_cons (px_tup (F := fun _ => []) px_nil (fun _ => by show 0 ≤ 1000; decide)) (px_cons (px_tup (F := fun ε => [.tuple ε.ds]) (px_cons (px_var (ρ := rB) (f := fun ε => .tuple ε.ds) (.head _) (pv 1)) px_nil) (fun _ => by show 1 ≤ 1000; decide)) (px_cons (px_cat (F := fun ε => ε.ds) (G := fun ε => ε.ds) (fun ε h => by omega) (px_var (ρ := rB) (f := fun ε => .tuple ε.ds) (.head _) (pv 1)) (px_var (ρ := rB) (f := fun ε => .tuple ε.ds) (.head _) (pv 1))) px_nil))))))) pa_nil)))))
pss_nil)
(pss_cons (ps_if (pt_not (pt_val (pe_callB call_isD (by rfl) C.isi boot_isi (pa_cons (pe_ix ix_tup (pv 1) (pv 2) (fun _ _ => rfl)) (pa_cons (pe_bltn (v := .ty "tuple") (u := .type "tuple") (by rfl) T.tuple (by decide +kernel) rfl) pa_nil)))))
(pss_one (ps_ret (pe_op op_catA (pe_op op_catA (px_slice (F := fun ε => ε.ds) (px_var (ρ := rB) (f := fun ε => .tuple ε.ds) (.head _) (pv 1)) po_no (po_k (.tail _ (.head _)) (pv 2))) (pe_tup (pa_cons (pe_call CO.ok (hr.mono (by decide)) rfl CO.mg CO.kp CO.b .nil pass0 (pa_cons (pv 0) (pa_cons (pe_lst (pa_cons (pe_tup pa_nil) (pa_cons pe_str (pa_cons pe_non (pa_cons pe_str pa_nil))))) pa_nil))) pa_nil))) (px_slice (F := fun ε => ε.ds) (px_var (ρ := rB) (f := fun ε => .tuple ε.ds) (.head _) (pv 1)) (po_kc (c := 1) (.tail _ (.head _)) (pv 2)) po_no))))
pss_nil)
(pss_one (ps_ret (pe_op op_catA (pe_op op_catA (px_slice (F := fun ε => ε.ds) (px_var (ρ := rB) (f := fun ε => .tuple ε.ds) (.head _) (pv 1)) po_no (po_k (.tail _ (.head _)) (pv 2))) (pe_tup (pa_cons (pe_call CB.ok (hr.mono (by decide)) rfl CB.mg CB.kp CB.b .nil pass0 (pa_cons (pv 0) (pa_cons (pe_ix ix_tup (pv 1) (pv 2) (fun _ _ => rfl)) pa_nil))) pa_nil))) (px_slice (F := fun ε => ε.ds) (px_var (ρ := rB) (f := fun ε => .tuple ε.ds) (.head _) (pv 1)) (po_kc (c := 1) (.tail _ (.head _)) (pv 2)) po_no)))))))))), ?_⟩
  have hsz : 1 + nodesAll ds ≤ N := by
    have h1 := tm.sz
    rw [nodes_tup] at h1
    exact h1
  have hds := nodes_len ds
  have hpos : 0 < ds.length := List.length_pos_iff.mpr hne
  obtain ⟨xs, t, rfl, hq, hall⟩ := hv.tupE2
  have hlen := hall.len
  refine ⟨.ref p, rfl, .ref t, rfl, t, xs, rfl, .inr (same_sqT hid_same hq), p, _, n, rfl, hp, by omega, by omega, by omega, fun at_ H1 a0 a1 hp1 b1 => ?_⟩
  refine ⟨.ref p, rfl, p, 12, _, rfl, hp1, by omega, by omega, by omega, fun way H4 w0 w1 hp4 b2 => ⟨_, _, rfl, ?_⟩⟩
  obtain ⟨k, rfl⟩ : ∃ k : Nat, at_ = k := ⟨at_.toNat, by omega⟩
  have bb : But p H H4 := b1.trans b2
  have hv4 := hv.same (But.hid bb (List.mem_singleton.mpr rfl))
  have hk : k < ds.length := by omega
  have kn : KnP K rB p (n + 1 + 1) ⟨ds, k, .none⟩ [some (.ref p), some (.ref t), some (.int (k : Int)), some (.int way)] H4 := ⟨hp4, by show ds.length ≤ 1000; omega, fun r m => by
    simp only [List.mem_cons, List.mem_nil_iff, or_false] at m
    rcases m with rfl | rfl
    · exact ⟨_, rfl, hv4⟩
    · exact ⟨_, rfl, .int _⟩⟩
  have finP : ∀ (y : V) (d : PyData) (m : Nat) (H' : Hp), m ≤ n + 5 → Pot H' p m → But p H4 H' → Dv K (hid [p] H') y d → Tm (2 * N + 3) (M + 1) d → Q y H' := fun y d m H' hm hpm b hd td => q y d H' (hpm.more hm) (bb.trans b) hd td
  have fin : ∀ (y : V) (d : PyData) (H' : Hp), Same H4 H' → Dv K (hid [p] H') y d → Tm (2 * N + 3) (M + 1) d → Q y H' := fun y d H' s hd td => finP y d _ H' (by omega) (hp4.same s) (But.of_same s) hd td
  have t1 : Ta 1 (.tuple []) := .tup (M := 0) fun d hd => by cases hd
  refine ⟨_, rfl, rfl, _, rfl, ite2 (fun h => ?_) (fun n0 => ?_)⟩
  · refine ⟨p, _, _, kn, fun y H' s hy => fin y _ H' s hy (tm_of0 tm (fun d hd => ?_) ?_)⟩
    · rcases List.mem_append.mp hd with hd | hd <;> exact cut_mem hd
    · show 1 + nodesAll (cutD ds none (some k) ++ cutD ds (some (k + 1)) none) ≤ _
      rw [nodes_append, cut_to, cut_from]
      have := nodes_mid (show k ≤ k + 1 by omega) ds
      omega
  refine ⟨_, rfl, rfl, _, rfl, ite2 (fun h => ?_) (fun n1 => ?_)⟩
  · refine ⟨p, _, _, kn, fun y H' s hy => fin y _ H' s hy (tm_of tm (fun d hd => ?_) t1 ?_)⟩
    · rcases List.mem_append.mp hd with hd | hd
      · rcases List.mem_append.mp hd with hd | hd
        · exact .inl (cut_mem hd)
        · exact .inr (List.mem_singleton.mp hd)
      · exact .inl (cut_mem hd)
    · show 1 + nodesAll (cutD ds none (some k) ++ [.tuple []] ++ cutD ds (some k) none) ≤ _
      rw [nodes_append, nodes_append, cut_to, cut_from, nodes_cons, nodes_nil, nodes_tup, nodes_nil]
      have := nodes_cut k ds
      omega
  refine ⟨_, rfl, rfl, _, rfl, ite2 (fun h => ?_) (fun n2 => ?_)⟩
  · refine ⟨p, _, _, kn, fun y H' s hy => fin y _ H' s hy (tm_of0 tm (fun d hd => ?_) ?_)⟩
    · rcases List.mem_append.mp hd with hd | hd
      · rcases List.mem_append.mp hd with hd | hd
        · exact cut_mem hd
        · exact cut_mem (List.mem_reverse.mp hd)
      · exact cut_mem hd
    · show 1 + nodesAll (cutD ds none (some k) ++ (cutD ds (some k) (some (k + 2))).reverse ++ cutD ds (some (k + 2)) none) ≤ _
      rw [nodes_append, nodes_append, nodes_rev, cut_to, cut_from, cut_mid]
      have := nodes_mid (show k ≤ k + 2 by omega) ds
      omega
  refine ⟨_, rfl, rfl, _, rfl, ite2 (fun h => ?_) (fun n3 => ?_)⟩
  · refine ⟨.ref p, rfl, p, _, _, kn, fun vs H5 s5 hvs => ?_⟩
    have hvs : DvAll K (hid [p] H5) vs [.tuple ds.reverse, .list ds, .tuple (ds.take 1), .tuple [], .tuple [.tuple ds], .tuple (ds ++ ds)] := hvs
    have l6 : vs.length = 6 := hvs.len
    have hp5 := hp4.same s5
    refine ⟨small (by omega), fun l hl => ⟨p, .ref l, vs, _, rfl, hp5.new hl _, by omega, .inl ⟨l, rfl, .inl (.inl (.inl upd_same))⟩, fun e => hp5.ne hl (V.ref.inj e), by omega, by omega, fun i v H6 hvi hp6 b6 => ?_⟩⟩
    obtain ⟨d, hd, hdv⟩ := hvs.get hvi
    have b56 : But p H5 H6 := same_but (same_new hl _) b6
    refine finP v d _ H6 (by omega) hp6 (same_but s5 b56) (hdv.same (But.hid b56 (List.mem_singleton.mpr rfl))) ?_
    have hd := List.mem_of_getElem? hd
    simp only [List.mem_cons, List.mem_nil_iff, or_false] at hd
    obtain ⟨m, rfl, hm⟩ := tm.ta.items
    rcases hd with rfl | rfl | rfl | rfl | rfl | rfl
    · exact tm_of0 tm (fun d hd => List.mem_reverse.mp hd) (by rw [nodes_rev]; omega)
    · exact Tm.lst (fun d hd => (hm d hd).mono (by omega)) (by omega)
    · exact tm_of0 tm (fun d hd => List.mem_of_mem_take hd) (by have := nodes_cut 1 ds; omega)
    · exact ⟨t1.mono (by omega), by rw [nodes_tup, nodes_nil]; omega⟩
    · exact Tm.tup (fun d hd => by rw [List.mem_singleton.mp hd]; exact tm.ta) (by rw [nodes_cons, nodes_nil, nodes_tup]; omega)
    · exact tm_of0 tm (fun d hd => by rcases List.mem_append.mp hd with hd | hd <;> exact hd) (by rw [nodes_append]; omega)
  obtain ⟨xs4, hq4, hall4⟩ : ∃ xs, SqT K (hid [p] H4) t xs ∧ DvAll K (hid [p] H4) xs ds := by
    cases hv4 with
    | tup h g => exact ⟨_, h, g⟩
  have hl4 := hall4.len
  have hx : xs4[k]? = some xs4[k] := List.getElem?_eq_getElem (by omega)
  obtain ⟨e, he, hev⟩ := hall4.get hx
  have hat : atI xs4 (k : Int) = some xs4[k] := atI_nat hx
  generalize xs4[k] = x at hx hev hat
  have hie := nodes_at he
  obtain ⟨m, rfl, hm⟩ := tm.ta.items
  -- what stands there changed to y
  have last : ∀ (y : V) (d : PyData) (v1 : V) (j : Nat) (H5 : Hp), j ≤ n + 5 → Pot H5 p j → But p H4 H5 → Dv K (hid [p] H5) v1 (.tuple (cutD ds none (some k))) → Dv K (hid [p] H5) y d → Ta (m + 1) d → nodes d ≤ 2 * nodes e + 3 →
      ([y] : List V).length ≤ sizeLine ∧ ∀ r, H5 r = none → rCatA K v1 (.ref r) (upd H5 r (.tup [y])) fun v3 H6 => tX K rB (fun ε => .tuple (cutD ε.ds (some (ε.k + 1)) none)) [some (.ref p), some (.ref t), some (.int (k : Int)), some (.int way)] H6 fun v4 H7 => rCatA K v3 v4 H7 Q := fun y d v1 j H5 hj hp5 b5 hv1 hy td nd => by
    have lk : ∀ lo hi, (cutD ds lo hi).length ≤ 900 := fun lo hi => by
      unfold cutD
      rw [List.length_drop]
      have := List.length_take_le' (hi.getD ds.length) ds
      omega
    refine ⟨small (by show 1 ≤ 1000; decide), fun r hr => cat_in (hp5.new hr _) (hv1.same (Same.hid (same_new hr _))) (dv_new hp5 hr (.cons hy .nil)) (by have := lk none (some k); rw [List.length_singleton]; omega) fun v3 H6 s6 hv3 => ?_⟩
    have hp6 := (hp5.new hr (.tup [y])).same s6
    have b6 : But p H4 H6 := (b5.trans (But.of_same (same_new hr _))).trans (But.of_same s6)
    refine ⟨p, j, ⟨ds, k, .none⟩, ⟨hp6, kn.few, kn.kn.same (But.hid b6 (List.mem_singleton.mpr rfl))⟩, fun v4 H7 s7 hv4 => cat_in (hp6.same s7) (hv3.same (Same.hid s7)) hv4 ?_ fun v5 H8 s8 hv5 => ?_⟩
    · have h1 := lk none (some k)
      have h2 := lk (some (k + 1)) none
      show (cutD ds none (some k) ++ [d]).length + (cutD ds (some (k + 1)) none).length ≤ 10000
      rw [List.length_append, List.length_singleton]
      omega
    · refine finP v5 _ j H8 hj ((hp6.same s7).same s8) (b6.trans (But.of_same (Same.trans s7 s8))) hv5 (Tm.tup (fun z hz => ?_) ?_)
      · rcases List.mem_append.mp hz with hz | hz
        · rcases List.mem_append.mp hz with hz | hz
          · exact (hm z (cut_mem hz)).mono (by omega)
          · rw [List.mem_singleton.mp hz]
            exact td
        · exact (hm z (cut_mem hz)).mono (by omega)
      · show 1 + nodesAll (cutD ds none (some k) ++ [d] ++ cutD ds (some (k + 1)) none) ≤ _
        rw [nodes_append, nodes_append, cut_to, cut_from, nodes_cons, nodes_nil]
        omega
  have same4 : ∀ {H5 : Hp}, Same H4 H5 → Dv K (hid [p] H5) x e := fun s => hev.same (Same.hid s)
  refine ⟨_, rfl, _, rfl, t, xs4, _, x, rfl, rfl, same_sqT hid_same hq4, hat, x, e, "tuple", rfl, hev.same hid_same, .inl rfl, _, rfl, ?_⟩
  by_cases hs : isT "tuple" e = true
  rotate_left
  · rw [Bool.eq_false_iff.mpr hs]
    refine iteT ⟨p, _, _, kn, fun v1 H5 s5 hv1 => ⟨.ref p, rfl, small (by show 0 ≤ 1000; decide), fun r hr => ⟨small (by show 4 ≤ 1000; decide), fun l hl => ?_⟩⟩⟩
    have hp5 := hp4.same s5
    have g1 := same_new hr (.tup [])
    have hp6 := hp5.same g1
    refine ⟨p, .ref l, [.ref r, .str "a", .non, .str "below"], _, rfl, hp6.new hl _, by omega, .inl ⟨l, rfl, .inl (.inl (.inl upd_same))⟩, fun e => hp6.ne hl (V.ref.inj e), (by show 0 < 4; decide), (by show 4 < 1000; decide), fun i y H6 hyi hp7 b7 => ?_⟩
    have g2 := same_new hl (.lst [V.ref r, V.str "a", V.non, V.str "below"])
    have hw : DvAll K (hid [p] (upd (upd H5 r (.tup [])) l (.lst [V.ref r, V.str "a", V.non, V.str "below"]))) [V.ref r, V.str "a", V.non, V.str "below"] words4 := .cons ((dv_new hp5 hr .nil).same (Same.hid g2)) (.cons (.str _ (by decide)) (.cons .non (.cons (.str _ (by decide)) .nil)))
    obtain ⟨d, hd, hdv⟩ := hw.get hyi
    obtain ⟨td, nd⟩ := words4_ok d (List.mem_of_getElem? hd)
    have b56 : But p H5 H6 := same_but (Same.trans g1 g2) b7
    exact last y d v1 _ H6 (by omega) hp7 (same_but s5 b56) (hv1.same (But.hid b56 (List.mem_singleton.mpr rfl))) (hdv.same (But.hid b7 (List.mem_singleton.mpr rfl))) (td.mono (by omega)) (by omega)
  · obtain ⟨es, rfl⟩ := (isT_tuple e).mp hs
    rw [hs]
    have hne := nodes_mem (List.mem_of_getElem? he)
    refine iteF ⟨p, _, _, kn, fun v1 H5 s5 hv1 => ⟨.ref p, rfl, _, rfl, _, rfl, t, xs4, _, x, rfl, rfl, same_sqT s5 (same_sqT hid_same hq4), hat, p, x, es, n + 1 + 1, nodes (.tuple es), m, rfl, hp4.same s5, by omega, same4 s5, ⟨hm _ (List.mem_of_getElem? he), Nat.le_refl _⟩, by omega, trivial, fun y d H6 hp6 b6 hd6 td => ?_⟩⟩
    exact last y d v1 _ H6 (by omega) hp6 (same_but s5 b6) (hv1.same (But.hid b6 (List.mem_singleton.mpr rfl))) hd6 td.ta td.sz
end
end Fk
set_option Elab.async false
set_option linter.all false
set_option maxRecDepth 100000
set_option maxHeartbeats 4000000
namespace Fk
open PySem PySem.Spec PyProof.Rows L2
/-! ### a call with keywords alone -/
section
variable {X : Cx} {CX : CXT} {k : Nat} {f : Addr} {fd : FuncData} {ps ks : List Str} {sp : Sp} {E : XK} {x : Str} {p pos : PySem.Pos} {kws : List Keyword} {tk : TA} {g : List Value → List Value → List Value} {gV : List V → List V → List V}
theorem pe_callK0 (F : FnOk X.prog X.w X.K X.mg X.base CX k f fd ps sp) (hr : Room k X.A) (hg : Gl X x) (hm : X.mg x = some (.ref f)) (hk : PySem.W.keepIn X.K (.ref f) = true) (hb : KBinds X.K fd ps ks g gV) (hx : Passes CX X E)
    (hkw : PK X kws tk) (hall : (backToKw pos (keywordEach kws X.env)).all (·.1.isSome) = true := by rfl) (hks : (backToKw pos (keywordEach kws X.env)).filterMap (·.1) = ks := by rfl)
    (hdb : (x == ("__debug__" : Str)) = false := by decide)
    (hpl : ((backTo pos (starEach [] X.env)).any (·.1) || (backToKw pos (keywordEach kws X.env)).any (·.1.isNone)) = false := by rfl) :
    PE X (.Call (.Name x p) [] kws pos) (tCallK sp gV E tNil tk) := by
  refine ⟨fun pins s σ H Q I h => ?_⟩
  refine wpAny_Call_Name_kw (ld_glob I hg hm ?_ hdb)
  refine PySem.W.callWith_KW0 (h₀ := X.base) I.ok.mod.kin hk hall ?_ hpl
  refine thn (hkw.run pos pins s σ H _ I h) fun ws s2 ⟨zs, H2, I2, rz, q2⟩ => ⟨I2.kIn, ?_⟩
  rw [hks]
  exact run_fnk (us := []) (vs := []) F hr hb hx I2 .nil rz q2
end
/-- one parameter, given by its place or by its name -/
theorem Fun.kbinds {K : PySem.W.Frag} {x qual p : Str} {st : Stmt} {f : Addr} {fd : FuncData} (F : Fun K x qual st f fd)
    (h : ∀ (kV doc pm : Value) (an : Option Addr) (cdv ct u : Value), bindArgs (PySem.W.fnOf x qual (defArgs st) (defBody st) (defScope st) .none kV doc pm an cdv ct) ⟨[u], []⟩ = pure [(p, u)] ∧
      bindArgs (PySem.W.fnOf x qual (defArgs st) (defBody st) (defScope st) .none kV doc pm an cdv ct) ⟨[], [(p, u)]⟩ = pure [(p, u)]) : KBinds K fd [p] [p] (· ++ ·) (· ++ ·) := by
  obtain ⟨oc, od, kV, doc, pm, an, cdv, ct, osl, rfl, lk, hcd⟩ := F.ex
  refine ⟨fun s us ws _ hl => ?_, fun r r2 => r.append r2⟩
  have hl : (us ++ ws).length = 1 := hl
  match us, ws, hl with
  | [u], [], _ => exact .of_eq (h kV doc pm an cdv ct u).1
  | [], [u], _ => exact .of_eq (h kV doc pm an cdv ct u).2
/-! ### what is due, for all data -/
theorem str_inj : ∀ {a b : List Str}, a.map PyData.str = b.map PyData.str → a = b
  | [], [], _ => rfl
  | [], _ :: _, h => by cases h
  | _ :: _, [], h => by cases h
  | x :: a, y :: b, h => by
    injection h with h1 h2
    injection h1 with h1
    rw [h1, str_inj h2]
theorem traces_inj {V W : Trs} (hV : FormV V) (hW : FormV W) (h : tracesD V = tracesD W) : V = W := by
  unfold tracesD at h
  injection h with h
  have len : V.length = W.length := by simpa using congrArg List.length h
  refine List.ext_getElem len fun i h1 h2 => ?_
  have e := congrArg (·[i]?) h
  simp only [List.getElem?_map, List.getElem?_eq_getElem h1, List.getElem?_eq_getElem h2, Option.map_some, Option.some.injEq] at e
  unfold trD at e
  injection e with e
  exact map_wS_inj (fun c hc => (hV _ (List.getElem_mem h1) c hc).1) (fun c hc => (hW _ (List.getElem_mem h2) c hc).1) (str_inj e)
theorem form_of {V : Trs} (h2 : 2 ≤ V.length) (hV : FormV V) : formOk (tracesD V) = true := by
  show (decide (2 ≤ (V.map trD).length) && (V.map trD).all traceOk) = true
  rw [Bool.and_eq_true]
  refine ⟨decide_eq_true (by rw [List.length_map]; exact h2), List.all_eq_true.mpr fun d hd => ?_⟩
  obtain ⟨t, ht, rfl⟩ := List.mem_map.mp hd
  refine List.all_eq_true.mpr fun x hx => ?_
  obtain ⟨z, hz, rfl⟩ := List.mem_map.mp hx
  obtain ⟨w, hw, rfl⟩ := List.mem_map.mp hz
  cases w with
  | up => decide +kernel
  | dn => decide +kernel
  | lt c =>
    have k := hV t ht c hw
    show (decide (c = "below") || decide (c = "above") || (decide (c.length = 1) && ofL c)) = true
    rw [k.2, decide_eq_true k.1, Bool.and_self, Bool.or_true]
def Ans (d r : PyData) : Prop := (formOk d = false ∧ r = .none) ∨ ∃ V : Trs, d = tracesD V ∧ 2 ≤ V.length ∧ FormV V ∧ Due V r
theorem ans_one {d r r' : PyData} (h : Ans d r) (h' : Ans d r') : r = r' := by
  rcases h with ⟨f, rfl⟩ | ⟨V, rfl, l, hV, due⟩
  · rcases h' with ⟨_, rfl⟩ | ⟨V, rfl, l, hV, due⟩
    · rfl
    · rw [form_of l hV] at f
      cases f
  · rcases h' with ⟨f, rfl⟩ | ⟨W, e, l2, hW, due2⟩
    · rw [form_of l hV] at f
      cases f
    · have e := traces_inj hV hW e
      subst e
      exact due_one due due2
theorem out_of {K : PySem.W.Frag} {H : Hp} {x : V} {d : PyData} {Q : VK} {E : XK} (hd : Dv K H x d) (few : Few d) (q : ∀ (r : PyData) (y : V) (H' : Hp), Ans d r → Same H H' → Dv K H' y r → Q y H') : spOutput K [x] H Q E :=
  ⟨x, d, rfl, hd, few, fun f H' s => q .none .non H' (.inl ⟨f, rfl⟩) s .non, fun V e l hV r y H' due s hy => q r y H' (.inr ⟨V, e, l, hV, due⟩) s hy⟩
theorem al_small : ∀ c ∈ tl alpha, c < 16 ^ 8 := by decide +kernel
theorem ok_ev {e : Ev} (h : e.1.length = 1 ∧ ofL e.1 = true) (h2 : e.2 < 1000) : Ok 60 1 (evD e) := by
  have h1 : Ok 12 0 (.str e.1) := ok_str (n := 1) (fun c hc => al_small c (of_decide_eq_true (List.all_eq_true.mp h.2 c hc))) (Nat.le_of_eq h.1) (by omega)
  have h2 : Ok 20 0 (.int (e.2 : Int)) := ok_int (by omega) (Nat.le_refl _)
  refine ok_tup (fun d hd => ?_) ?_
  · simp only [List.mem_cons, List.mem_nil_iff, or_false] at hd
    rcases hd with rfl | rfl
    · exact ⟨_, h1⟩
    · exact ⟨_, h2⟩
  · rw [lens_cons, lens_cons, lens_nil]
    have := h1.len
    have := h2.len
    omega
theorem ok_outD {o : List Ev} (h : Ones o) (l : o.length ≤ 900) (h2 : ∀ e ∈ o, e.2 < 1000) : Ok 60000 2 (outD o) := by
  refine ok_tup (fun d hd => ?_) ?_
  · obtain ⟨e, he, rfl⟩ := List.mem_map.mp hd
    exact ⟨_, ok_ev (h e he) (h2 e he)⟩
  · have k : lens (o.map evD) ≤ (o.map evD).length * (60 + 2) := lens_le fun d hd => by
      obtain ⟨e, he, rfl⟩ := List.mem_map.mp hd
      exact (ok_ev (h e he) (h2 e he)).len
    rw [List.length_map] at k
    omega
theorem ans_ok {d r : PyData} (few : Few d) (h : Ans d r) : Dok 60000 40 r := by
  rcases h with ⟨_, rfl⟩ | ⟨V, rfl, l, hV, ⟨o, rfl, w⟩ | ⟨rfl, _⟩⟩
  · exact (ok_non (by omega)).dok
  · obtain ⟨f1, f2⟩ := few.le V rfl
    exact ((ok_outD (begun_ones hV o w.begun) (Nat.le_trans (begun_total w.begun) f2) fun e he => Nat.lt_of_lt_of_le (w.1 e he) (by omega)).mono (Nat.le_refl _) (by omega)).dok
  · exact (ok_non (by omega)).dok
theorem n60 : 60000 ≤ sizeLine := by decide +kernel
/-! ### _law_is_told -/
abbrev s__law_is_told : Stmt := top 22
abbrev sc__law_is_toldN : List Str := ["_law_value", "_law_kept", "_law_due_here"]
theorem sc__law_is_told : FnScope sc__law_is_toldN ["_law_value"] (defScope s__law_is_told) := ⟨rfl, rfl, rfl, by decide +kernel, rfl, by decide +kernel, by decide +kernel⟩
def spTold (K : PySem.W.Frag) : Sp := fun vs H Q _ => ∃ (v : V) (d : PyData) (N : Nat), vs = [v] ∧ Dv K H v d ∧ Dok N 40 d ∧ N ≤ sizeLine ∧ Few d ∧ ∀ H', Same H H' → Q (.bl true) H'
section
variable {P : Program} {w : World} {K : PySem.W.Frag} {mg : Str → Option Value} {base : Heap}
theorem ok_told {f : Addr} {fd : FuncData} (F : Fun K "_law_is_told" "_law_is_told" s__law_is_told f fd) (C : Con K mg) (CD : Callee P w K mg base 4 "_law_due" ["_law_value"] (spOutput K))
    (CP : Callee P w K mg base 4 "output_of" ["traces"] (spOutput K)) (kb : KBinds K CP.fd ["traces"] ["traces"] (· ++ ·) (· ++ ·)) : FnOkG P w K mg base 5 f fd ["_law_value"] (spTold K) := by
  refine Fun.okG F sc__law_is_told (fun vs H Q E h => ?_) (fun cdv A outer s H vs Q E hgu hr h => ?_)
  · obtain ⟨v, d, N, rfl, _⟩ := h
    rfl
  obtain ⟨v, d, N, rfl, hd, ok, hN, few, q⟩ := h
  refine ⟨_, (pss_cons (ps_par (i := 1) (j := 2) (by rfl) sc__law_is_told.nd rfl rfl (by decide) rfl rfl (pa_cons (pe_callB (call_reprV hgu hr.units) (by rfl) C.repr (by decide +kernel) (pa_cons (pv 0) pa_nil)) (pa_cons (pe_callB (call_reprV hgu hr.units) (by rfl) C.repr (by decide +kernel) (pa_cons (pe_call CD.ok hr rfl CD.mg CD.kp CD.b .nil pass0 (pa_cons (pv 0) pa_nil)) pa_nil)) pa_nil)) (by rfl))
(pss_one (ps_ret (pe_and (pe_cmpR op_eq (pe_callB (call_reprV hgu hr.units) (by rfl) C.repr (by decide +kernel) (pa_cons (pe_call CP.ok hr rfl CP.mg CP.kp CP.b .nil pass0 (pa_cons (pv 0) pa_nil)) pa_nil)) (pv 2) (nomark _)) (pe_and (pe_cmpR op_eq (pe_callB (call_reprV hgu hr.units) (by rfl) C.repr (by decide +kernel) (pa_cons (pe_callK0 CP.ok hr rfl CP.mg CP.kp kb pass0 (pk_cons (pv 0) pk_nil)) pa_nil)) (pv 2) (nomark _)) (pe_one (pe_cmpR op_eq (pe_callB (call_reprV hgu hr.units) (by rfl) C.repr (by decide +kernel) (pa_cons (pv 0) pa_nil)) (pv 1) (nomark _)))))))), ?_⟩
  refine ⟨v, rfl, v, d, N, rfl, hd, ok, hN, v, rfl, ?_⟩
  dsimp only [tNil]
  refine out_of hd few fun r y H1 a1 s1 hy => ⟨y, r, 60000, rfl, hy, ans_ok few a1, n60, ?_⟩
  refine ⟨_, _, rfl, v, rfl, ?_⟩
  dsimp only [tNil]
  refine out_of (hd.same s1) few fun r2 y2 H2 a2 s2 hy2 => ⟨y2, r2, 60000, rfl, hy2, ans_ok few a2, n60, .str r.shown, rfl, rfl, _, rfl, ?_⟩
  rw [ans_one a2 a1, decide_eq_true rfl]
  refine iteT ⟨v, rfl, ?_⟩
  dsimp only [tNil]
  refine out_of ((hd.same s1).same s2) few fun r3 y3 H3 a3 s3 hy3 => ⟨y3, r3, 60000, rfl, hy3, ans_ok few a3, n60, .str r.shown, rfl, rfl, _, rfl, ?_⟩
  rw [ans_one a3 a1, decide_eq_true rfl]
  refine iteT ⟨v, rfl, v, d, N, rfl, ((hd.same s1).same s2).same s3, ok, hN, .str d.shown, rfl, rfl, ?_⟩
  have z := q H3 (Same.trans (Same.trans s1 s2) s3)
  rw [decide_eq_true rfl]
  exact z
end
end Fk
set_option Elab.async false
set_option linter.all false
set_option maxRecDepth 100000
set_option maxHeartbeats 8000000
namespace Fk
open PySem L2
/-! ### what is bounded may be told -/
theorem nodes_strs : ∀ (zs : List Str), nodesAll (zs.map .str) = zs.length
  | [] => rfl
  | z :: zs => by
    rw [List.map_cons, nodes_cons, nodes_strs zs, List.length_cons]
    have e : nodes (.str z) = 1 := by simp only [nodes]
    rw [e]
    omega
theorem nodes_traces : ∀ (W : Trs), nodesAll (W.map trD) = W.length + total W
  | [] => rfl
  | t :: W => by
    rw [List.map_cons, nodes_cons, nodes_traces W, List.length_cons]
    have e : nodes (trD t) = 1 + t.length := by
      unfold trD
      rw [nodes_tup, nodes_strs, List.length_map]
    have e2 : total (t :: W) = t.length + total W := by
      unfold total
      rw [List.map_cons, List.sum_cons]
    rw [e, e2]
    omega
theorem few_tm {N M : Nat} {d : PyData} (t : Tm N M d) (h : N ≤ 900) : Few d := by
  have sz := t.sz
  refine ⟨fun ts e => ?_, fun W e => ?_⟩
  · subst e
    rw [nodes_tup] at sz
    have l := nodes_len ts
    refine ⟨by omega, fun ws hw => ?_⟩
    have k := nodes_mem hw
    rw [nodes_tup] at k
    have l2 := nodes_len ws
    omega
  · subst e
    unfold tracesD at sz
    rw [nodes_tup, nodes_traces] at sz
    omega
theorem n90 : 90000 ≤ sizeLine := by decide +kernel
theorem told_of {K : PySem.W.Frag} {H : Hp} {v : V} {d : PyData} {N M : Nat} {Q : VK} {E : XK} (hd : Dv K H v d) (t : Tm N M d) (hN : N ≤ 900) (hM : M ≤ 40) (q : ∀ H', Same H H' → Q (.bl true) H') : spTold K [v] H Q E := by
  obtain ⟨n, ok, l⟩ := t.ta.ok
  have sz := t.sz
  exact ⟨v, d, n, rfl, hd, ok.dok.mono (Nat.le_refl _) hM, Nat.le_trans (by omega : n ≤ 90000) n90, few_tm t hN, q⟩
theorem lf_lay {d : PyData} (h : isLf d = true) : d.canLay0 = true := by
  cases d with
  | none => rfl
  | bool b => rfl
  | int i => rfl
  | str z =>
    obtain ⟨h1, h2⟩ := Bool.and_eq_true_iff.mp h
    show PyData.strOk z = true
    unfold PyData.strOk
    rw [← Array.all_toList]
    refine List.all_eq_true.mpr fun c hc => ?_
    exact List.all_eq_true.mp h2 c hc
  | list xs => cases h
  | tuple xs => cases h
  | dict xs => cases h
theorem Ta.lay {M : Nat} {d : PyData} (h : Ta M d) : d.canLay0 = true := by
  induction h with
  | leaf h => exact lf_lay h
  | tup h ih => exact lay_all ih
  | lst h ih => exact lay_all ih
theorem Ta.shaped {M : Nat} {d : PyData} (h : Ta M d) (l : M ≤ 64) : SeqAt.shaped d = true := by
  obtain ⟨n, ok, _⟩ := h.ok
  exact shaped_of h.lay (Nat.le_trans ok.dp l)
def bnd : Nat → Nat
  | 0 => 36
  | j + 1 => 2 * bnd j + 3
theorem bnd_le : ∀ {j : Nat}, j ≤ 3 → bnd j ≤ 309
  | 0, _ => by decide
  | 1, _ => by decide
  | 2, _ => by decide
  | 3, _ => by decide
  | j + 4, h => by omega
theorem total_le {k : Nat} : ∀ {W : Trs}, (∀ t ∈ W, t.length ≤ k) → total W ≤ W.length * k
  | [], _ => Nat.zero_le _
  | t :: W, h => by
    have h1 := h t List.mem_cons_self
    have h2 := total_le fun x hx => h x (List.mem_cons_of_mem _ hx)
    have e2 : total (t :: W) = t.length + total W := by
      unfold total
      rw [List.map_cons, List.sum_cons]
    rw [e2, List.length_cons, Nat.succ_mul]
    omega
theorem lf_al : ∀ c ∈ tl alpha, c < 1114112 := by decide +kernel
theorem tm_start {o : List Ev} {m : Nat} (ho : Ones o) (lo : o.length ≤ 6) (hm : m ≤ 5) : Tm (bnd 0) 2 (tracesD (trs o m)) := by
  refine Tm.tup (M := 1) (fun d hd => ?_) ?_
  · obtain ⟨t, ht, rfl⟩ := List.mem_map.mp hd
    refine .tup (M := 0) fun x hx => .leaf ?_
    obtain ⟨z, hz, rfl⟩ := List.mem_map.mp hx
    obtain ⟨w, hw, rfl⟩ := List.mem_map.mp hz
    cases w with
    | up => decide +kernel
    | dn => decide +kernel
    | lt c =>
      have k := form_trs ho m t ht c hw
      show (decide (c.length ≤ 7) && (tl c).all fun c => decide (c < 1114112)) = true
      rw [decide_eq_true (by omega : c.length ≤ 7), Bool.true_and]
      exact List.all_eq_true.mpr fun x hx => decide_eq_true (lf_al x (of_decide_eq_true (List.all_eq_true.mp k.2 x hx)))
  · rw [nodes_traces]
    have k : total (trs o m) ≤ (trs o m).length * 6 := total_le fun t ht => by
      obtain ⟨r, _, rfl⟩ := List.mem_map.mp ht
      exact Nat.le_trans (tr_len r o) lo
    rw [trs_len] at k ⊢
    show 1 + (m + total (trs o m)) ≤ 36
    omega
theorem ans_start {o : List Ev} {m : Nat} (ho : Ones o) (hm : 2 ≤ m) (hi : ∀ e ∈ o, e.2 < m) : Ans (tracesD (trs o m)) (outD o) := by
  refine .inr ⟨trs o m, rfl, by rw [trs_len]; exact hm, form_trs ho m, .inl ⟨o, rfl, fun e he => by rw [trs_len]; exact hi e he, fun r t ht => ?_⟩⟩
  have hr : r < m := by
    have := (List.getElem?_eq_some_iff.mp ht).1
    rwa [trs_len] at this
  rw [trs_at hr] at ht
  exact Option.some.inj ht
def odds : List PyData := [.none, .int 0, .str "ab", .str "", .list [], .dict [], .tuple [.tuple [], .none], .tuple [.str "a", .str "b"], .tuple [.tuple [], .list []], .tuple [.tuple [.str "a"], .int 1]]
theorem ta_small {d : PyData} (h : d ∈ odds) : d = .dict [] ∨ Tm 5 2 d := by
  unfold odds at h
  simp only [List.mem_cons, List.mem_nil_iff, or_false] at h
  have t0 : Ta 1 (.tuple []) := .tup (M := 0) fun d hd => by cases hd
  have l0 : Ta 1 (.list []) := .lst (M := 0) fun d hd => by cases hd
  have ls : ∀ {M : Nat}, Ta M (.str "a") ∧ Ta M (.str "b") := ⟨.leaf (by decide +kernel), .leaf (by decide +kernel)⟩
  have t2 : ∀ (a b : PyData), Ta 1 a → Ta 1 b → Ta 2 (.tuple [a, b]) := fun a b h1 h2 => .tup fun d hd => by
    simp only [List.mem_cons, List.mem_nil_iff, or_false] at hd
    rcases hd with rfl | rfl
    · exact h1
    · exact h2
  have t1 : Ta 1 (.tuple [.str "a"]) := .tup (M := 0) fun d hd => by rw [List.mem_singleton.mp hd]; exact ls.1
  rcases h with rfl | rfl | rfl | rfl | rfl | rfl | rfl | rfl | rfl | rfl
  · exact .inr ⟨.leaf rfl, by simp only [nodes]; omega⟩
  · exact .inr ⟨.leaf rfl, by simp only [nodes]; omega⟩
  · exact .inr ⟨.leaf (by decide +kernel), by simp only [nodes]; omega⟩
  · exact .inr ⟨.leaf (by decide +kernel), by simp only [nodes]; omega⟩
  · exact .inr ⟨l0.mono (by omega), by simp only [nodes, nodesAll]; omega⟩
  · exact .inl rfl
  · exact .inr ⟨t2 _ _ t0 (.leaf rfl), by simp only [nodes, nodesAll]; omega⟩
  · exact .inr ⟨t2 _ _ ls.1 ls.2, by simp only [nodes, nodesAll]; omega⟩
  · exact .inr ⟨t2 _ _ t0 l0, by simp only [nodes, nodesAll]; omega⟩
  · exact .inr ⟨t2 _ _ t1 (.leaf rfl), by simp only [nodes, nodesAll]; omega⟩
theorem told_odd {K : PySem.W.Frag} {H : Hp} {v : V} {d : PyData} {Q : VK} {E : XK} (hd : Dv K H v d) (h : d ∈ odds) (q : ∀ H', Same H H' → Q (.bl true) H') : spTold K [v] H Q E := by
  rcases ta_small h with rfl | t
  · refine ⟨v, _, 10, rfl, hd, ⟨rfl, .inr rfl, by decide +kernel, by decide +kernel⟩, small (by omega), ⟨fun ts e => (by cases e), fun W e => (by cases e)⟩, q⟩
  · exact told_of hd t (by omega) (by omega) q
theorem nl_traces (W : Trs) : noList (tracesD W) = true := by
  rw [tracesD_txt]
  exact nl_tup _
theorem dv_rep {K : PySem.W.Frag} {H : Hp} {v : V} {d : PyData} (h : Dv K H v d) : ∀ n : Nat, DvAll K H (List.replicate n v) (List.replicate n d)
  | 0 => .nil
  | n + 1 => .cons h (dv_rep h n)
theorem nodes_rep (d : PyData) : ∀ n : Nat, nodesAll (List.replicate n d) = n * nodes d
  | 0 => (Nat.zero_mul _).symm
  | n + 1 => by
    rw [List.replicate_succ, nodes_cons, nodes_rep d n, Nat.succ_mul, Nat.add_comm]
theorem rep_flat (v : V) : ∀ n : Nat, (List.replicate n [v]).flatten = List.replicate n v
  | 0 => rfl
  | n + 1 => by
    rw [List.replicate_succ, List.flatten_cons, rep_flat v n]
    rfl
/-- a value kept while others are made, the pot hidden -/
theorem Dv.kept {K : PySem.W.Frag} {H H' : Hp} {p : Addr} {v : V} {d : PyData} (h : Dv K (hid [p] H) v d) (s : Same H H') : Dv K (hid [p] H') v d := h.same (Same.hid s)
theorem dv_newD {K : PySem.W.Frag} {H : Hp} {p q : Addr} {n : Nat} (hp : Pot H p n) (hq : H q = none) : Dv K (hid [p] (L2.upd H q (.dK []))) (.ref q) (.dict []) := .dct (hid_new hp hq)
/-! ### _law_right -/
abbrev s__law_right : Stmt := top 23
abbrev sc__law_rightN : List Str := ["_law_pot", "_law_many", "_law_output", "_law_some", "_law_odd", "_law_turn", "_law_value", "_law_more"]
theorem sc__law_right : FnScope sc__law_rightN ["_law_pot"] (defScope s__law_right) := ⟨rfl, rfl, rfl, by decide +kernel, rfl, by decide +kernel, by decide +kernel⟩
def spRight : Sp := fun vs H Q _ => ∃ (p : Addr) (n : Nat), vs = [.ref p] ∧ Pot H p n ∧ n + 400 < 1000000 ∧ ∀ H', Pot H' p (n + 300) → But p H H' → Q (.bl true) H'
section
variable {P : Program} {w : World} {K : PySem.W.Frag} {mg : Str → Option Value} {base : Heap}
theorem ok_right {f fI : Addr} {fd fdI : FuncData} (F : Fun K "_law_right" "_law_right" s__law_right f fd) (T : Bare mg) (C : Con K mg) (CT : Callee P w K mg base 1 "_law_take" ["_law_pot", "_law_upto"] spTake) (COf : Callee P w K mg base 2 "_law_of" ["_law_pot", "_law_some"] (spOf K))
    (CTr : Callee P w K mg base 2 "_law_traces" ["_law_output", "_law_many"] (spTraces K)) (CO : Callee P w K mg base 3 "_law_drawn_output" ["_law_pot", "_law_many"] (spOut K)) (CP : Callee P w K mg base 4 "output_of" ["traces"] (spOutput K)) (CB : Callee P w K mg base 4 "_law_bent" ["_law_pot", "_law_value"] (spBend K (fun ds M => ds ≠ [] ∧ 2 ≤ M) 5))
    (OI : FnOkG P w K mg base 5 fI fdI ["_law_value"] (spTold K)) (mI : mg "_law_is_told" = some (.ref fI)) (kI : PySem.W.keepIn K (.ref fI) = true) (bI : Binds K fdI ["_law_value"] []) :
    FnOkG P w K mg base 6 f fd ["_law_pot"] spRight := by
  refine Fun.okG F sc__law_right (fun vs H Q E h => ?_) (fun cdv A outer s H vs Q E hgu hr h => ?_)
  · obtain ⟨p, n, rfl, _⟩ := h
    rfl
  obtain ⟨p, n, rfl, hp, hn, q⟩ := h
  refine ⟨_, (pss_cons (ps_set (i := 1) sc__law_right.nd rfl (Or.inl rfl) (pe_op op_add pe_int (pe_call CT.ok (hr.mono (by decide)) rfl CT.mg CT.kp CT.b .nil pass0 (pa_cons (pv 0) (pa_cons pe_int pa_nil)))))
(pss_cons (ps_set (i := 2) sc__law_right.nd rfl (Or.inl rfl) (pe_call CO.ok (hr.mono (by decide)) rfl CO.mg CO.kp CO.b .nil pass0 (pa_cons (pv 0) (pa_cons (pv 1) pa_nil))))
(pss_cons (ps_par (i := 3) (j := 4) (by rfl) sc__law_right.nd rfl rfl (by decide) rfl rfl (pa_cons (pe_call CTr.ok (hr.mono (by decide)) rfl CTr.mg CTr.kp CTr.b .nil pass0 (pa_cons (pv 2) (pa_cons (pv 1) pa_nil))) (pa_cons (pe_lst (pa_cons pe_non (pa_cons pe_int (pa_cons pe_str (pa_cons pe_str (pa_cons (pe_lst pa_nil) (pa_cons pe_dnewK (pa_cons (pe_tup (pa_cons (pe_tup pa_nil) (pa_cons pe_non pa_nil))) (pa_cons (pe_tup (pa_cons pe_str (pa_cons pe_str pa_nil))) (pa_cons (pe_tup (pa_cons (pe_tup pa_nil) (pa_cons (pe_lst pa_nil) pa_nil))) (pa_cons (pe_tup (pa_cons (pe_tup (pa_cons pe_str pa_nil)) (pa_cons pe_int pa_nil))) pa_nil))))))))))) pa_nil)) (by rfl))
(pss_cons (ps_if (pt_cmpR op_ne (pe_callB (call_reprV hgu hr.units) (by rfl) C.repr (by decide +kernel) (pa_cons (pe_call CP.ok (hr.mono (by decide)) rfl CP.mg CP.kp CP.b .nil pass0 (pa_cons (pv 3) pa_nil)) pa_nil)) (pe_callB (call_reprV hgu hr.units) (by rfl) C.repr (by decide +kernel) (pa_cons (pv 2) pa_nil)) (nomark _))
(pss_one (ps_ret pe_bl))
pss_nil)
(pss_cons (ps_for PassesOwn.never rfl (pi_range1 (by rfl) T.range (pa_cons pe_int pa_nil)) (pg_name (i := 5) sc__law_right.nd rfl (Or.inl rfl))
(pss_cons (ps_set (i := 6) sc__law_right.nd rfl (Or.inl rfl) (pv 3))
(pss_cons (ps_for PassesOwn.never rfl (pi_range1 (by rfl) T.range (pa_cons (pe_op op_add pe_int (pe_call CT.ok (hr.mono (by decide)) rfl CT.mg CT.kp CT.b .nil pass0 (pa_cons (pv 0) (pa_cons pe_int pa_nil)))) pa_nil)) (pg_name (i := 7) sc__law_right.nd rfl (Or.inl rfl))
(pss_one (ps_if (PW.pt (pw_and (pt_val (pe_callB call_isD (by rfl) C.isi boot_isi (pa_cons (pv 6) (pa_cons (pe_bltn (v := .ty "tuple") (u := .type "tuple") (by rfl) T.tuple (by decide +kernel) rfl) pa_nil)))) (pw_and1 (pt_cmpR (op_neW hr.units) (pv 6) (pe_tup pa_nil) (nomark _)))))
(pss_one (ps_set (i := 6) sc__law_right.nd rfl (Or.inl rfl) (pe_call CB.ok (hr.mono (by decide)) rfl CB.mg CB.kp CB.b .nil pass0 (pa_cons (pv 0) (pa_cons (pv 6) pa_nil)))))
pss_nil)))
(pss_one (ps_if (pt_not (pt_val (pe_callG OI hgu hr rfl mI kI bI (pa_cons (pv 6) pa_nil))))
(pss_one (ps_ret pe_bl))
pss_nil)))))
(pss_one (ps_ret (pe_and (pe_callG OI hgu hr rfl mI kI bI (pa_cons (pe_call COf.ok (hr.mono (by decide)) rfl COf.mg COf.kp COf.b .nil pass0 (pa_cons (pv 0) (pa_cons (pv 4) pa_nil))) pa_nil)) (pe_one (pe_callG OI hgu hr rfl mI kI bI (pa_cons (pe_op op_repT (pe_tup (pa_cons (pe_tup pa_nil) pa_nil)) (pv 1)) pa_nil))))))))))), ?_⟩
  refine ⟨.ref p, rfl, p, 4, n, rfl, hp, by omega, by decide, by decide, fun d0 H1 z0 z1 hp1 b1 => ⟨2, d0, rfl, rfl, ?_⟩⟩
  obtain ⟨m, em⟩ : ∃ m : Nat, (2 : Int) + d0 = m := ⟨(2 + d0).toNat, by omega⟩
  show gName 1 (.int (2 + d0)) _ _ _
  rw [em]
  have m2 : 2 ≤ m := by omega
  have m5 : m ≤ 5 := by omega
  refine ⟨.ref p, rfl, _, rfl, p, m, n + 1, rfl, hp1, by omega, m2, by omega, fun a o H2 hp2 b2 hd2 ho lo hi => ?_⟩
  refine ⟨.ref a, rfl, _, rfl, a, m, o, rfl, hd2, ho, by omega, by omega, fun t H3 s3 ht3 => ?_⟩
  have hp3 := hp2.same s3
  have hd3 := hd2.same s3
  have ht3 := Dv.hidP hp3 (nl_traces _) ht3
  have ha3 := Dv.hidP hp3 (nl_out o) hd3
  -- the odd values
  refine ⟨small (by show 0 ≤ 1000; decide), fun r1 h1 => ?_⟩
  have s4 := same_new h1 (.lst [])
  have v1 := dv_newL (K := K) hp3 h1 .nil
  have hp4 := hp3.new h1 (.lst [])
  generalize upd H3 r1 (.lst []) = H4 at s4 v1 hp4 ⊢
  refine fun r2 h2 => ?_
  have s5 := same_new h2 (.dK [])
  have v2 := dv_newD (K := K) hp4 h2
  have hp5 := hp4.new h2 (.dK [])
  have v1 := v1.kept s5
  generalize upd H4 r2 (.dK []) = H5 at s5 v1 v2 hp5 ⊢
  refine ⟨small (by show 0 ≤ 1000; decide), fun r3 h3 => ?_⟩
  have s6 := same_new h3 (.tup [])
  have v3 := dv_new (K := K) hp5 h3 .nil
  have hp6 := hp5.new h3 (.tup [])
  have v1 := v1.kept s6
  have v2 := v2.kept s6
  generalize upd H5 r3 (.tup []) = H6 at s6 v1 v2 v3 hp6 ⊢
  refine ⟨small (by show 2 ≤ 1000; decide), fun r4 h4 => ?_⟩
  have s7 := same_new h4 (.tup [.ref r3, .non])
  have v3 := dv_new (K := K) hp6 h4 (.cons v3 (.cons .non .nil))
  have hp7 := hp6.new h4 (.tup [.ref r3, .non])
  have v1 := v1.kept s7
  have v2 := v2.kept s7
  generalize upd H6 r4 (.tup [.ref r3, .non]) = H7 at s7 v1 v2 v3 hp7 ⊢
  refine ⟨small (by show 2 ≤ 1000; decide), fun r5 h5 => ?_⟩
  have s8 := same_new h5 (.tup [.str "a", .str "b"])
  have v4 := dv_new (K := K) hp7 h5 (.cons (.str "a" (by decide)) (.cons (.str "b" (by decide)) .nil))
  have hp8 := hp7.new h5 (.tup [.str "a", .str "b"])
  have v1 := v1.kept s8
  have v2 := v2.kept s8
  have v3 := v3.kept s8
  generalize upd H7 r5 (.tup [.str "a", .str "b"]) = H8 at s8 v1 v2 v3 v4 hp8 ⊢
  refine ⟨small (by show 0 ≤ 1000; decide), fun r6 h6 => ?_⟩
  have s9 := same_new h6 (.tup [])
  have v5 := dv_new (K := K) hp8 h6 .nil
  have hp9 := hp8.new h6 (.tup [])
  have v1 := v1.kept s9
  have v2 := v2.kept s9
  have v3 := v3.kept s9
  have v4 := v4.kept s9
  generalize upd H8 r6 (.tup []) = H9 at s9 v1 v2 v3 v4 v5 hp9 ⊢
  refine ⟨small (by show 0 ≤ 1000; decide), fun r7 h7 => ?_⟩
  have s10 := same_new h7 (.lst [])
  have v6 := dv_newL (K := K) hp9 h7 .nil
  have hp10 := hp9.new h7 (.lst [])
  have v1 := v1.kept s10
  have v2 := v2.kept s10
  have v3 := v3.kept s10
  have v4 := v4.kept s10
  have v5 := v5.kept s10
  generalize upd H9 r7 (.lst []) = H10 at s10 v1 v2 v3 v4 v5 v6 hp10 ⊢
  refine ⟨small (by show 2 ≤ 1000; decide), fun r8 h8 => ?_⟩
  have s11 := same_new h8 (.tup [.ref r6, .ref r7])
  have v5 := dv_new (K := K) hp10 h8 (.cons v5 (.cons v6 .nil))
  have hp11 := hp10.new h8 (.tup [.ref r6, .ref r7])
  have v1 := v1.kept s11
  have v2 := v2.kept s11
  have v3 := v3.kept s11
  have v4 := v4.kept s11
  generalize upd H10 r8 (.tup [.ref r6, .ref r7]) = H11 at s11 v1 v2 v3 v4 v5 hp11 ⊢
  refine ⟨small (by show 1 ≤ 1000; decide), fun r9 h9 => ?_⟩
  have s12 := same_new h9 (.tup [.str "a"])
  have v6 := dv_new (K := K) hp11 h9 (.cons (.str "a" (by decide)) .nil)
  have hp12 := hp11.new h9 (.tup [.str "a"])
  have v1 := v1.kept s12
  have v2 := v2.kept s12
  have v3 := v3.kept s12
  have v4 := v4.kept s12
  have v5 := v5.kept s12
  generalize upd H11 r9 (.tup [.str "a"]) = H12 at s12 v1 v2 v3 v4 v5 v6 hp12 ⊢
  refine ⟨small (by show 2 ≤ 1000; decide), fun r10 h10 => ?_⟩
  have s13 := same_new h10 (.tup [.ref r9, .int 1])
  have v6 := dv_new (K := K) hp12 h10 (.cons v6 (.cons (.int 1) .nil))
  have hp13 := hp12.new h10 (.tup [.ref r9, .int 1])
  have v1 := v1.kept s13
  have v2 := v2.kept s13
  have v3 := v3.kept s13
  have v4 := v4.kept s13
  have v5 := v5.kept s13
  generalize upd H12 r10 (.tup [.ref r9, .int 1]) = H13 at s13 v1 v2 v3 v4 v5 v6 hp13 ⊢
  have all : DvAll K (hid [p] H13) [.non, .int 0, .str "ab", .str "", .ref r1, .ref r2, .ref r4, .ref r5, .ref r8, .ref r10] odds := .cons .non (.cons (.int 0) (.cons (.str _ (by decide)) (.cons (.str _ (by decide)) (.cons v1 (.cons v2 (.cons v3 (.cons v4 (.cons v5 (.cons v6 .nil)))))))))
  have s3_13 : Same H3 H13 := Same.trans s4 (Same.trans s5 (Same.trans s6 (Same.trans s7 (Same.trans s8 (Same.trans s9 (Same.trans s10 (Same.trans s11 (Same.trans s12 s13))))))))
  clear v1 v2 v3 v4 v5 v6 s4 s5 s6 s7 s8 s9 s10 s11 s12 s13 hp4 hp5 hp6 hp7 hp8 hp9 hp10 hp11 hp12
  refine ⟨small (by show 10 ≤ 1000; decide), fun l hl => ?_⟩
  dsimp only [tNil, tCons]
  generalize exs : ([.non, .int 0, .str "ab", .str "", .ref r1, .ref r2, .ref r4, .ref r5, .ref r8, .ref r10] : List V) = xs at all ⊢
  have lxs : xs.length = 10 := all.len

  have sl := same_new hl (.lst xs)
  have hpl := hp13.new hl (.lst xs)
  have npl : (V.ref l : V) ≠ .ref p := fun e => hp13.ne hl (V.ref.inj e)
  have hsq : SqL K (upd H13 l (.lst xs)) l xs := .inl (.inl upd_same)
  have all := all.same (Same.hid sl)
  have ht := ht3.kept (Same.trans s3_13 sl)
  have ha := ha3.kept (Same.trans s3_13 sl)
  have b0 : But p H (upd H13 l (.lst xs)) := (b1.trans b2).trans (But.of_same (Same.trans s3 (Same.trans s3_13 sl)))
  generalize upd H13 l (.lst xs) = H14 at hpl hsq all ht ha b0 ⊢
  clear hp3 hp13 s3_13 sl ht3 ha3 hd3
  refine ⟨_, _, rfl, ?_⟩
  have tm0 := tm_start ho lo m5
  have few0 := few_tm tm0 (by decide)
  refine ⟨.ref t, rfl, ?_⟩
  dsimp only [tNil]
  refine out_of (ht.same hid_same) few0 fun r y H15 an s15 hy => ⟨y, r, 60000, rfl, hy, ans_ok few0 an, n60, ?_⟩
  have er := ans_one an (ans_start ho m2 hi)
  subst er
  refine ⟨.ref a, rfl, .ref a, outD o, 60000, rfl, (ha.kept s15).same hid_same, ans_ok few0 an, n60, rfl, _, rfl, ?_⟩
  rw [decide_eq_true rfl]
  refine iteF ?_
  have hp15 := hpl.same s15
  have hsq := same_sqL s15 hsq
  have all := all.same (Same.hid s15)
  have ht := ht.kept s15
  have b0 := b0.trans (But.of_same s15)
  clear hy an
  -- twelve turns
  refine ⟨12, rfl, by decide, by decide, for_range (lo := 0) (n := 12) (fun i σ H' => ∃ (x5 x6 x7 : Option V), σ = [some (.ref p), some (.int (m : Int)), some (.ref a), some (.ref t), some (.ref l), x5, x6, x7] ∧ Pot H' p (n + 21 + i * 16) ∧ But p H15 H') ?_ ?_ ?_⟩
  · exact ⟨none, none, none, rfl, hp15.more (by omega), But.refl _ _⟩
  · rintro i σ H16 hi16 ⟨x5, x6, x7, rfl, hp16, b16⟩
    refine ⟨.ref t, rfl, .ref p, rfl, p, 3, _, rfl, hp16, by omega, by decide, by decide, fun d1 H17 d10 d11 hp17 b17 => ⟨1, d1, rfl, rfl, ?_⟩⟩
    have ht17 := ht.same (But.hid (b16.trans b17) (List.mem_singleton.mpr rfl))
    refine ⟨_, rfl, by omega, by omega, for_range (lo := 0) (n := (1 + d1).toNat) (fun j σ H' => ∃ (v : V) (d : PyData) (x7 : Option V), σ = [some (.ref p), some (.int (m : Int)), some (.ref a), some (.ref t), some (.ref l), some (.int (i : Int)), some v, x7] ∧ Pot H' p (n + 21 + i * 16 + 1 + j * 5) ∧ But p H17 H' ∧ Dv K (hid [p] H') v d ∧ Tm (bnd j) (2 + j) d) ?_ ?_ ?_⟩
    · exact ⟨.ref t, _, x7, by first | rfl | (rw [Int.zero_add]; rfl), hp17, But.refl _ _, ht17, tm0⟩
    · rintro j σ H18 hj ⟨v, d, x7, rfl, hp18, b18, hd18, tm⟩
      have hj3 : j + 1 ≤ 3 := by omega
      have hb := bnd_le hj3
      have hb' : bnd (j + 1) = 2 * bnd j + 3 := rfl
      have same : ∀ H19, Same H18 H19 → ∃ (v' : V) (d' : PyData) (x7 : Option V), [some (.ref p), some (.int (m : Int)), some (.ref a), some (.ref t), some (.ref l), some (.int (i : Int)), some v, some (.int ((0 : Int) + (j : Int)))] = [some (.ref p), some (.int (m : Int)), some (.ref a), some (.ref t), some (.ref l), some (.int (i : Int)), some v', x7] ∧ Pot H19 p (n + 21 + i * 16 + 1 + (j + 1) * 5) ∧ But p H17 H19 ∧ Dv K (hid [p] H19) v' d' ∧ Tm (bnd (j + 1)) (2 + (j + 1)) d' := fun H19 s => ⟨v, d, _, rfl, (hp18.same s).more (by omega), b18.trans (But.of_same s), hd18.kept s, tm.mono (by omega) (by omega)⟩
      refine ⟨v, rfl, v, d, "tuple", rfl, hd18.same hid_same, .inl rfl, _, rfl, ?_⟩
      by_cases hs : isT "tuple" d = true
      rotate_left
      · rw [Bool.eq_false_iff.mpr hs]
        exact iteF (same H18 (fun _ _ e => e))
      obtain ⟨ds, rfl⟩ := (isT_tuple d).mp hs
      rw [hs]
      refine iteT ⟨v, rfl, small (by show 0 ≤ 1000; decide), fun r hr => ?_⟩
      have sr := same_new hr (.tup [])
      have hdr := hd18.kept sr
      refine ⟨.tuple ds, .tuple [], hdr.same hid_same, .tup (.inl (.inl upd_same)) .nil, tm.ta.shaped (by omega), rfl, _, rfl, ?_⟩
      cases ds with
      | nil => exact iteF (same _ sr)
      | cons e es =>
        refine iteT ⟨.ref p, rfl, v, rfl, p, v, e :: es, _, bnd j, 2 + j, rfl, hp18.same sr, by omega, hdr, tm, by omega, ⟨fun z => (by cases z), by omega⟩, fun y d' H19 hp19 b19 hd19 tm19 => ?_⟩
        exact ⟨y, d', _, rfl, hp19.more (by omega), (b18.trans (But.of_same sr)).trans b19, hd19, tm19.mono (by omega) (by omega)⟩
    · rintro σ H18 ⟨v, d, x7, rfl, hp18, b18, hd18, tm⟩
      have hj3 : (1 + d1).toNat ≤ 3 := by omega
      have hb := bnd_le hj3
      refine ⟨v, rfl, ?_⟩
      dsimp only [tNil]
      refine told_of (hd18.same hid_same) tm (by omega) (by omega) fun H19 s19 => ⟨true, rfl, iteF ?_⟩
      exact ⟨_, _, _, rfl, (hp18.same s19).more (by omega), ((b16.trans b17).trans b18).trans (But.of_same s19)⟩
  · rintro σ H16 ⟨x5, x6, x7, rfl, hp16, b16⟩
    have hsq := b16.seq (fun e => npl (by rw [e])) hsq
    refine ⟨.ref p, rfl, .ref l, rfl, p, .ref l, xs, _, rfl, hp16, by omega, .inl ⟨l, rfl, .inl hsq⟩, npl, by omega, by omega, fun i v H17 hvi hp17 b17 => ?_⟩
    obtain ⟨d, hd, hdv⟩ := (all.same (But.hid (b16.trans b17) (List.mem_singleton.mpr rfl))).get hvi
    dsimp only [tNil]
    refine told_odd (hdv.same hid_same) (List.mem_of_getElem? hd) fun H18 s18 => ⟨true, rfl, iteT ?_⟩
    refine ⟨small (by show 0 ≤ 1000; decide), fun r1 h1 => ⟨small (by show 1 ≤ 1000; decide), fun r2 h2 => ⟨_, rfl, r2, (m : Int), [.ref r1], rfl, rfl, .inl (.inl upd_same), (fun z => by cases z), by omega, by omega, (by show 1 ≤ 1000; decide), fun r3 h3 => ?_⟩⟩⟩
    have s19 := same_new h1 (.tup [])
    have s20 := same_new h2 (.tup [V.ref r1])
    have e0 : Dv K (upd H18 r1 (.tup [])) (.ref r1) (.tuple []) := .tup (.inl (.inl upd_same)) .nil
    have s21 := same_new h3 (.tup (List.replicate (m : Int).toNat [V.ref r1]).flatten)
    have e1 := (e0.same s20).same s21
    have em : (List.replicate (m : Int).toNat [V.ref r1]).flatten = List.replicate m (V.ref r1) := by
      rw [Int.toNat_natCast]
      exact rep_flat _ _
    dsimp only [tNil]
    refine told_of (d := .tuple (List.replicate m (.tuple []))) (N := 6) (M := 2) (.tup (.inl (.inl upd_same)) (by rw [em]; exact dv_rep (by rw [em] at e1; exact e1) m)) (Tm.tup (M := 1) (fun d hd => ?_) ?_) (by omega) (by omega) fun H19 s22 => ?_
    · rw [List.eq_of_mem_replicate hd]
      exact .tup (M := 0) fun d hd => by cases hd
    · rw [nodes_rep, nodes_tup, nodes_nil]
      omega
    · have ss : Same H17 H19 := Same.trans s18 (Same.trans s19 (Same.trans s20 (Same.trans s21 s22)))
      exact q H19 ((hp17.same ss).more (by omega)) ((b0.trans (b16.trans b17)).trans (But.of_same ss))
end
end Fk
set_option Elab.async false
set_option linter.all false
set_option maxRecDepth 100000
set_option maxHeartbeats 4000000
namespace Fk
open PySem L2
/-! ### the law -/
abbrev s_law : Stmt := top 24
abbrev sc_lawN : List Str := ["_law_script", "_law_k", "_law_pot", "_law_turn"]
theorem sc_law : FnScope sc_lawN ["_law_script"] (defScope s_law) := ⟨rfl, rfl, rfl, by decide +kernel, rfl, by decide +kernel, by decide +kernel⟩
def spLaw (K : PySem.W.Frag) : Sp := fun vs H Q _ => ∃ (a : Addr) (ns : List Int), vs = [.ref a] ∧ SqL K H a (ns.map V.int) ∧ ns.length ≤ 63 ∧ ∀ H', Q (.bl true) H'
section
variable {P : Program} {w : World} {K : PySem.W.Frag} {mg : Str → Option Value} {base : Heap}
theorem ok_law {f fR : Addr} {fd fdR : FuncData} (F : Fun K "law" "law" s_law f fd) (T : Bare mg) (C : Con K mg) (CP : Callee P w K mg base 1 "_law_pot_of" ["_law_script", "_law_k"] (spPotOf K))
    (OR : FnOkG P w K mg base 6 fR fdR ["_law_pot"] spRight) (mR : mg "_law_right" = some (.ref fR)) (kR : PySem.W.keepIn K (.ref fR) = true) (bR : Binds K fdR ["_law_pot"] []) :
    FnOkG P w K mg base 7 f fd ["_law_script"] (spLaw K) := by
  refine Fun.okG F sc_law (fun vs H Q E h => ?_) (fun cdv A outer st H vs Q E hgu hr h => ?_)
  · obtain ⟨a, ns, rfl, _⟩ := h
    rfl
  obtain ⟨a, ns, rfl, hS, hl, q⟩ := h
  refine ⟨_, (pss_cons (ps_for PassesOwn.never rfl (pi_range1 (by rfl) T.range (pa_cons (pe_callB (call_max2 rfl) (by rfl) C.max (by decide +kernel) (pa_cons pe_int (pa_cons (pe_callB (call_min2 rfl) (by rfl) C.min (by decide +kernel) (pa_cons pe_int (pa_cons (pe_callB call_len_seq (by rfl) T.len PySem.boot_len (pa_cons (pv 0) pa_nil)) pa_nil))) pa_nil))) pa_nil)) (pg_name (i := 1) sc_law.nd rfl (Or.inl rfl))
(pss_cons (ps_set (i := 2) sc_law.nd rfl (Or.inr rfl) (pe_call CP.ok (hr.mono (by decide)) rfl CP.mg CP.kp CP.b .nil pass0 (pa_cons (pv 0) (pa_cons (pv 1) pa_nil))))
(pss_one (ps_if (pt_not (pt_val (pe_callB (cr_all rfl) (by rfl) C.all (by decide +kernel) (pa_cons (pe_lc (own := [("_law_turn", 3)]) (g := gName 3) rfl sc_law.nd (pi_range1 (by rfl) T.range (pa_cons pe_int pa_nil)) (blkOk_by (N := sc_lawN) (sc := defScope s_law) (by decide +kernel)) (fun _ _ _ _ _ => pg_name (i := 3) sc_law.nd rfl (Or.inl rfl)) (fun _ _ _ _ _ => pts_nil) (fun _ _ _ _ _ => (pe_callG OR hgu hr rfl mR kR bR (pa_cons (pv 2) pa_nil)))) pa_nil))))
(pss_one (ps_ret pe_bl))
pss_nil))))
(pss_one (ps_ret pe_bl))), ?_⟩
  have hlen : (ns.map V.int).length = ns.length := List.length_map _
  refine ⟨.ref a, rfl, a, _, rfl, .inl hS, 3, _, rfl, 1, _, rfl, ?_⟩
  generalize hm : (if (if ((ns.map V.int).length : Int) < 3 then ((ns.map V.int).length : Int) else 3) > 1 then (if ((ns.map V.int).length : Int) < 3 then ((ns.map V.int).length : Int) else 3) else 1) = m
  have m0 : 0 ≤ m ∧ m ≤ 3 := by
    rw [← hm]
    split <;> split <;> omega
  refine ⟨m, rfl, by omega, by omega, for_range (lo := 0) (n := m.toNat) (fun i σ H' => ∃ (x1 x2 : Option V), σ = [some (.ref a), x1, x2, none] ∧ SqL K H' a (ns.map V.int)) ?_ ?_ ?_⟩
  · exact ⟨none, none, rfl, hS⟩
  · rintro i σ H1 hi ⟨x1, x2, rfl, hS1⟩
    refine ⟨.ref a, rfl, _, rfl, a, ns, i, (by show [V.ref a, V.int (0 + (i : Int))] = _; rw [Int.zero_add]), hS1, by omega, fun p H2 hp0 s2 hp => ?_⟩
    refine ⟨8, rfl, by decide, by decide, fun D hD => lc_range (lo := 0) (n := 8) (fun j H' => H' D = some (.lst ((List.replicate j true).map V.bl)) ∧ Pot H' p (300 * j) ∧ Same H1 H') ?_ ?_ ?_⟩
    · exact ⟨upd_same, hp.same (same_new hD _), Same.trans s2 (same_new hD _)⟩
    · rintro j H3 hj ⟨h1, h2, h3⟩
      have nDp : D ≠ p := hp.ne hD
      refine ⟨rfl, ?_⟩
      simp only [tYes, ↓reduceIte]
      refine ⟨.ref p, rfl, p, 300 * j, rfl, h2, by omega, fun H4 h5 h6 => ?_⟩
      have D4 := h6 _ _ h1 nDp
      refine ⟨_, D4, ?_, ?_, ?_, ?_⟩
      · rw [List.length_map, List.length_replicate]
        exact Nat.lt_of_lt_of_le (by omega : j < 1000) (small (Nat.le_refl _))
      · rw [upd_same, List.replicate_succ', List.map_append]
        rfl
      · exact (h5.upd nDp _).more (by omega)
      · intro b o h
        have hbp : b ≠ p := ne_of_none h hp0
        have hbD : b ≠ D := ne_of_none (s2 _ _ h) hD
        rw [upd_ne hbD]
        exact h6 _ _ (h3 _ _ h) hbp
    · rintro H3 ⟨h1, h2, h3⟩
      refine ⟨D, List.replicate 8 true, rfl, .inl (.inl h1), ?_⟩
      refine ⟨true, rfl, iteF ?_⟩
      exact ⟨_, _, rfl, same_sqL h3 hS1⟩
  · rintro σ H1 ⟨x1, x2, rfl, hS1⟩
    exact q H1
end
end Fk
set_option Elab.async false
set_option linter.all false
set_option maxRecDepth 100000
set_option maxHeartbeats 4000000
namespace Fk
open PySem L2
/-! ### what the top has written -/
theorem all_mk {l : PySem.W.OpenLaw} {w : World} {K : PySem.W.Frag} {h : Heap} {mg : Str → Option Value} {fa : Addr} (X : K.In h) (G : h.Ns mainGlobals mg) (hfa : mg "law" = some (.ref fa))
    {CU f_iol f_let f_out f_are f_word f_pot f_take f_of f_trace f_traces f_drawn f_form f_begun f_due f_bentt f_bent f_told f_right f_law f_ini f_nw f_tk f_ie f_fp f_np : Addr}
    {od_iol an_iol od_let an_let od_out an_out od_are an_are od_word an_word od_pot an_pot od_take an_take od_of an_of od_trace an_trace od_traces an_traces od_drawn an_drawn od_form an_form od_begun an_begun od_due an_due od_bentt an_bentt od_bent an_bent od_told an_told od_right an_right od_law an_law od_ini an_ini od_nw an_nw od_tk an_tk od_ie an_ie od_fp an_fp od_np an_np : Option Addr}
    {sl_iol sl_let sl_out sl_are sl_word sl_pot sl_take sl_of sl_trace sl_traces sl_drawn sl_form sl_begun sl_due sl_bentt sl_bent sl_told sl_right sl_law sl_ini sl_nw sl_tk sl_ie sl_fp sl_np : Array (Option Value)}
    {oc_iol kV_iol dc_iol pm_iol cd_iol ct_iol oc_let kV_let dc_let pm_let cd_let ct_let oc_out kV_out dc_out pm_out cd_out ct_out oc_are kV_are dc_are pm_are cd_are ct_are oc_word kV_word dc_word pm_word cd_word ct_word oc_pot kV_pot dc_pot pm_pot cd_pot ct_pot oc_take kV_take dc_take pm_take cd_take ct_take oc_of kV_of dc_of pm_of cd_of ct_of oc_trace kV_trace dc_trace pm_trace cd_trace ct_trace oc_traces kV_traces dc_traces pm_traces cd_traces ct_traces oc_drawn kV_drawn dc_drawn pm_drawn cd_drawn ct_drawn oc_form kV_form dc_form pm_form cd_form ct_form oc_begun kV_begun dc_begun pm_begun cd_begun ct_begun oc_due kV_due dc_due pm_due cd_due ct_due oc_bentt kV_bentt dc_bentt pm_bentt cd_bentt ct_bentt oc_bent kV_bent dc_bent pm_bent cd_bent ct_bent oc_told kV_told dc_told pm_told cd_told ct_told oc_right kV_right dc_right pm_right cd_right ct_right oc_law kV_law dc_law pm_law cd_law ct_law oc_ini kV_ini dc_ini pm_ini cd_ini ct_ini oc_nw kV_nw dc_nw pm_nw cd_nw ct_nw oc_tk kV_tk dc_tk pm_tk cd_tk ct_tk oc_ie kV_ie dc_ie pm_ie cd_ie ct_ie oc_fp kV_fp dc_fp pm_fp cd_fp ct_fp oc_np kV_np dc_np pm_np cd_np ct_np : Value}
    {t1 : Tok}
    (a_CU : PySem.W.nsIn K mainGlobals "Unread" = some (some (.ref CU)))
    (pg_CU : PySem.W.plainGet K CU Str.empty = true)
    (hd_CU : PySem.W.hasDictIn K CU = true)
    (po_CU : PySem.W.plainOver K CU = true)
    (sa_CU : PySem.W.findIn K (.ref CU) "__setattr__" = some (some (.builtin "object.__setattr__")))
    (mk_CU : PySem.W.makesIn K CU = true)
    (kc_CU : PySem.W.keepIn K (.ref CU) = true)
    (n_CU_traces : PySem.W.findIn K (.ref CU) "traces" = some none)
    (n_CU_read : PySem.W.findIn K (.ref CU) "read" = some none)
    (a_iol : PySem.W.nsIn K mainGlobals "is_of_letters" = some (some (.ref f_iol)))
    (l_iol : K.lookup f_iol = some ⟨oc_iol, od_iol, .func (PySem.W.fnOf "is_of_letters" "is_of_letters" (defArgs s_is_of_letters) (defBody s_is_of_letters) (defScope s_is_of_letters) .none kV_iol dc_iol pm_iol an_iol cd_iol ct_iol), sl_iol⟩)
    (c_iol : PySem.W.codeIn K cd_iol "is_of_letters" = true)
    (k_iol : PySem.W.keepIn K (.ref f_iol) = true)
    (a_let : PySem.W.nsIn K mainGlobals "is_letter" = some (some (.ref f_let)))
    (l_let : K.lookup f_let = some ⟨oc_let, od_let, .func (PySem.W.fnOf "is_letter" "is_letter" (defArgs s_is_letter) (defBody s_is_letter) (defScope s_is_letter) .none kV_let dc_let pm_let an_let cd_let ct_let), sl_let⟩)
    (c_let : PySem.W.codeIn K cd_let "is_letter" = true)
    (k_let : PySem.W.keepIn K (.ref f_let) = true)
    (a_out : PySem.W.nsIn K mainGlobals "output_of" = some (some (.ref f_out)))
    (l_out : K.lookup f_out = some ⟨oc_out, od_out, .func (PySem.W.fnOf "output_of" "output_of" (defArgs s_output_of) (defBody s_output_of) (defScope s_output_of) .none kV_out dc_out pm_out an_out cd_out ct_out), sl_out⟩)
    (c_out : PySem.W.codeIn K cd_out "output_of" = true)
    (k_out : PySem.W.keepIn K (.ref f_out) = true)
    (a_are : PySem.W.nsIn K mainGlobals "are_traces" = some (some (.ref f_are)))
    (l_are : K.lookup f_are = some ⟨oc_are, od_are, .func (PySem.W.fnOf "are_traces" "are_traces" (defArgs s_are_traces) (defBody s_are_traces) (defScope s_are_traces) .none kV_are dc_are pm_are an_are cd_are ct_are), sl_are⟩)
    (c_are : PySem.W.codeIn K cd_are "are_traces" = true)
    (k_are : PySem.W.keepIn K (.ref f_are) = true)
    (a_word : PySem.W.nsIn K mainGlobals "is_trace_word" = some (some (.ref f_word)))
    (l_word : K.lookup f_word = some ⟨oc_word, od_word, .func (PySem.W.fnOf "is_trace_word" "is_trace_word" (defArgs s_is_trace_word) (defBody s_is_trace_word) (defScope s_is_trace_word) .none kV_word dc_word pm_word an_word cd_word ct_word), sl_word⟩)
    (c_word : PySem.W.codeIn K cd_word "is_trace_word" = true)
    (k_word : PySem.W.keepIn K (.ref f_word) = true)
    (a_pot : PySem.W.nsIn K mainGlobals "_law_pot_of" = some (some (.ref f_pot)))
    (l_pot : K.lookup f_pot = some ⟨oc_pot, od_pot, .func (PySem.W.fnOf "_law_pot_of" "_law_pot_of" (defArgs s__law_pot_of) (defBody s__law_pot_of) (defScope s__law_pot_of) .none kV_pot dc_pot pm_pot an_pot cd_pot ct_pot), sl_pot⟩)
    (c_pot : PySem.W.codeIn K cd_pot "_law_pot_of" = true)
    (k_pot : PySem.W.keepIn K (.ref f_pot) = true)
    (a_take : PySem.W.nsIn K mainGlobals "_law_take" = some (some (.ref f_take)))
    (l_take : K.lookup f_take = some ⟨oc_take, od_take, .func (PySem.W.fnOf "_law_take" "_law_take" (defArgs s__law_take) (defBody s__law_take) (defScope s__law_take) .none kV_take dc_take pm_take an_take cd_take ct_take), sl_take⟩)
    (c_take : PySem.W.codeIn K cd_take "_law_take" = true)
    (k_take : PySem.W.keepIn K (.ref f_take) = true)
    (a_of : PySem.W.nsIn K mainGlobals "_law_of" = some (some (.ref f_of)))
    (l_of : K.lookup f_of = some ⟨oc_of, od_of, .func (PySem.W.fnOf "_law_of" "_law_of" (defArgs s__law_of) (defBody s__law_of) (defScope s__law_of) .none kV_of dc_of pm_of an_of cd_of ct_of), sl_of⟩)
    (c_of : PySem.W.codeIn K cd_of "_law_of" = true)
    (k_of : PySem.W.keepIn K (.ref f_of) = true)
    (a_trace : PySem.W.nsIn K mainGlobals "_law_trace" = some (some (.ref f_trace)))
    (l_trace : K.lookup f_trace = some ⟨oc_trace, od_trace, .func (PySem.W.fnOf "_law_trace" "_law_trace" (defArgs s__law_trace) (defBody s__law_trace) (defScope s__law_trace) .none kV_trace dc_trace pm_trace an_trace cd_trace ct_trace), sl_trace⟩)
    (c_trace : PySem.W.codeIn K cd_trace "_law_trace" = true)
    (k_trace : PySem.W.keepIn K (.ref f_trace) = true)
    (a_traces : PySem.W.nsIn K mainGlobals "_law_traces" = some (some (.ref f_traces)))
    (l_traces : K.lookup f_traces = some ⟨oc_traces, od_traces, .func (PySem.W.fnOf "_law_traces" "_law_traces" (defArgs s__law_traces) (defBody s__law_traces) (defScope s__law_traces) .none kV_traces dc_traces pm_traces an_traces cd_traces ct_traces), sl_traces⟩)
    (c_traces : PySem.W.codeIn K cd_traces "_law_traces" = true)
    (k_traces : PySem.W.keepIn K (.ref f_traces) = true)
    (a_drawn : PySem.W.nsIn K mainGlobals "_law_drawn_output" = some (some (.ref f_drawn)))
    (l_drawn : K.lookup f_drawn = some ⟨oc_drawn, od_drawn, .func (PySem.W.fnOf "_law_drawn_output" "_law_drawn_output" (defArgs s__law_drawn_output) (defBody s__law_drawn_output) (defScope s__law_drawn_output) .none kV_drawn dc_drawn pm_drawn an_drawn cd_drawn ct_drawn), sl_drawn⟩)
    (c_drawn : PySem.W.codeIn K cd_drawn "_law_drawn_output" = true)
    (k_drawn : PySem.W.keepIn K (.ref f_drawn) = true)
    (a_form : PySem.W.nsIn K mainGlobals "_law_is_form" = some (some (.ref f_form)))
    (l_form : K.lookup f_form = some ⟨oc_form, od_form, .func (PySem.W.fnOf "_law_is_form" "_law_is_form" (defArgs s__law_is_form) (defBody s__law_is_form) (defScope s__law_is_form) .none kV_form dc_form pm_form an_form cd_form ct_form), sl_form⟩)
    (c_form : PySem.W.codeIn K cd_form "_law_is_form" = true)
    (k_form : PySem.W.keepIn K (.ref f_form) = true)
    (a_begun : PySem.W.nsIn K mainGlobals "_law_is_begun" = some (some (.ref f_begun)))
    (l_begun : K.lookup f_begun = some ⟨oc_begun, od_begun, .func (PySem.W.fnOf "_law_is_begun" "_law_is_begun" (defArgs s__law_is_begun) (defBody s__law_is_begun) (defScope s__law_is_begun) .none kV_begun dc_begun pm_begun an_begun cd_begun ct_begun), sl_begun⟩)
    (c_begun : PySem.W.codeIn K cd_begun "_law_is_begun" = true)
    (k_begun : PySem.W.keepIn K (.ref f_begun) = true)
    (a_due : PySem.W.nsIn K mainGlobals "_law_due" = some (some (.ref f_due)))
    (l_due : K.lookup f_due = some ⟨oc_due, od_due, .func (PySem.W.fnOf "_law_due" "_law_due" (defArgs s__law_due) (defBody s__law_due) (defScope s__law_due) .none kV_due dc_due pm_due an_due cd_due ct_due), sl_due⟩)
    (c_due : PySem.W.codeIn K cd_due "_law_due" = true)
    (k_due : PySem.W.keepIn K (.ref f_due) = true)
    (a_bentt : PySem.W.nsIn K mainGlobals "_law_bent_trace" = some (some (.ref f_bentt)))
    (l_bentt : K.lookup f_bentt = some ⟨oc_bentt, od_bentt, .func (PySem.W.fnOf "_law_bent_trace" "_law_bent_trace" (defArgs s__law_bent_trace) (defBody s__law_bent_trace) (defScope s__law_bent_trace) .none kV_bentt dc_bentt pm_bentt an_bentt cd_bentt ct_bentt), sl_bentt⟩)
    (c_bentt : PySem.W.codeIn K cd_bentt "_law_bent_trace" = true)
    (k_bentt : PySem.W.keepIn K (.ref f_bentt) = true)
    (a_bent : PySem.W.nsIn K mainGlobals "_law_bent" = some (some (.ref f_bent)))
    (l_bent : K.lookup f_bent = some ⟨oc_bent, od_bent, .func (PySem.W.fnOf "_law_bent" "_law_bent" (defArgs s__law_bent) (defBody s__law_bent) (defScope s__law_bent) .none kV_bent dc_bent pm_bent an_bent cd_bent ct_bent), sl_bent⟩)
    (c_bent : PySem.W.codeIn K cd_bent "_law_bent" = true)
    (k_bent : PySem.W.keepIn K (.ref f_bent) = true)
    (a_told : PySem.W.nsIn K mainGlobals "_law_is_told" = some (some (.ref f_told)))
    (l_told : K.lookup f_told = some ⟨oc_told, od_told, .func (PySem.W.fnOf "_law_is_told" "_law_is_told" (defArgs s__law_is_told) (defBody s__law_is_told) (defScope s__law_is_told) .none kV_told dc_told pm_told an_told cd_told ct_told), sl_told⟩)
    (c_told : PySem.W.codeIn K cd_told "_law_is_told" = true)
    (k_told : PySem.W.keepIn K (.ref f_told) = true)
    (a_right : PySem.W.nsIn K mainGlobals "_law_right" = some (some (.ref f_right)))
    (l_right : K.lookup f_right = some ⟨oc_right, od_right, .func (PySem.W.fnOf "_law_right" "_law_right" (defArgs s__law_right) (defBody s__law_right) (defScope s__law_right) .none kV_right dc_right pm_right an_right cd_right ct_right), sl_right⟩)
    (c_right : PySem.W.codeIn K cd_right "_law_right" = true)
    (k_right : PySem.W.keepIn K (.ref f_right) = true)
    (a_law : PySem.W.nsIn K mainGlobals "law" = some (some (.ref f_law)))
    (l_law : K.lookup f_law = some ⟨oc_law, od_law, .func (PySem.W.fnOf "law" "law" (defArgs s_law) (defBody s_law) (defScope s_law) .none kV_law dc_law pm_law an_law cd_law ct_law), sl_law⟩)
    (c_law : PySem.W.codeIn K cd_law "law" = true)
    (k_law : PySem.W.keepIn K (.ref f_law) = true)
    (a_ini : PySem.W.findIn K (.ref CU) "__init__" = some (some (.ref f_ini)))
    (i_ini : PySem.W.isFn K (.ref f_ini) = true)
    (l_ini : K.lookup f_ini = some ⟨oc_ini, od_ini, .func (PySem.W.fnOf "__init__" "Unread.__init__" (defArgs s_U_init) (defBody s_U_init) (defScope s_U_init) .none kV_ini dc_ini pm_ini an_ini cd_ini ct_ini), sl_ini⟩)
    (c_ini : PySem.W.codeIn K cd_ini "Unread.__init__" = true)
    (k_ini : PySem.W.keepIn K (.ref f_ini) = true)
    (a_nw : PySem.W.findIn K (.ref CU) "next_word" = some (some (.ref f_nw)))
    (i_nw : PySem.W.isFn K (.ref f_nw) = true)
    (l_nw : K.lookup f_nw = some ⟨oc_nw, od_nw, .func (PySem.W.fnOf "next_word" "Unread.next_word" (defArgs s_U_word) (defBody s_U_word) (defScope s_U_word) .none kV_nw dc_nw pm_nw an_nw cd_nw ct_nw), sl_nw⟩)
    (c_nw : PySem.W.codeIn K cd_nw "Unread.next_word" = true)
    (k_nw : PySem.W.keepIn K (.ref f_nw) = true)
    (a_tk : PySem.W.findIn K (.ref CU) "take" = some (some (.ref f_tk)))
    (i_tk : PySem.W.isFn K (.ref f_tk) = true)
    (l_tk : K.lookup f_tk = some ⟨oc_tk, od_tk, .func (PySem.W.fnOf "take" "Unread.take" (defArgs s_U_take) (defBody s_U_take) (defScope s_U_take) .none kV_tk dc_tk pm_tk an_tk cd_tk ct_tk), sl_tk⟩)
    (c_tk : PySem.W.codeIn K cd_tk "Unread.take" = true)
    (k_tk : PySem.W.keepIn K (.ref f_tk) = true)
    (a_ie : PySem.W.findIn K (.ref CU) "is_empty" = some (some (.ref f_ie)))
    (i_ie : PySem.W.isFn K (.ref f_ie) = true)
    (l_ie : K.lookup f_ie = some ⟨oc_ie, od_ie, .func (PySem.W.fnOf "is_empty" "Unread.is_empty" (defArgs s_U_empty) (defBody s_U_empty) (defScope s_U_empty) .none kV_ie dc_ie pm_ie an_ie cd_ie ct_ie), sl_ie⟩)
    (c_ie : PySem.W.codeIn K cd_ie "Unread.is_empty" = true)
    (k_ie : PySem.W.keepIn K (.ref f_ie) = true)
    (a_fp : PySem.W.findIn K (.ref CU) "first_position" = some (some (.ref f_fp)))
    (i_fp : PySem.W.isFn K (.ref f_fp) = true)
    (l_fp : K.lookup f_fp = some ⟨oc_fp, od_fp, .func (PySem.W.fnOf "first_position" "Unread.first_position" (defArgs s_U_first) (defBody s_U_first) (defScope s_U_first) .none kV_fp dc_fp pm_fp an_fp cd_fp ct_fp), sl_fp⟩)
    (c_fp : PySem.W.codeIn K cd_fp "Unread.first_position" = true)
    (k_fp : PySem.W.keepIn K (.ref f_fp) = true)
    (a_np : PySem.W.findIn K (.ref CU) "next_position" = some (some (.ref f_np)))
    (i_np : PySem.W.isFn K (.ref f_np) = true)
    (l_np : K.lookup f_np = some ⟨oc_np, od_np, .func (PySem.W.fnOf "next_position" "Unread.next_position" (defArgs s_U_next) (defBody s_U_next) (defScope s_U_next) .none kV_np dc_np pm_np an_np cd_np ct_np), sl_np⟩)
    (c_np : PySem.W.codeIn K cd_np "Unread.next_position" = true)
    (k_np : PySem.W.keepIn K (.ref f_np) = true)
    (z_len : PySem.W.nsIn K mainGlobals "len" = some none)
    (z_int : PySem.W.nsIn K mainGlobals "int" = some none)
    (z_abs : PySem.W.nsIn K mainGlobals "abs" = some none)
    (z_str : PySem.W.nsIn K mainGlobals "str" = some none)
    (z_list : PySem.W.nsIn K mainGlobals "list" = some none)
    (z_tuple : PySem.W.nsIn K mainGlobals "tuple" = some none)
    (z_range : PySem.W.nsIn K mainGlobals "range" = some none)
    (z_isinstance : PySem.W.nsIn K mainGlobals "isinstance" = some none)
    (z_all : PySem.W.nsIn K mainGlobals "all" = some none)
    (z_sum : PySem.W.nsIn K mainGlobals "sum" = some none)
    (z_repr : PySem.W.nsIn K mainGlobals "repr" = some none)
    (z_max : PySem.W.nsIn K mainGlobals "max" = some none)
    (z_min : PySem.W.nsIn K mainGlobals "min" = some none)
    (z_enumerate : PySem.W.nsIn K mainGlobals "enumerate" = some none)
    (z_zip : PySem.W.nsIn K mainGlobals "zip" = some none)
    (v_ALPHABET : PySem.W.nsIn K mainGlobals "ALPHABET" = some (some (.str alpha t1))) :
    ∃ fd : FuncData, (∀ (s : Shared) (v : Value), BindsTo s fd ⟨[v], []⟩ [("_law_script", v)]) ∧ ∀ base : Heap, K.In base → base.Ns mainGlobals mg → FnOkG l.prog w K mg base 7 fa fd ["_law_script"] (spLaw K) := by
  have e := hfa.symm.trans (PySem.W.mg_of X G a_law)
  cases e
  have F_iol := fun_mk (st := s_is_of_letters) l_iol c_iol k_iol
  have b_iol := F_iol.binds (ps := ["word"]) fun _ _ _ _ _ _ us hl => match us, hl with | [_], _ => rfl
  have m_iol := PySem.W.mg_of X G a_iol
  have F_let := fun_mk (st := s_is_letter) l_let c_let k_let
  have b_let := F_let.binds (ps := ["word"]) fun _ _ _ _ _ _ us hl => match us, hl with | [_], _ => rfl
  have m_let := PySem.W.mg_of X G a_let
  have F_out := fun_mk (st := s_output_of) l_out c_out k_out
  have b_out := F_out.binds (ps := ["traces"]) fun _ _ _ _ _ _ us hl => match us, hl with | [_], _ => rfl
  have m_out := PySem.W.mg_of X G a_out
  have F_are := fun_mk (st := s_are_traces) l_are c_are k_are
  have b_are := F_are.binds (ps := ["value"]) fun _ _ _ _ _ _ us hl => match us, hl with | [_], _ => rfl
  have m_are := PySem.W.mg_of X G a_are
  have F_word := fun_mk (st := s_is_trace_word) l_word c_word k_word
  have b_word := F_word.binds (ps := ["word"]) fun _ _ _ _ _ _ us hl => match us, hl with | [_], _ => rfl
  have m_word := PySem.W.mg_of X G a_word
  have F_pot := fun_mk (st := s__law_pot_of) l_pot c_pot k_pot
  have b_pot := F_pot.binds (ps := ["_law_script", "_law_k"]) fun _ _ _ _ _ _ us hl => match us, hl with | [_, _], _ => rfl
  have m_pot := PySem.W.mg_of X G a_pot
  have F_take := fun_mk (st := s__law_take) l_take c_take k_take
  have b_take := F_take.binds (ps := ["_law_pot", "_law_upto"]) fun _ _ _ _ _ _ us hl => match us, hl with | [_, _], _ => rfl
  have m_take := PySem.W.mg_of X G a_take
  have F_of := fun_mk (st := s__law_of) l_of c_of k_of
  have b_of := F_of.binds (ps := ["_law_pot", "_law_some"]) fun _ _ _ _ _ _ us hl => match us, hl with | [_, _], _ => rfl
  have m_of := PySem.W.mg_of X G a_of
  have F_trace := fun_mk (st := s__law_trace) l_trace c_trace k_trace
  have b_trace := F_trace.binds (ps := ["_law_output", "_law_at"]) fun _ _ _ _ _ _ us hl => match us, hl with | [_, _], _ => rfl
  have m_trace := PySem.W.mg_of X G a_trace
  have F_traces := fun_mk (st := s__law_traces) l_traces c_traces k_traces
  have b_traces := F_traces.binds (ps := ["_law_output", "_law_many"]) fun _ _ _ _ _ _ us hl => match us, hl with | [_, _], _ => rfl
  have m_traces := PySem.W.mg_of X G a_traces
  have F_drawn := fun_mk (st := s__law_drawn_output) l_drawn c_drawn k_drawn
  have b_drawn := F_drawn.binds (ps := ["_law_pot", "_law_many"]) fun _ _ _ _ _ _ us hl => match us, hl with | [_, _], _ => rfl
  have m_drawn := PySem.W.mg_of X G a_drawn
  have F_form := fun_mk (st := s__law_is_form) l_form c_form k_form
  have b_form := F_form.binds (ps := ["_law_value"]) fun _ _ _ _ _ _ us hl => match us, hl with | [_], _ => rfl
  have m_form := PySem.W.mg_of X G a_form
  have F_begun := fun_mk (st := s__law_is_begun) l_begun c_begun k_begun
  have b_begun := F_begun.binds (ps := ["_law_output", "_law_value"]) fun _ _ _ _ _ _ us hl => match us, hl with | [_, _], _ => rfl
  have m_begun := PySem.W.mg_of X G a_begun
  have F_due := fun_mk (st := s__law_due) l_due c_due k_due
  have b_due := F_due.binds (ps := ["_law_value"]) fun _ _ _ _ _ _ us hl => match us, hl with | [_], _ => rfl
  have m_due := PySem.W.mg_of X G a_due
  have F_bentt := fun_mk (st := s__law_bent_trace) l_bentt c_bentt k_bentt
  have b_bentt := F_bentt.binds (ps := ["_law_pot", "_law_trace_here"]) fun _ _ _ _ _ _ us hl => match us, hl with | [_, _], _ => rfl
  have m_bentt := PySem.W.mg_of X G a_bentt
  have F_bent := fun_mk (st := s__law_bent) l_bent c_bent k_bent
  have b_bent := F_bent.binds (ps := ["_law_pot", "_law_value"]) fun _ _ _ _ _ _ us hl => match us, hl with | [_, _], _ => rfl
  have m_bent := PySem.W.mg_of X G a_bent
  have F_told := fun_mk (st := s__law_is_told) l_told c_told k_told
  have b_told := F_told.binds (ps := ["_law_value"]) fun _ _ _ _ _ _ us hl => match us, hl with | [_], _ => rfl
  have m_told := PySem.W.mg_of X G a_told
  have F_right := fun_mk (st := s__law_right) l_right c_right k_right
  have b_right := F_right.binds (ps := ["_law_pot"]) fun _ _ _ _ _ _ us hl => match us, hl with | [_], _ => rfl
  have m_right := PySem.W.mg_of X G a_right
  have F_law := fun_mk (st := s_law) l_law c_law k_law
  have b_law := F_law.binds (ps := ["_law_script"]) fun _ _ _ _ _ _ us hl => match us, hl with | [_], _ => rfl
  have m_law := PySem.W.mg_of X G a_law
  have F_ini := fun_mk (st := s_U_init) l_ini c_ini k_ini
  have b_ini := F_ini.binds (ps := ["self", "traces"]) fun _ _ _ _ _ _ us hl => match us, hl with | [_, _], _ => rfl
  have m_ini : Meth K CU "__init__" f_ini := ⟨a_ini, i_ini, k_ini⟩
  have F_nw := fun_mk (st := s_U_word) l_nw c_nw k_nw
  have b_nw := F_nw.binds (ps := ["self", "position"]) fun _ _ _ _ _ _ us hl => match us, hl with | [_, _], _ => rfl
  have m_nw : Meth K CU "next_word" f_nw := ⟨a_nw, i_nw, k_nw⟩
  have F_tk := fun_mk (st := s_U_take) l_tk c_tk k_tk
  have b_tk := F_tk.binds (ps := ["self", "position"]) fun _ _ _ _ _ _ us hl => match us, hl with | [_, _], _ => rfl
  have m_tk : Meth K CU "take" f_tk := ⟨a_tk, i_tk, k_tk⟩
  have F_ie := fun_mk (st := s_U_empty) l_ie c_ie k_ie
  have b_ie := F_ie.binds (ps := ["self"]) fun _ _ _ _ _ _ us hl => match us, hl with | [_], _ => rfl
  have m_ie : Meth K CU "is_empty" f_ie := ⟨a_ie, i_ie, k_ie⟩
  have F_fp := fun_mk (st := s_U_first) l_fp c_fp k_fp
  have b_fp := F_fp.binds (ps := ["self"]) fun _ _ _ _ _ _ us hl => match us, hl with | [_], _ => rfl
  have m_fp : Meth K CU "first_position" f_fp := ⟨a_fp, i_fp, k_fp⟩
  have F_np := fun_mk (st := s_U_next) l_np c_np k_np
  have b_np := F_np.binds (ps := ["self", "position"]) fun _ _ _ _ _ _ us hl => match us, hl with | [_, _], _ => rfl
  have m_np : Meth K CU "next_position" f_np := ⟨a_np, i_np, k_np⟩
  have T_CU : UTxt K CU := ⟨⟨pg_CU, hd_CU, po_CU, sa_CU⟩, n_CU_traces, n_CU_read⟩
  have g_CU := PySem.W.mg_of X G a_CU
  have y_len := PySem.W.mg_none_of X G z_len
  have y_int := PySem.W.mg_none_of X G z_int
  have y_abs := PySem.W.mg_none_of X G z_abs
  have y_str := PySem.W.mg_none_of X G z_str
  have y_list := PySem.W.mg_none_of X G z_list
  have y_tuple := PySem.W.mg_none_of X G z_tuple
  have y_range := PySem.W.mg_none_of X G z_range
  have y_isinstance := PySem.W.mg_none_of X G z_isinstance
  have y_all := PySem.W.mg_none_of X G z_all
  have y_sum := PySem.W.mg_none_of X G z_sum
  have y_repr := PySem.W.mg_none_of X G z_repr
  have y_max := PySem.W.mg_none_of X G z_max
  have y_min := PySem.W.mg_none_of X G z_min
  have y_enumerate := PySem.W.mg_none_of X G z_enumerate
  have y_zip := PySem.W.mg_none_of X G z_zip
  have kb := Fun.kbinds (p := "traces") F_out fun _ _ _ _ _ _ _ => ⟨rfl, rfl⟩
  have T : Bare mg := ⟨y_len, y_int, y_abs, y_str, y_list, y_tuple, y_range⟩
  have C : Con K mg := ⟨⟨_, PySem.W.mg_of X G v_ALPHABET⟩, y_isinstance, y_all, y_sum, y_repr, y_max, y_min, y_enumerate, y_zip⟩
  refine ⟨PySem.W.fnOf "law" "law" (defArgs s_law) (defBody s_law) (defScope s_law) .none kV_law dc_law pm_law an_law cd_law ct_law, fun s v => .of_eq rfl, fun base _ _ => ?_⟩
  have CT : Callee l.prog w K mg base 1 "_law_take" ["_law_pot", "_law_upto"] spTake := ⟨f_take, _, ok_take F_take T, m_take, k_take, b_take⟩
  have CO : Callee l.prog w K mg base 2 "_law_of" ["_law_pot", "_law_some"] (spOf K) := ⟨f_of, _, ok_of F_of T CT, m_of, k_of, b_of⟩
  have CPot : Callee l.prog w K mg base 1 "_law_pot_of" ["_law_script", "_law_k"] (spPotOf K) := ⟨f_pot, _, ok_pot_of F_pot T, m_pot, k_pot, b_pot⟩
  have CLo : Callee l.prog w K mg base 1 "is_of_letters" ["word"] (spLets K) := ⟨f_iol, _, ok_lets F_iol C, m_iol, k_iol, b_iol⟩
  have CLe : Callee l.prog w K mg base 1 "is_letter" ["word"] (spLetter K) := ⟨f_let, _, ok_letter F_let, m_let, k_let, b_let⟩
  have CWo : Callee l.prog w K mg base 2 "is_trace_word" ["word"] (spTest K wordOk) := ⟨f_word, _, ok_word F_word T C CLe CLo, m_word, k_word, b_word⟩
  have CA : Callee l.prog w K mg base 3 "are_traces" ["value"] (spTestW K formOk) := ⟨f_are, _, ok_are F_are T C CWo, m_are, k_are, b_are⟩
  have MW : Meter l.prog w K mg base CU 1 "next_word" ["self", "position"] (spWordU K CU) := ⟨f_nw, _, ok_wordU F_nw T T_CU, m_nw, b_nw⟩
  have MTk : Meter l.prog w K mg base CU 2 "take" ["self", "position"] (spTakeU K CU) := ⟨f_tk, _, ok_takeU F_tk T_CU MW, m_tk, b_tk⟩
  have ME : Meter l.prog w K mg base CU 1 "is_empty" ["self"] (spEmptyU K CU) := ⟨f_ie, _, ok_emptyU F_ie T T_CU, m_ie, b_ie⟩
  have MF : Meter l.prog w K mg base CU 2 "first_position" ["self"] (spFirstU K CU) := ⟨f_fp, _, ok_firstU F_fp T C T_CU MW, m_fp, b_fp⟩
  have MN : Meter l.prog w K mg base CU 3 "next_position" ["self", "position"] (spNextU K CU) := ⟨f_np, _, ok_nextU F_np T T_CU MW MTk, m_np, b_np⟩
  have MK : Maker l.prog w K mg base CU 1 "Unread" ["self", "traces"] (spInitU K CU) := ⟨f_ini, _, ok_initU F_ini T T_CU, ⟨mk_CU, a_ini, i_ini, kc_CU⟩, g_CU, b_ini⟩
  let CP : Callee l.prog w K mg base 4 "output_of" ["traces"] (spOutput K) := ⟨f_out, _, ok_output F_out T T_CU CA MK MF MN MTk ME, m_out, k_out, b_out⟩
  have CTra : Callee l.prog w K mg base 1 "_law_trace" ["_law_output", "_law_at"] (spTrace K) := ⟨f_trace, _, ok_trace F_trace T, m_trace, k_trace, b_trace⟩
  have CTr : Callee l.prog w K mg base 2 "_law_traces" ["_law_output", "_law_many"] (spTraces K) := ⟨f_traces, _, ok_traces F_traces T CTra, m_traces, k_traces, b_traces⟩
  have COut : Callee l.prog w K mg base 3 "_law_drawn_output" ["_law_pot", "_law_many"] (spOut K) := ⟨f_drawn, _, ok_out F_drawn T CT CO, m_drawn, k_drawn, b_drawn⟩
  have CF : Callee l.prog w K mg base 1 "_law_is_form" ["_law_value"] (spTestW K formOk) := ⟨f_form, _, ok_form F_form T C, m_form, k_form, b_form⟩
  have CB : Callee l.prog w K mg base 3 "_law_is_begun" ["_law_output", "_law_value"] (spBegun K) := ⟨f_begun, _, ok_begun F_begun T C CTr, m_begun, k_begun, b_begun⟩
  have CD : Callee l.prog w K mg base 4 "_law_due" ["_law_value"] (spOutput K) := ⟨f_due, _, ok_due F_due T C CF CTr CB, m_due, k_due, b_due⟩
  have CBt : Callee l.prog w K mg base 3 "_law_bent_trace" ["_law_pot", "_law_trace_here"] (spBend K (fun _ _ => True) 3) := ⟨f_bentt, _, ok_bentT F_bentt T CT CO, m_bentt, k_bentt, b_bentt⟩
  have CBe : Callee l.prog w K mg base 4 "_law_bent" ["_law_pot", "_law_value"] (spBend K (fun ds M => ds ≠ [] ∧ 2 ≤ M) 5) := ⟨f_bent, _, ok_bent F_bent T C CT CO CBt, m_bent, k_bent, b_bent⟩
  have OI := ok_told F_told C CD CP kb
  have OR := ok_right F_right T C CT CO CTr COut CP CBe OI m_told k_told b_told
  exact ok_law F_law T C CPot OR m_right k_right b_right
end Fk
open PySem PySem.W PyProof.Rows L2
set_option maxRecDepth 100000 in
set_option maxHeartbeats 0 in
theorem PySem.Challenge.cw_fewgoings_k14_outputs_of_other_traces_holds : PySem.Challenge.rw_fewgoings_k14_outputs_of_other_traces.Holds := by
  w_on; o_law; k_head; (case hw => w_witness2)
  k_fill
  refine Fk.walk_G (l := PySem.Challenge.rw_fewgoings_k14_outputs_of_other_traces) (n := 63) (k := 7) (x := "_law_script") (sp := Fk.spLaw) rfl (by decide) rfl ⟨rfl, by decide, by decide⟩ (fun w h Y => PySem.W.kIn_of Y) ?F (fun _ _ a ns hl _ hS => ⟨a, ns, rfl, hS, hl, fun _ => rfl⟩)
  case F =>
    intro w mg fa h KX G hmg
    refine' Fk.all_mk KX G hmg ?a_CU ?pg_CU ?hd_CU ?po_CU ?sa_CU ?mk_CU ?kc_CU ?n_CU_traces ?n_CU_read ?a_iol ?l_iol ?c_iol ?k_iol ?a_let ?l_let ?c_let ?k_let ?a_out ?l_out ?c_out ?k_out ?a_are ?l_are ?c_are ?k_are ?a_word ?l_word ?c_word ?k_word ?a_pot ?l_pot ?c_pot ?k_pot ?a_take ?l_take ?c_take ?k_take ?a_of ?l_of ?c_of ?k_of ?a_trace ?l_trace ?c_trace ?k_trace ?a_traces ?l_traces ?c_traces ?k_traces ?a_drawn ?l_drawn ?c_drawn ?k_drawn ?a_form ?l_form ?c_form ?k_form ?a_begun ?l_begun ?c_begun ?k_begun ?a_due ?l_due ?c_due ?k_due ?a_bentt ?l_bentt ?c_bentt ?k_bentt ?a_bent ?l_bent ?c_bent ?k_bent ?a_told ?l_told ?c_told ?k_told ?a_right ?l_right ?c_right ?k_right ?a_law ?l_law ?c_law ?k_law ?a_ini ?i_ini ?l_ini ?c_ini ?k_ini ?a_nw ?i_nw ?l_nw ?c_nw ?k_nw ?a_tk ?i_tk ?l_tk ?c_tk ?k_tk ?a_ie ?i_ie ?l_ie ?c_ie ?k_ie ?a_fp ?i_fp ?l_fp ?c_fp ?k_fp ?a_np ?i_np ?l_np ?c_np ?k_np ?z_len ?z_int ?z_abs ?z_str ?z_list ?z_tuple ?z_range ?z_isinstance ?z_all ?z_sum ?z_repr ?z_max ?z_min ?z_enumerate ?z_zip ?v_ALPHABET
    (case a_CU => k_is)
    (case pg_CU => k_is)
    (case hd_CU => k_is)
    (case po_CU => k_is)
    (case sa_CU => k_is)
    (case mk_CU => k_is)
    (case kc_CU => k_is)
    (case n_CU_traces => k_is)
    (case n_CU_read => k_is)
    (case a_iol => k_is)
    (case l_iol => k_is)
    (case c_iol => k_is)
    (case k_iol => k_is)
    (case a_let => k_is)
    (case l_let => k_is)
    (case c_let => k_is)
    (case k_let => k_is)
    (case a_out => k_is)
    (case l_out => k_is)
    (case c_out => k_is)
    (case k_out => k_is)
    (case a_are => k_is)
    (case l_are => k_is)
    (case c_are => k_is)
    (case k_are => k_is)
    (case a_word => k_is)
    (case l_word => k_is)
    (case c_word => k_is)
    (case k_word => k_is)
    (case a_pot => k_is)
    (case l_pot => k_is)
    (case c_pot => k_is)
    (case k_pot => k_is)
    (case a_take => k_is)
    (case l_take => k_is)
    (case c_take => k_is)
    (case k_take => k_is)
    (case a_of => k_is)
    (case l_of => k_is)
    (case c_of => k_is)
    (case k_of => k_is)
    (case a_trace => k_is)
    (case l_trace => k_is)
    (case c_trace => k_is)
    (case k_trace => k_is)
    (case a_traces => k_is)
    (case l_traces => k_is)
    (case c_traces => k_is)
    (case k_traces => k_is)
    (case a_drawn => k_is)
    (case l_drawn => k_is)
    (case c_drawn => k_is)
    (case k_drawn => k_is)
    (case a_form => k_is)
    (case l_form => k_is)
    (case c_form => k_is)
    (case k_form => k_is)
    (case a_begun => k_is)
    (case l_begun => k_is)
    (case c_begun => k_is)
    (case k_begun => k_is)
    (case a_due => k_is)
    (case l_due => k_is)
    (case c_due => k_is)
    (case k_due => k_is)
    (case a_bentt => k_is)
    (case l_bentt => k_is)
    (case c_bentt => k_is)
    (case k_bentt => k_is)
    (case a_bent => k_is)
    (case l_bent => k_is)
    (case c_bent => k_is)
    (case k_bent => k_is)
    (case a_told => k_is)
    (case l_told => k_is)
    (case c_told => k_is)
    (case k_told => k_is)
    (case a_right => k_is)
    (case l_right => k_is)
    (case c_right => k_is)
    (case k_right => k_is)
    (case a_law => k_is)
    (case l_law => k_is)
    (case c_law => k_is)
    (case k_law => k_is)
    (case a_ini => k_is)
    (case i_ini => k_is)
    (case l_ini => k_is)
    (case c_ini => k_is)
    (case k_ini => k_is)
    (case a_nw => k_is)
    (case i_nw => k_is)
    (case l_nw => k_is)
    (case c_nw => k_is)
    (case k_nw => k_is)
    (case a_tk => k_is)
    (case i_tk => k_is)
    (case l_tk => k_is)
    (case c_tk => k_is)
    (case k_tk => k_is)
    (case a_ie => k_is)
    (case i_ie => k_is)
    (case l_ie => k_is)
    (case c_ie => k_is)
    (case k_ie => k_is)
    (case a_fp => k_is)
    (case i_fp => k_is)
    (case l_fp => k_is)
    (case c_fp => k_is)
    (case k_fp => k_is)
    (case a_np => k_is)
    (case i_np => k_is)
    (case l_np => k_is)
    (case c_np => k_is)
    (case k_np => k_is)
    (case z_len => k_is)
    (case z_int => k_is)
    (case z_abs => k_is)
    (case z_str => k_is)
    (case z_list => k_is)
    (case z_tuple => k_is)
    (case z_range => k_is)
    (case z_isinstance => k_is)
    (case z_all => k_is)
    (case z_sum => k_is)
    (case z_repr => k_is)
    (case z_max => k_is)
    (case z_min => k_is)
    (case z_enumerate => k_is)
    (case z_zip => k_is)
    (case v_ALPHABET => k_is)
