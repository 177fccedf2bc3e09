import PyProof.Rows.All
import Wide.All
import OpenK.AllK
import Wide.FinOn
import HandS.ForMost
import HandS.IsInst
import HandS.TupAny
import HandS.TupMul
import PyProof.ReprRoads
import PyProof.ReprLen
import PyProof.StrLawsRepr
import PyProof.FitsInt
import HandS.ForExc
import HandS.ExcInit
import HandS.ExcIs
import HandS.ExcField
import HandS.ExcValue
import KE.KIsAll
import KE.KTryMore
import HandS.Walk
import PySem.Challenge.RW_fewgoings_k71_far_texts_and_what_are_non
set_option Elab.async false
set_option linter.all false
set_option maxRecDepth 100000
namespace Fr
open PySem L2
def top (i : Nat) : Stmt := PySem.Challenge.pw_fewgoings_k71_far_texts_and_what_are_non.main.body.getD i (.Pass ⟨0, 0, 0, 0⟩)
/-- a def of the text that stands ready to be called -/
structure Callee (P : Program) (w : World) (K : PySem.W.Frag) (mg : Str → Option Value) (base : Heap) (k : Nat) (x : Str) (ps : List Str) (sp : Sp) where
  f : Addr
  fd : FuncData
  ok : FnOk P w K mg base CX0 k f fd ps sp
  mg : mg x = some (.ref f)
  kp : PySem.W.keepIn K (.ref f) = true
  b : Binds K fd ps []
/-- the built-in names that are nobody's -/
structure Bare (mg : Str → Option Value) : Prop where
  len : mg "len" = none
  int : mg "int" = none
  abs : mg "abs" = none
  str : mg "str" = none
  list : mg "list" = none
  tuple : mg "tuple" = none
  range : mg "range" = none
theorem same_new {H : Hp} {p : Addr} (h : H p = none) (o : HO) : Same H (upd H p o) := fun b u q => by rw [upd_ne (ne_of_none q h)]; exact q
/-- all but what stands at p is as it was -/
def But (p : Addr) (H H' : Hp) : Prop := ∀ b o, H b = some o → b ≠ p → H' b = some o
theorem But.refl (p : Addr) (H : Hp) : But p H H := fun _ _ h _ => h
theorem But.trans {p : Addr} {H H1 H2 : Hp} (a : But p H H1) (b : But p H1 H2) : But p H H2 := fun c o h n => b c o (a c o h n) n
theorem But.of_same {p : Addr} {H H' : Hp} (s : Same H H') : But p H H' := fun b o h _ => s b o h
theorem But.upd {p : Addr} {H : Hp} {o : HO} : But p H (L2.upd H p o) := fun b u q n => by rw [upd_ne n]; exact q
theorem small {n : Nat} (h : n ≤ 1000) : n ≤ sizeLine := Nat.le_of_lt (small1000 h)
end Fr
set_option Elab.async false
set_option linter.all false
set_option maxRecDepth 100000
set_option maxHeartbeats 2000000
namespace Fr
open PySem PySem.Spec PyProof.Rows L2
/-! ### data of any kind: what a value is, all through -/
mutual
inductive Dv (K : PySem.W.Frag) (H : Hp) : V → PyData → Prop
  | non : Dv K H .non .none
  | bl (b : Bool) : Dv K H (.bl b) (.bool b)
  | int (i : Int) : Dv K H (.int i) (.int i)
  | str (x : Str) (h : x.length ≤ 1000000) : Dv K H (.str x) (.str x)
  | lst {a : Addr} {xs : List V} {ds : List PyData} (h : SqL K H a xs) (g : DvAll K H xs ds) : Dv K H (.ref a) (.list ds)
  | tup {a : Addr} {xs : List V} {ds : List PyData} (h : SqT K H a xs) (g : DvAll K H xs ds) : Dv K H (.ref a) (.tuple ds)
  | dct {a : Addr} (h : H a = some (.dK [])) : Dv K H (.ref a) (.dict [])
inductive DvAll (K : PySem.W.Frag) (H : Hp) : List V → List PyData → Prop
  | nil : DvAll K H [] []
  | cons {v : V} {vs : List V} {d : PyData} {ds : List PyData} (h : Dv K H v d) (g : DvAll K H vs ds) : DvAll K H (v :: vs) (d :: ds)
end
mutual
def noList : PyData → Bool
  | .list _ => false
  | .tuple xs => noListAll xs
  | .dict kvs => kvs.isEmpty
  | _ => true
def noListAll : List PyData → Bool
  | [] => true
  | x :: xs => noList x && noListAll xs
end
theorem same_sqL {K : PySem.W.Frag} {H H' : Hp} {a : Addr} {xs : List V} (s : Same H H') (h : SqL K H a xs) : SqL K H' a xs := by
  rcases h with (h | ⟨o, h⟩) | h
  · exact .inl (.inl (s _ _ h))
  · exact .inl (.inr ⟨o, s _ _ h⟩)
  · exact .inr h
theorem same_sqT {K : PySem.W.Frag} {H H' : Hp} {a : Addr} {xs : List V} (s : Same H H') (h : SqT K H a xs) : SqT K H' a xs := by
  rcases h with (h | ⟨o, h⟩) | h
  · exact .inl (.inl (s _ _ h))
  · exact .inl (.inr ⟨o, s _ _ h⟩)
  · exact .inr h
mutual
theorem Dv.same {K : PySem.W.Frag} {H H' : Hp} (s : Same H H') : ∀ {d : PyData} {v : V}, Dv K H v d → Dv K H' v d
  | _, _, .non => .non
  | _, _, .bl b => .bl b
  | _, _, .int i => .int i
  | _, _, .str x h => .str x h
  | _, _, .lst h g => .lst (same_sqL s h) (DvAll.same s g)
  | _, _, .tup h g => .tup (same_sqT s h) (DvAll.same s g)
  | _, _, .dct h => .dct (s _ _ h)
theorem DvAll.same {K : PySem.W.Frag} {H H' : Hp} (s : Same H H') : ∀ {ds : List PyData} {vs : List V}, DvAll K H vs ds → DvAll K H' vs ds
  | _, _, .nil => .nil
  | _, _, .cons h g => .cons (Dv.same s h) (DvAll.same s g)
end
theorem DvAll.len {K : PySem.W.Frag} {H : Hp} : ∀ {vs : List V} {ds : List PyData}, DvAll K H vs ds → vs.length = ds.length
  | _, _, .nil => rfl
  | _, _, .cons _ g => congrArg (· + 1) (DvAll.len g)
theorem DvAll.get {K : PySem.W.Frag} {H : Hp} : ∀ {vs : List V} {ds : List PyData}, DvAll K H vs ds → ∀ {i : Nat} {v : V}, vs[i]? = some v → ∃ d, ds[i]? = some d ∧ Dv K H v d
  | _, _, .nil, i, v, h => by cases i <;> cases h
  | _, _, .cons h g, 0, v, e => by
    cases e
    exact ⟨_, rfl, h⟩
  | _, _, .cons h g, i + 1, v, e => DvAll.get g (i := i) e
theorem DvAll.append {K : PySem.W.Frag} {H : Hp} : ∀ {vs ws : List V} {ds es : List PyData}, DvAll K H vs ds → DvAll K H ws es → DvAll K H (vs ++ ws) (ds ++ es)
  | _, _, _, _, .nil, g => g
  | _, _, _, _, .cons h t, g => .cons h (DvAll.append t g)
theorem DvAll.take {K : PySem.W.Frag} {H : Hp} : ∀ {vs : List V} {ds : List PyData}, DvAll K H vs ds → ∀ n, DvAll K H (vs.take n) (ds.take n)
  | _, _, _, 0 => .nil
  | _, _, .nil, n + 1 => .nil
  | _, _, .cons h t, n + 1 => .cons h (DvAll.take t n)
theorem DvAll.drop {K : PySem.W.Frag} {H : Hp} : ∀ {vs : List V} {ds : List PyData}, DvAll K H vs ds → ∀ n, DvAll K H (vs.drop n) (ds.drop n)
  | _, _, g, 0 => g
  | _, _, .nil, n + 1 => .nil
  | _, _, .cons h t, n + 1 => DvAll.drop t n
/-- a value's type by its name -/
def tyN : PyData → String
  | .none => "NoneType"
  | .bool _ => "bool"
  | .int _ => "int"
  | .str _ => "str"
  | .list _ => "list"
  | .tuple _ => "tuple"
  | .dict _ => "dict"
theorem Dv.ty {K : PySem.W.Frag} {H : Hp} {v : V} {d : PyData} (h : Dv K H v d) : TyX K H v (.type (tyN d)) := by
  cases h with
  | non => exact .base .non
  | bl b => exact .base (.bl b)
  | int i => exact .base (.int i)
  | str x h => exact .base (.str x)
  | lst h g =>
    rcases h with (h | ⟨o, h⟩) | ⟨o, _, _, e, c, _⟩
    · exact .base (.lst h)
    · exact .base (.frz h)
    · exact .kList e c
  | tup h g =>
    rcases h with (h | ⟨o, h⟩) | ⟨o, _, _, e, c, _⟩
    · exact .base (.tup h)
    · exact .fTuple h
    · exact .kTuple e c
  | dct h => exact .base (.dK h)
def isT (T : String) (d : PyData) : Bool := match kitB (tyN d) T with
  | some b => b
  | none => false
theorem kit_isT {K : PySem.W.Frag} {T : String} (hT : T = "tuple" ∨ T = "str" ∨ T = "int" ∨ T = "bool") (d : PyData) : PySem.W.kitOne K (.type (tyN d)) (.type T) = some (isT T d) := by
  refine kit_ty ?_
  unfold isT
  have : (kitB (tyN d) T).isSome = true := by
    rcases hT with rfl | rfl | rfl | rfl <;> cases d <;> (simp only [tyN]; decide +kernel)
  obtain ⟨b, hb⟩ := Option.isSome_iff_exists.mp this
  rw [hb]
theorem isT_tuple (d : PyData) : isT "tuple" d = true ↔ ∃ xs, d = .tuple xs := by
  cases d with
  | tuple xs => exact ⟨fun _ => ⟨xs, rfl⟩, fun _ => by show isT "tuple" (.tuple []) = true; decide +kernel⟩
  | none => exact ⟨fun h => absurd h (by decide +kernel), fun ⟨_, e⟩ => by cases e⟩
  | bool b => exact ⟨fun h => absurd h (by show ¬ isT "tuple" (.bool true) = true; decide +kernel), fun ⟨_, e⟩ => by cases e⟩
  | int b => exact ⟨fun h => absurd h (by show ¬ isT "tuple" (.int 0) = true; decide +kernel), fun ⟨_, e⟩ => by cases e⟩
  | str b => exact ⟨fun h => absurd h (by show ¬ isT "tuple" (.str Str.empty) = true; decide +kernel), fun ⟨_, e⟩ => by cases e⟩
  | list b => exact ⟨fun h => absurd h (by show ¬ isT "tuple" (.list []) = true; decide +kernel), fun ⟨_, e⟩ => by cases e⟩
  | dict b => exact ⟨fun h => absurd h (by show ¬ isT "tuple" (.dict []) = true; decide +kernel), fun ⟨_, e⟩ => by cases e⟩
theorem isT_str (d : PyData) : isT "str" d = true ↔ ∃ x, d = .str x := by
  cases d with
  | str x => exact ⟨fun _ => ⟨x, rfl⟩, fun _ => by show isT "str" (.str Str.empty) = true; decide +kernel⟩
  | none => exact ⟨fun h => absurd h (by decide +kernel), fun ⟨_, e⟩ => by cases e⟩
  | bool b => exact ⟨fun h => absurd h (by show ¬ isT "str" (.bool true) = true; decide +kernel), fun ⟨_, e⟩ => by cases e⟩
  | int b => exact ⟨fun h => absurd h (by show ¬ isT "str" (.int 0) = true; decide +kernel), fun ⟨_, e⟩ => by cases e⟩
  | tuple b => exact ⟨fun h => absurd h (by show ¬ isT "str" (.tuple []) = true; decide +kernel), fun ⟨_, e⟩ => by cases e⟩
  | list b => exact ⟨fun h => absurd h (by show ¬ isT "str" (.list []) = true; decide +kernel), fun ⟨_, e⟩ => by cases e⟩
  | dict b => exact ⟨fun h => absurd h (by show ¬ isT "str" (.dict []) = true; decide +kernel), fun ⟨_, e⟩ => by cases e⟩
/-- a whole number that is no bool -/
theorem isT_num (d : PyData) : (isT "int" d = true ∧ isT "bool" d = false) ↔ ∃ i, d = .int i := by
  cases d with
  | int x => exact ⟨fun _ => ⟨x, rfl⟩, fun _ => by show isT "int" (.int 0) = true ∧ isT "bool" (.int 0) = false; decide +kernel⟩
  | none => exact ⟨fun h => absurd h.1 (by decide +kernel), fun ⟨_, e⟩ => by cases e⟩
  | bool b => exact ⟨fun h => absurd h.2 (by show ¬ isT "bool" (.bool true) = false; decide +kernel), fun ⟨_, e⟩ => by cases e⟩
  | str b => exact ⟨fun h => absurd h.1 (by show ¬ isT "int" (.str Str.empty) = true; decide +kernel), fun ⟨_, e⟩ => by cases e⟩
  | tuple b => exact ⟨fun h => absurd h.1 (by show ¬ isT "int" (.tuple []) = true; decide +kernel), fun ⟨_, e⟩ => by cases e⟩
  | list b => exact ⟨fun h => absurd h.1 (by show ¬ isT "int" (.list []) = true; decide +kernel), fun ⟨_, e⟩ => by cases e⟩
  | dict b => exact ⟨fun h => absurd h.1 (by show ¬ isT "int" (.dict []) = true; decide +kernel), fun ⟨_, e⟩ => by cases e⟩
section
variable {X : Cx} {pins : List (Addr × Obj)} {σ : L2.St} {H : Hp} {s : Shared}
/-- isinstance of data -/
theorem call_isD : CallR X (.builtin "isinstance") (fun xs H Q => ∃ (v : V) (d : PyData) (T : String), xs = [v, .ty T] ∧ Dv X.K H v d ∧ (T = "tuple" ∨ T = "str" ∨ T = "int" ∨ T = "bool") ∧ Q (.bl (isT T d)) H) := by
  intro pins s σ H xs us Q I r h
  obtain ⟨v, d, T, rfl, hd, hT, q⟩ := h
  exact call_isi pins s σ H _ us Q I r ⟨v, .ty T, _, .type T, isT T d, rfl, .ty T, hd.ty, kit_isT hT d, q⟩
mutual
theorem Dv.reads (I : Inv X pins σ H s) : ∀ (d : PyData) (v : V) (u : Value), Dv X.K H v d → RelV v u → ∃ as, Reads s.heap u d as ∧ (noList d = true → sysModules ∉ as)
  | .none, _, _, h, r => by
    cases h
    cases r
    exact ⟨[], Reads.none, fun _ z => nomatch z⟩
  | .bool b, _, _, h, r => by
    cases h
    cases r
    exact ⟨[], Reads.bool b, fun _ z => nomatch z⟩
  | .int i, _, _, h, r => by
    cases h
    obtain ⟨t, e⟩ := r
    subst e
    exact ⟨[], Reads.int i t, fun _ z => nomatch z⟩
  | .str x, _, _, h, r => by
    cases h
    obtain ⟨t, e⟩ := r
    subst e
    exact ⟨[], Reads.str x t, fun _ z => nomatch z⟩
  | .list ds, _, _, h, r => by
    cases h with
    | lst hq ga =>
      cases r
      obtain ⟨its, rv, ⟨o, n, ho, hc, _, hd⟩, _⟩ := I.list hq
      obtain ⟨as, hr, _⟩ := Dv.readsAll I ds _ its ga rv
      exact ⟨_, Reads.list ho hc hd hr, fun z => by cases z⟩
  | .tuple ds, _, _, h, r => by
    cases h with
    | tup hq ga =>
      cases r
      obtain ⟨its, rv, ⟨o, ho, hc, n, hd⟩, _⟩ := I.tuple hq
      obtain ⟨as, hr, hn⟩ := Dv.readsAll I ds _ its ga rv
      exact ⟨_, Reads.tuple ho hc hd hr, fun z => hn (by simpa only [noList] using z)⟩
  | .dict kvs, _, _, h, r => by
    cases h with
    | dct ha =>
      cases r
      obtain ⟨_, hsm, vs, kv, o, es, ep, e1, e2, e3, _, e4, _⟩ := dk_of I.hok ha
      cases kv
      have ee : es = #[] := by
        have : es.toList = [] := by cases e4' : es.toList with
          | nil => rfl
          | cons x l =>
            rw [e4'] at e4
            cases e4
        exact Array.toList_eq_nil_iff.mp this
      subst ee
      refine ⟨_, Reads.dict (kvs := []) e1 e2.1 e3 .nil .nil, fun _ z => ?_⟩
      rcases List.mem_cons.mp z with z | z
      · rw [← z] at hsm
        simp at hsm
      · cases z
theorem Dv.readsAll (I : Inv X pins σ H s) : ∀ (ds : List PyData) (vs : List V) (us : List Value), DvAll X.K H vs ds → Vals vs us → ∃ as, ReadsAll s.heap us ds as ∧ (noListAll ds = true → sysModules ∉ as)
  | [], _, _, h, r => by
    cases h
    cases r
    exact ⟨_, ReadsAll.nil, fun _ z => nomatch z⟩
  | d :: ds, _, _, h, r => by
    cases h with
    | cons k1 k2 =>
      cases r with
      | cons r1 r2 =>
        obtain ⟨as, q1, n1⟩ := Dv.reads I d _ _ k1 r1
        obtain ⟨bs, q2, n2⟩ := Dv.readsAll I ds _ _ k2 r2
        exact ⟨_, ReadsAll.cons q1 q2, fun z m => by
          have z' : (noList d && noListAll ds) = true := by simpa only [noListAll] using z
          obtain ⟨z1, z2⟩ := Bool.and_eq_true_iff.mp z'
          rcases List.mem_append.mp m with m | m
          · exact n1 z1 m
          · exact n2 z2 m⟩
end
/-- data that can be shown -/
structure Dok (n m : Nat) (d : PyData) : Prop where
  sh : d.showable = true
  sys : d.hasDict = false ∨ noList d = true
  dp : d.depth ≤ m
  len : d.shown.length ≤ n
theorem Dok.mono {n m n' m' : Nat} {d : PyData} (h : Dok n m d) (a : n ≤ n') (b : m ≤ m') : Dok n' m' d := ⟨h.sh, h.sys, Nat.le_trans h.dp b, Nat.le_trans h.len a⟩
/-- repr of such, where no repr is under way -/
theorem call_reprV (hgu : X.A.guards = some []) (hu : X.A.units + 64 < cLine) : CallR X (.builtin "repr") (fun xs H Q => ∃ (v : V) (d : PyData) (n : Nat), xs = [v] ∧ Dv X.K H v d ∧ Dok n 40 d ∧ n ≤ sizeLine ∧ Q (.str d.shown) H) := by
  intro pins s σ H xs us Q I rv h
  obtain ⟨v, d, n, rfl, hd, ok, hn, q⟩ := h
  obtain ⟨u, rfl, ru⟩ := rv.one
  have hz := Nat.le_trans ok.len hn
  have obj : ∀ a, u = .ref a → wpAny (model X.prog X.w) X.A (call (.builtin "repr") [u]) (EP X pins σ Q) X.xe s := fun a e => by
    obtain ⟨as, rd, hs⟩ := Dv.reads I d v u hd ru
    subst e
    refine repr_of_reads' rd ok.sh (fun e => ?_) hgu (by have := ok.dp; omega) (fun _ _ e => e) (fun h' u tk kp => ?_) hz
    · rcases ok.sys with z | z
      · rw [z] at e
        cases e
      · exact hs z
    · exact ⟨.str d.shown, H, I.kept (t' := tk) kp, ⟨u, rfl⟩, q⟩
  cases hd with
  | non =>
    cases ru
    exact P.repr_of_none ⟨.str "None", H, I.tok _, ⟨_, rfl⟩, by simpa only [PyData.shown] using q⟩
  | bl b =>
    cases ru
    exact P.repr_of_bool ⟨.str (if b then "True" else "False"), H, I.tok _, ⟨_, by cases b <;> rfl⟩, by simpa only [PyData.shown] using q⟩
  | int i =>
    obtain ⟨t, rfl⟩ := ru
    have hi : i.natAbs.log2 < 1920 := by simpa [PyData.showable] using ok.sh
    exact P.repr_of_int hi ⟨.str (toString i), H, I.tok _, ⟨_, rfl⟩, by simpa only [PyData.shown] using q⟩
  | str x _ =>
    obtain ⟨t, rfl⟩ := ru
    exact P.repr_of_str ⟨.str (reprText x), H, I.tok _, ⟨_, rfl⟩, by simpa only [PyData.shown] using q⟩ (by simpa only [PyData.shown] using hz)
  | @lst a xs ds hq g => cases ru; exact obj a rfl
  | @tup a xs ds hq g => cases ru; exact obj a rfl
  | @dct a hq => cases ru; exact obj a rfl
end
end Fr
set_option Elab.async false
set_option linter.all false
set_option maxRecDepth 100000
set_option maxHeartbeats 2000000
namespace Fr
open PySem PySem.Spec PyProof.Rows L2
/-! ### a caught exception that is kept as a value -/
def ExD (cls : Value) (d : Option Addr) (a : Addr) : HO := .ext fun h => ∃ (oe : Obj) (vs : Array Value), h.get? a = some oe ∧ Zc cls d oe ∧ oe.data = .fields vs
theorem exD_ok {P : Program} {w : World} {H : Hp} {h : Heap} {a : Addr} {cls : Value} {d : Option Addr} {oe : Obj} {vs : Array Value} (e : h.get? a = some oe) (z : Zc cls d oe) (q : oe.data = .fields vs) : ObjOk P w H h a (ExD cls d a) :=
  ⟨⟨oe, vs, e, z, q⟩, ⟨oe, e⟩, fun _ _ ⟨o, v, e1, z1⟩ k => ⟨o, v, k o e1, z1⟩⟩
section
variable {X : Cx} {pins : List (Addr × Obj)} {σ : L2.St} {H : Hp} {s : Shared}
/-- what stands at a already, new since the def was entered, is tracked from now on -/
theorem hold {a : Addr} {o : HO} (I : Inv X pins σ H s) (n0 : X.s_0.heap.get? a = none) (na : H a = none) (nL : a ≠ X.env.locals) (nC : ∀ x c, X.env.cells.lookup x = some c → c ≠ a) (nP : ∀ p ∈ X.pn ++ pins, p.1 ≠ a)
    (new : ObjOk X.prog X.w (upd H a o) s.heap a o) : Inv X pins σ (upd H a o) s := by
  have neB : ∀ {b : Addr} {u : Obj}, X.s_0.heap.get? b = some u → b ≠ a := fun {b u} e z => by
    rw [z, n0] at e
    cases e
  refine ⟨I.ok, I.os, I.bare, ⟨I.base.keep, I.base.slot, fun b u e n q => ?_, I.base.there, fun b xs e => ?_, fun b u xs e => ?_, fun b ps e => ?_⟩, I.loc, I.cell, ?_, fun x c e => ?_, fun p hp => ?_, I.hok.laidN (fun _ _ e => e) na new, I.len⟩
  · rw [upd_ne (neB e)]
    exact I.base.free b u e n q
  · have z := I.base.tups b xs e
    rw [upd_ne (ne_of_none z na)]
    exact z
  · have z := I.base.frzs b u xs e
    rw [upd_ne (ne_of_none z na)]
    exact z
  · obtain ⟨m, z⟩ := I.base.tbls b ps e
    exact ⟨m, by rw [upd_ne (ne_of_none z na)]; exact z⟩
  · rw [upd_ne (Ne.symm nL)]
    exact I.free
  · rw [upd_ne (nC x c e)]
    exact I.freeC x c e
  · obtain ⟨e, n, r⟩ := I.pin p hp
    exact ⟨e, by rw [upd_ne (nP p hp)]; exact n, r⟩
end
/-- what «except x as n: suite» wishes of what its body raises, the exception being kept behind it -/
def wKept (K : PySem.W.Frag) (c : Value) (i : Nat) (ts : Addr → Value → Option Addr → TS) (Wout : WX) (D : Ends) : WX := fun cls d σ H =>
  ∃ b, PySem.W.exmOne K cls c = some b ∧
    (b = true → ∀ a, H a = none → ts a cls d { nx := fun σ' H' => H' a = none → D.nx (σ'.set i none) (upd H' a (ExD cls d a)), rt := fun _ _ => False, bk := fun _ _ => False, ct := fun _ _ => False } (σ.set i (some (.ref a))) H) ∧
    (b = false → Wout cls d σ H)
section
variable {X : Cx} {x n : Str} {c : Value} {i : Nat} {body suite : List Stmt} {b1 : Stmt} {np p1 p2 : Pos} {tb : WX → TS} {ts : Addr → Value → Option Addr → TS} {Wout : WX}
theorem ps_try_kept (hs : X.stack = X.env :: X.outer) (hf : X.env.frame = some X.env.locals) (hx : X.ex = []) (hN : X.N.Nodup) (hi : X.N[i]? = some n) (hl : X.env.kindOf n = some .local) (hc : Names X x c) (tk : Takes X Wout)
    (hb : ∀ (W : WX) (pn : List (Addr × Obj)) (xe : Value → Shared → Prop), Takes (X.tr pn xe) W → PassesOwn (model X.prog X.w) X.A X.env xe → PSs (X.tr pn xe) body (tb W))
    (hsu : ∀ (a : Addr) (oe : Obj) (cls : Value) (d : Option Addr) (pn : List (Addr × Obj)), Zc cls d oe → (∃ vs, oe.data = .fields vs) → PSs (X.suite a ((a, oe) :: pn)) (b1 :: suite) (ts a cls d)) :
    PS X (.Try body [.ExceptHandler (some (.Name x np)) (some n) (b1 :: suite) p1] [] [] p2) (fun D σ H => tb (wKept X.K c i ts Wout D) D σ H) := by
  refine ⟨fun pins s σ H D I h => wpAny_Try_except ?_⟩
  have frX : X.A.frames = some (X.env :: X.outer) := I.ok.frames.trans (congrArg some hs)
  refine wpAny_mono ((hb (wKept X.K c i ts Wout D) (X.pn ++ pins) _ (fun u s' air => ?air) PassesOwn.looking).run [] s σ H D (I.toTry _) h) (fun f s1 q => ?fin) fun e s1 q => q
  case fin =>
    cases f with
    | next =>
      obtain ⟨σ1, H1, J, q⟩ := q
      exact wpAny_execs_nil ⟨σ1, H1, J.ofTry I.ok, q⟩
    | brk =>
      obtain ⟨σ1, H1, J, q⟩ := q
      exact ⟨σ1, H1, J.ofTry I.ok, q⟩
    | cont =>
      obtain ⟨σ1, H1, J, q⟩ := q
      exact ⟨σ1, H1, J.ofTry I.ok, q⟩
    | ret u =>
      obtain ⟨v, σ1, H1, J, r, q⟩ := q
      exact ⟨v, σ1, H1, J.ofTry I.ok, r, q⟩
  case air =>
    obtain ⟨a, B, sI, pins1, σ1, H1, cls, d, rfl, JT, nb, up, sky, na, os, ag, b, hb1, yes, no⟩ := air
    have J : Inv X pins σ1 H1 sI := JT.ofTry I.ok
    refine Sky.land Zc.steady frX hf (show Sky B (X.env :: X.outer) a (Zc cls d) X.env.locals s'.heap from hs ▸ sky) fun h3 fl3 up3 => ?_
    have J3 : Inv X pins σ1 H1 { s' with heap := h3 } := J.landed nb fl3.1 (up.trans up3) os ag
    obtain ⟨oe3, vs3, he3, hz3, hd3⟩ := fl3.there
    have nst : a ∉ frs (X.env :: X.outer) := fun hm => by
      obtain ⟨_, o1, e1, hnf⟩ := fl3.2.2.1.mem hm
      rw [he3] at e1
      cases e1
      exact hnf _ hd3
    have nL : a ≠ X.env.locals := fun z => nst (List.mem_filterMap.mpr ⟨X.env, List.mem_cons_self, hf.trans (congrArg some z.symm)⟩)
    have nF : a ∉ X.fs := fun hm => by
      obtain ⟨e, he, q⟩ := List.mem_filterMap.mp hm
      exact nst (List.mem_filterMap.mpr ⟨e, List.mem_cons_of_mem _ he, q⟩)
    have gone : ∀ o, sI.heap.get? a ≠ some o := fun o e => by
      have z := nb a o e (by rw [hs]; exact nst)
      rw [fl3.2.1] at z
      cases z
    have n0 : X.s_0.heap.get? a = none := by
      cases e : X.s_0.heap.get? a with
      | none => rfl
      | some o =>
        obtain ⟨o1, z⟩ := J.base.there a o e (by rw [hx]; exact fun z => nomatch z)
        exact absurd z (gone o1)
    have nC : ∀ y c1, X.env.cells.lookup y = some c1 → c1 ≠ a := fun y c1 e z => by
      obtain ⟨v, o, ho, _⟩ := J.cell y c1 e
      rw [z] at ho
      exact gone o ho
    have nP : ∀ p ∈ X.pn ++ pins, p.1 ≠ a := fun p hp z => by
      have e := (J.pin p hp).1
      rw [z] at e
      exact gone _ e
    have S3 := J3.suite he3 hd3 na nL nF
    refine wpAny_handleBy_cons (codeAny_handlers_test ?_) nofun
    have LT : PySem.W.Looks (model X.prog X.w) h3 (typeOf (.ref a)) cls := fun A Q E s1 k q => wpAny_typeOf_ref (k a _ he3) (hz3.1.symm ▸ q)
    have LM := PySem.W.exm_one (M := model X.prog X.w) J3.kIn LT hb1
    have ask : ∀ {Q : Value → Shared → Prop} {E : Value → Shared → Prop}, Q c { s' with heap := h3 } → wpAny (model X.prog X.w) (X.A.mark (some (.ref a))) (eval (.Name x np) X.env) Q E { s' with heap := h3 } := fun {Q E} q => by
      obtain ⟨g1, g2, g3 | ⟨g3, g4, g5⟩⟩ := hc
      · exact ld_glob (X := X.suite a ((a, oe3) :: (X.pn ++ pins))) S3 g1 g3 q g2
      · exact ld_blt (X := X.suite a ((a, oe3) :: (X.pn ++ pins))) S3 g1 g3 g4 q g5 g2
    refine ask (LM.here ?_)
    cases b with
    | true =>
      refine codeAny_handlers_suite_as (HandSPX.lands_againZ fl3 fun h4 fl4 up4 => ?_)
      have J4 : Inv X pins σ1 H1 { s' with heap := h4 } := J.landed nb fl4.1 ((up.trans up3).trans up4) os ag
      obtain ⟨oe4, vs4, he4, hz4, hd4⟩ := fl4.there
      refine store_ok (X := X.suite a ((a, oe4) :: (X.pn ++ pins))) (v := .ref a) (J4.suite he4 hd4 na nL nF) hN hi (.inl hl) rfl (fun s5 S5 => ?_) (.inr hl)
      refine wpAny_mono ((hsu a oe4 cls d (X.pn ++ pins) hz4 ⟨vs4, hd4⟩).run [] s5 _ H1 _ S5 (yes rfl a na)) (fun f s6 q => ?_) fun _ _ z => False.elim z
      cases f with
      | next =>
        obtain ⟨σ6, H6, S6, q6⟩ := q
        obtain ⟨e6, n6, _⟩ := S6.pin (a, oe4) (List.mem_append_left _ List.mem_cons_self)
        have U6 := S6.unsuite I.ok
        exact gone_ok (hold U6 n0 n6 nL nC nP (exD_ok e6 hz4 hd4)) hN hi hl fun s7 J7 => ⟨_, _, J7, q6 n6⟩
      | brk =>
        obtain ⟨_, _, _, z⟩ := q
        exact False.elim z
      | cont =>
        obtain ⟨_, _, _, z⟩ := q
        exact False.elim z
      | ret u =>
        obtain ⟨_, _, _, _, _, z⟩ := q
        exact False.elim z
    | false =>
      refine wpAny_handleBy_nil ?_
      obtain ⟨_, _, _, oe, vs, T, oT, ts1, he, hz, hd, h1, hr⟩ := id fl3
      unfold PySem.passOn
      refine wpAny_bind (wpAny_field he hd h1 ?_)
      rw [if_neg (by simp)]
      have fly : wpAny (model X.prog X.w) X.A (setFlight (.ref a) X.env.frame) (fun _ s4 => wpAny (model X.prog X.w) X.A (throw (.ref a) : Sem Flow) (SP X pins D) X.xe s4) X.xe { s' with heap := h3 } := by
        rw [hf]
        refine HandSPX.setFlight_upZ fl3 fun h4 hh up4 => wpAny_throw (tk _ _ ⟨a, B, sI, pins, σ1, H1, cls, d, rfl, J, nb, (up.trans up3).trans up4, .inr (.inr (by rw [hs]; exact hh)), na, os, ag, no rfl⟩)
      first
        | exact wpAny_bind (wpAny_pure (wpAny_bind fly))
        | exact wpAny_bind fly
end
end Fr
set_option Elab.async false
set_option linter.all false
set_option maxRecDepth 100000
set_option maxHeartbeats 4000000
namespace PySem.W
open PySem PySem.Spec PySem.Calls PyProof.Rows
/-- what a class of exceptions says of itself -/
structure FrC (K : Frag) (D : Addr) : Prop where
  hg : findIn K (.ref D) "__getattribute__" = some (some (.builtin "BaseException.__getattribute__"))
  hk : findIn K (.ref D) "__getattr__" = some none
  hs : subIn K (.ref D) (.type "BaseException") = some true
  hd : hasDictIn K D = true
  ha : findIn K (.ref D) "__class__" = some (some (.builtin "object.__class__"))
  hn : specialIn K (.builtin "object.__class__") "__get__" = some (some (.builtin "getset_descriptor.__get__"))
  ht : takesIn K (.builtin "object.__class__") = some true
  hm : mroIn K D (.type "object") = some true
section
variable {prog : Program} {w : World} {A : Around} {E : Value → Shared → Prop} {K : Frag} {x D : Addr} {ox od : Obj}
theorem fr_class {s : Shared} {Q : Option Value → Shared → Prop} (C : FrC K D) (X : K.In s.heap) (I : InstAt s.heap x ox D (some od)) (h : Q (some (.ref D)) { s with toks := s.toks + 1 }) : wpAny (model prog w) A (getAttr? (.ref x) "__class__") Q E s := by
  have found : findObj K D (some od) "__class__" = some (.bind (.builtin "getset_descriptor.__get__") (.builtin "object.__class__")) :=
    findObj_data (by obtain ⟨cd, hc, _⟩ := any_some C.hd; rw [hc]; rfl) C.ha C.hn C.ht
  obtain ⟨hp, g, d, t, os⟩ := s
  have l0 := I.type (M := model prog w)
  have l1 := looks_findIn (M := model prog w) X C.hg
  have l2 := looks_findIn (M := model prog w) X C.hk
  have l3 := looks_find (M := model prog w) X I found
  have isExc : Looks (model prog w) hp (isInstance (.ref x) (.type "BaseException")) true := l0.andThen (looks_subIn X C.hs)
  have unlike : (Value.builtin "BaseException.__getattribute__" == Value.builtin "object.__getattribute__") = false := by decide +kernel
  have c1 : (onTheHeap (Value.ref D) && Value.builtin "BaseException.__getattribute__" == Value.builtin "object.__getattribute__") = false := (congrArg (onTheHeap (Value.ref D) && ·) unlike).trans (Bool.and_false _)
  have c0 : (false && onTheHeap (Value.builtin "BaseException.__getattribute__")) = false := Bool.false_and _
  unfold getAttr? getAttrBy? getAttrBy
  refine wpAny_bind (wpAny_mkText (wpAny_bind (wpAny_attempt (wpAny_holding (wpAny_bind (l0.at (wpAny_bind (l1.at ?_))))))))
  show wpAny (model prog w) A (if (onTheHeap (Value.ref D) && Value.builtin "BaseException.__getattribute__" == Value.builtin "object.__getattribute__") = true then _ else _) _ _ _
  rw [c1, if_neg Bool.false_ne_true]
  unfold getAttrByItsOwn hookBefore
  refine wpAny_bind ?_
  rw [if_pos (c := onTheHeap (Value.ref D) = true) rfl]
  refine l2.at ?_
  refine wpAny_bind (wpAny_attempt (wpAny_holding ?_))
  unfold callGetattribute
  rw [c0, if_neg Bool.false_ne_true]
  unfold boundAndCalled
  rw [PySem.F.excAttr_ValueError.ga.bind (.ref x)]
  refine wpAny_bind (wpAny_pure ?_)
  show wpAny (model prog w) A (call (.builtin "BaseException.__getattribute__") [.ref x, .str "__class__" t]) _ _ _
  refine wpAny_call (codeAny_call_builtin PySem.F.excAttr_ValueError.ga.plain PySem.F.entry_bexc_ga ?_)
  refine @check_slot (model prog w) _ _ ⟨hp, g, d, t + 1, os⟩ "BaseException.__getattribute__" "BaseException" "__getattribute__" (.ref x) [.str "__class__" t] [] _ (by decide +kernel) (by decide +kernel) isExc (PySem.F.args_bexc_ga (.ref x) (.str "__class__" t)) ?_
  unfold Builtin.«object.__getattribute__»
  have sa : slotArgs "__getattribute__" 1 { pos := [Value.ref x, Value.str "__class__" t] } = pure ((Value.ref x : Value), [Value.str "__class__" t]) := by first | rfl | (simp only [slotArgs]; rfl)
  refine wpAny_bind (wpAny_of_eq sa ?_)
  refine wpAny_bind (wpAny_pure (wpAny_bind (l0.at (wpAny_bind (l3.at ?_)))))
  show wpAny (model prog w) _ (holding [Value.builtin "object.__class__"] (call (.builtin "getset_descriptor.__get__") [.builtin "object.__class__", .ref x, .ref D]) >>= ret) _ _ _
  refine wpAny_bind (wpAny_holding (wpAny_call (class_get (s := ⟨hp, g, d, t + 1, os⟩) (ox := ox) (od := some od) X I C.hm ?_)))
  refine wpAny_pure ?_
  show wpAny (model prog w) _ (handedOut (.ref D)) _ _ _
  rw [handedOut_of (v := .ref D) rfl]
  first
    | exact wpAny_pure (wpAny_pure h)
    | exact wpAny_pure h
    | exact wpAny_pure (wpAny_bind (wpAny_pure (wpAny_pure h)))
theorem fr_kit (C : FrC K D) : KitX K (.ref x) (.ref D) (fun h => ∃ od, InstAt h x ox D (some od)) where
  ty := fun _ _ _ ⟨_, I⟩ => I.type
  it := fun _ _ X _ => by
    obtain ⟨cd, hc, _⟩ := any_some C.hd
    unfold clsIn at hc
    split at hc
    · rename_i o1 o2 o3 o4 ho
      exact fun {A' Q' E' s'} k q => by
        unfold isType loadHead
        exact wpAny_bind (wpAny_loadPart (k _ _ (X _ _ ho)) (wpAny_pure q))
    · cases hc
  ne := fun h tp dd its n sl X htp => by
    obtain ⟨cd, hc, _⟩ := any_some C.hd
    unfold clsIn at hc
    split at hc
    · rename_i o1 o2 o3 o4 ho
      refine Bool.eq_false_iff.mpr fun q => ?_
      obtain rfl : D = tp := Value.ref.inj (beq_iff_eq.mp q)
      cases (X _ _ ho).symm.trans htp
    · cases hc
  ca := fun X ⟨_, I⟩ k => fr_class C X I k
end
end PySem.W
namespace Fr
open PySem PySem.Spec PyProof.Rows L2
section
variable {X : Cx}
theorem exd_get {pins : List (Addr × Obj)} {σ : L2.St} {H : Hp} {s : Shared} {a dd D : Addr} {fs : List (Str × V)} (I : Inv X pins σ H s) (e : H a = some (ExD (.ref D) (some dd) a)) (ed : H dd = some (.xd fs)) :
    ∃ (oe od : Obj) (mA : Str → Option Value), PySem.W.InstAt s.heap a oe D (some od) ∧ (∀ f, PySem.W.lookIn f od = some (mA f)) ∧ ∀ f, RelO (fs.lookup f) (mA f) := by
  obtain ⟨⟨oe, vs, ho, hz, hv⟩, _, _⟩ := (show ObjOk X.prog X.w H s.heap a (ExD (.ref D) (some dd) a) from I.hok a _ e)
  obtain ⟨mA, hns, hr⟩ := (show ObjOk X.prog X.w H s.heap dd (.xd fs) from I.hok dd _ ed)
  obtain ⟨od, hd, hl⟩ := lookIn_ns hns
  exact ⟨oe, od, mA, ⟨ho, hz.1, by unfold PySem.W.notCls; rw [hv] <;> rfl, by rw [hz.2]; exact hd⟩, hl, hr⟩
/-- isinstance of a kept exception -/
theorem call_isK : CallR X (.builtin "isinstance") (fun xs H Q => ∃ (a D dd : Addr) (fs : List (Str × V)) (c : V) (u : Value) (b : Bool), xs = [.ref a, c] ∧ H a = some (ExD (.ref D) (some dd) a) ∧ H dd = some (.xd fs) ∧ PySem.W.FrC X.K D ∧ ClsV c u ∧ PySem.W.kitOne X.K (.ref D) u = some b ∧ Q (.bl b) H) := by
  intro pins s σ H xs us Q I r h
  obtain ⟨a, D, dd, fs, c, u, b, rfl, e, ed, C, k, hb, q⟩ := h
  obtain ⟨u1, u2, rfl, r1, r2⟩ := vals2 r
  have e2 := k.eq r2
  subst e2
  cases r1
  obtain ⟨oe, od, mA, J, _, _⟩ := exd_get I e ed
  exact PySem.W.kia_one (PySem.W.fr_kit (ox := oe) C) I.kIn ⟨od, J⟩ hb nofun fun tk => ⟨.bl b, H, I.tok tk, rfl, q⟩
/-- e.f, e a kept exception -/
def tKept (K : PySem.W.Frag) (f : Str) (te : TE) : TE := fun σ H Q => te σ H fun x H1 => ∃ (a D dd : Addr) (fs : List (Str × V)) (v : V), x = .ref a ∧ H1 a = some (ExD (.ref D) (some dd) a) ∧ H1 dd = some (.xd fs) ∧ PySem.W.FrC K D ∧ PySem.W.findIn K (.ref D) f = some none ∧ fs.lookup f = some v ∧ Q v H1
theorem pe_kept {e : Expr} {te : TE} {pos : Pos} {f : Str} (he : PE X e te) (hb : attributeBase e f X.env (eval e X.env) = eval e X.env := by rfl) : PE X (.Attribute e f pos) (tKept X.K f te) := by
  refine ⟨fun pins s σ H Q I h => attr_of hb (thn (he.run pins s σ H _ I h) fun u s1 hh => ?_)⟩
  obtain ⟨x, H1, I1, rx, a, D, dd, fs, v, rfl, ea, ed, C, hno, hl, q⟩ := hh
  obtain rfl : u = Value.ref a := rx
  obtain ⟨oe, od, mA, J, hlk, hr⟩ := exd_get I1 ea ed
  obtain ⟨u, hu, ru⟩ := RelO.some_of (v := v) (o := mA f) (by rw [← hl]; exact hr f)
  exact HandSPX.exc_get I1.kIn J C.hg C.hk C.hs (PySem.W.findObj_own C.hd hno rfl (by rw [hlk, hu])) (handed_of ru) ⟨v, H1, I1.tok _, ru, q⟩
end
end Fr
set_option Elab.async false
set_option linter.all false
set_option maxRecDepth 100000
set_option maxHeartbeats 2000000
namespace Fr
open PySem L2
/-! ### the sizes of far texts, as numbers -/
abbrev alpha : Str := "abcdefghijklmnopqrstuvwxyz"
abbrev tl (z : Str) : List Nat := z.cps.toList
def ofL (z : Str) : Bool := (tl z).all fun c => decide (c ∈ tl alpha)
def szQ (f : PyData → Nat) (t : Int) : PyData → Nat
  | .str z => if z.length ≤ 20 ∧ ofL z = true then t.toNat * z.length else 0
  | p => t.toNat * f p
def szT (f : PyData → Nat) (p : PyData) : PyData → Nat
  | .int t => if 1 ≤ t ∧ t ≤ 1000000000000000000 then szQ f t p else 0
  | _ => 0
def szP (f : PyData → Nat) : PyData → Nat
  | .tuple [p, t] => szT f p t
  | _ => 0
def sz : Nat → PyData → Nat
  | k + 1, .tuple xs => if 1 ≤ xs.length ∧ xs.length ≤ 6 then (if 0 ∈ xs.map (szP (sz k)) then 0 else (xs.map (szP (sz k))).sum) else 0
  | _, _ => 0
theorem sz_zero (d : PyData) : sz 0 d = 0 := by
  unfold sz
  rfl
/-! ### the constants -/
structure Con (K : PySem.W.Frag) (mg : Str → Option Value) : Prop where
  alpha : ∃ t, mg "ALPHABET" = some (.str alpha t)
  pairs : ∃ t, mg "MOST_PAIRS" = some (.int 6 t)
  longest : ∃ t, mg "LONGEST_PIECE" = some (.int 20 t)
  times : ∃ t, mg "MOST_TIMES" = some (.int 1000000000000000000 t)
  deep : ∃ t, mg "DEEPEST" = some (.int 4 t)
  symbols : ∃ t, mg "MOST_SYMBOLS" = some (.int 1000000000000000000000000 t)
  isi : mg "isinstance" = none
  bool : mg "bool" = none
  all : mg "all" = none
  sum : mg "sum" = none
  repr : mg "repr" = none
  max : mg "max" = none
  min : mg "min" = none
  verr : mg "ValueError" = none
theorem boot_isi : bootBuiltins "isinstance" = some (.builtin "isinstance") := by decide +kernel
abbrev s_is_number : Stmt := top 5
abbrev sc_is_numberN : List Str := ["value"]
theorem sc_is_number : FnScope sc_is_numberN ["value"] (defScope s_is_number) := ⟨rfl, rfl, rfl, by decide +kernel, rfl, by decide +kernel, by decide +kernel⟩
def isNum (d : PyData) : Bool := isT "int" d && !isT "bool" d
theorem isNum_iff (d : PyData) : isNum d = true ↔ ∃ i, d = .int i := by
  rw [← isT_num]
  unfold isNum
  cases isT "int" d <;> cases isT "bool" d <;> simp
def spNum (K : PySem.W.Frag) : Sp := fun vs H Q _ => ∃ (v : V) (d : PyData), vs = [v] ∧ Dv K H v d ∧ Q (.bl (isNum d)) H
abbrev s_size_at : Stmt := top 13
abbrev sc_size_atN : List Str := ["symbols", "value", "depth", "sizes", "pair"]
theorem sc_size_at : FnScope sc_size_atN ["symbols", "value", "depth"] (defScope s_size_at) := ⟨rfl, rfl, rfl, by decide +kernel, rfl, by decide +kernel, by decide +kernel⟩
abbrev s_size_of_pair : Stmt := top 14
abbrev sc_size_of_pairN : List Str := ["symbols", "pair", "depth", "piece", "times", "is_piece", "sign"]
theorem sc_size_of_pair : FnScope sc_size_of_pairN ["symbols", "pair", "depth"] (defScope s_size_of_pair) := ⟨rfl, rfl, rfl, by decide +kernel, rfl, by decide +kernel, by decide +kernel⟩
def spAt (K : PySem.W.Frag) (k : Nat) : Sp := fun vs H Q _ => ∃ (v : V) (d : PyData), vs = [.str alpha, v, .int (5 - (k : Int))] ∧ Dv K H v d ∧ ∀ H', Same H H' → Q (.int (sz k d : Nat)) H'
def spPair (K : PySem.W.Frag) (k : Nat) : Sp := fun vs H Q _ => ∃ (v : V) (d : PyData), vs = [.str alpha, v, .int (4 - (k : Int))] ∧ Dv K H v d ∧ ∀ H', Same H H' → Q (.int (szP (sz k) d : Nat)) H'
def spNo : Sp := fun _ _ _ _ => False
theorem inV_ints (ns : List Int) : inV (.int 0) (ns.map V.int) = decide (0 ∈ ns) := by
  induction ns with
  | nil => rfl
  | cons n ns ih =>
    show (eqV (.int n) (.int 0) || inV (.int 0) (ns.map V.int)) = _
    rw [ih]
    by_cases h : n = 0
    · subst h
      simp [eqV]
    · have : ¬ (0 : Int) = n := fun e => h e.symm
      simp [eqV, h, this]
theorem flat_ints (ns : List Int) : (ns.map V.int).all flatV = true := by
  rw [List.all_map]
  exact List.all_eq_true.mpr fun _ _ => rfl
theorem take_more {α : Type} : ∀ {l : List α} {i : Nat} {x : α}, l[i]? = some x → l.take (i + 1) = l.take i ++ [x]
  | [], i, x, h => by cases i <;> cases h
  | a :: l, 0, x, h => by
    cases h
    rfl
  | a :: l, i + 1, x, h => by
    have ih := take_more (l := l) (i := i) (x := x) h
    show a :: l.take (i + 1) = a :: (l.take i ++ [x])
    rw [ih]
section
variable {P : Program} {w : World} {K : PySem.W.Frag} {mg : Str → Option Value} {base : Heap}
theorem never_ok {f : Addr} {fd : FuncData} {ps : List Str} {k : Nat} {CX : CXT} : FnOk P w K mg base CX k f fd ps spNo :=
  ⟨fun _ _ _ _ h => h.elim, fun _ _ _ _ _ _ _ _ _ _ _ _ _ h => h.elim⟩
theorem ok_num {f : Addr} {fd : FuncData} (F : Fun K "is_number" "is_number" s_is_number f fd) (T : Bare mg) (C : Con K mg) : FnOk P w K mg base CX0 1 f fd ["value"] (spNum K) := by
  refine F.ok sc_is_number (fun vs H Q E h => ?_) (fun cdv A outer st H vs Q E hr h => ?_)
  · obtain ⟨v, d, rfl, _⟩ := h
    rfl
  obtain ⟨v, d, rfl, hd, q⟩ := h
  refine ⟨_, (pss_one (ps_ret (pe_and (pe_callB call_isD (by rfl) C.isi boot_isi (pa_cons (pv 0) (pa_cons (pe_bltn (v := .ty "int") (u := .type "int") (by rfl) T.int (by decide +kernel) rfl) pa_nil))) (pe_one (pe_not (pe_callB call_isD (by rfl) C.isi boot_isi (pa_cons (pv 0) (pa_cons (pe_bltn (v := .ty "bool") (u := .type "bool") (by rfl) C.bool (by decide +kernel) rfl) pa_nil)))))))), ?_⟩
  refine ⟨v, rfl, v, d, "int", rfl, hd, .inr (.inr (.inl rfl)), _, rfl, ?_⟩
  unfold isNum at q
  cases e : isT "int" d with
  | false =>
    rw [e] at q
    exact iteF q
  | true =>
    rw [e] at q
    exact iteT ⟨v, rfl, v, d, "bool", rfl, hd, .inr (.inr (.inr rfl)), _, rfl, q⟩
theorem ok_at {f : Addr} {fd : FuncData} {k lev : Nat} {spP : Sp} (F : Fun K "size_at" "size_at" s_size_at f fd) (T : Bare mg) (C : Con K mg) (hk : k ≤ 4) (hP : ∀ j, k = j + 1 → spP = spPair K j)
    (CP : Callee P w K mg base lev "size_of_pair" ["symbols", "pair", "depth"] spP) : FnOk P w K mg base CX0 (lev + 1) f fd ["symbols", "value", "depth"] (spAt K k) := by
  refine F.ok sc_size_at (fun vs H Q E h => ?_) (fun cdv A outer st H vs Q E hr h => ?_)
  · obtain ⟨v, d, rfl, _⟩ := h
    rfl
  obtain ⟨v, d, rfl, hd, q⟩ := h
  obtain ⟨t1, hdeep⟩ := C.deep
  obtain ⟨t2, hpairs⟩ := C.pairs
  refine ⟨_, (pss_cons (ps_if (PW.pt (pw_or (pt_cmpR op_gt (pv 2) (pe_glob (v := .int 4) (by rfl) hdeep ⟨_, rfl⟩) (nomark _)) (pw_or (pt_not (pt_val (pe_callB call_isD (by rfl) C.isi boot_isi (pa_cons (pv 1) (pa_cons (pe_bltn (v := .ty "tuple") (u := .type "tuple") (by rfl) T.tuple (by decide +kernel) rfl) pa_nil))))) (pw_or1 (pt_not (pt_chain op_le op_le pe_int (pe_callB call_len_seq (by rfl) T.len PySem.boot_len (pa_cons (pv 1) pa_nil)) (pe_glob (v := .int 6) (by rfl) hpairs ⟨_, rfl⟩)))))))
(pss_one (ps_ret pe_int))
pss_nil)
(pss_cons (ps_setLc (i := 3) (own := [("pair", 4)]) (g := gName 4) rfl sc_size_at.nd rfl rfl (sw_true rfl rfl rfl (by decide +kernel)) (pi_tup (pv 1)) (blkOk_by (N := sc_size_atN) (sc := defScope s_size_at) (by decide +kernel)) (fun _ _ _ _ _ => pg_name (i := 4) sc_size_at.nd rfl (Or.inl rfl)) (fun _ _ _ _ _ => pts_nil) (fun _ _ _ _ _ => (pe_call CP.ok hr rfl CP.mg CP.kp CP.b .nil pass0 (pa_cons (pv 0) (pa_cons (pv 4) (pa_cons (pv 2) pa_nil))))))
(pss_one (ps_ret (pe_ifExp (pt_cmpR op_in_seq pe_int (pv 3) (by rfl)) pe_int (pe_callB (cr_sum rfl) (by rfl) C.sum (by decide +kernel) (pa_cons (pv 3) pa_nil))))))), ?_⟩
  refine ⟨_, rfl, _, _, rfl, rfl, _, rfl, ?_⟩
  cases k with
  | zero =>
    refine ite2 (fun _ => iteT ?_) (fun h => absurd (decide_eq_true (by decide)) h)
    have z := q H (fun _ _ e => e)
    rw [sz_zero] at z
    exact z
  | succ j =>
    refine ite2 (fun h => absurd (of_decide_eq_true h) (by omega)) (fun _ => ?_)
    refine ⟨v, rfl, v, d, "tuple", rfl, hd, .inl rfl, _, rfl, ?_⟩
    have zero : sz (j + 1) d = 0 → Q (.int 0) H := fun e => by
      have z := q H (fun _ _ e => e)
      rw [e] at z
      exact z
    by_cases ht : isT "tuple" d = true
    rotate_left
    · rw [Bool.eq_false_iff.mpr ht]
      refine iteT (iteT (zero ?_))
      cases d with
      | tuple xs => exact absurd ((isT_tuple _).mpr ⟨xs, rfl⟩) ht
      | _ => rfl
    obtain ⟨ds, rfl⟩ := (isT_tuple d).mp ht
    rw [ht]
    refine iteF ?_
    cases hd with
    | @tup a xs _ hq g =>
    have hlen := g.len
    refine ⟨.ref a, rfl, a, xs, rfl, .inr hq, 1, (xs.length : Int), rfl, rfl, _, rfl, ?_⟩
    have short : ¬ (1 ≤ ds.length ∧ ds.length ≤ 6) → Q (.int 0) H := fun h => zero (by show (if _ then _ else _) = 0; rw [if_neg h])
    refine ite2 (fun h1 => ?_) (fun h1 => ?_)
    rotate_left
    · refine ⟨_, rfl, iteT (short fun h => h1 (decide_eq_true ?_))⟩
      omega
    have h1 := of_decide_eq_true h1
    refine ⟨(xs.length : Int), 6, rfl, rfl, _, rfl, ?_⟩
    refine ite2 (fun h2 => short fun h => ?_) (fun h2 => ?_)
    · have h2 : decide ((xs.length : Int) ≤ 6) = false := by simpa using h2
      exact absurd (of_decide_eq_false h2) (by omega)
    have h2 : (xs.length : Int) ≤ 6 := by simpa using h2
    have hsP := hP j rfl
    subst hsP
    have sz1 : sz (j + 1) (.tuple ds) = if 0 ∈ ds.map (szP (sz j)) then 0 else (ds.map (szP (sz j))).sum := by
      show (if _ then _ else _) = _
      rw [if_pos ⟨by omega, by omega⟩]
    rw [sz1] at q
    have hd4 : (5 : Int) - ((j + 1 : Nat) : Int) = 4 - (j : Int) := by omega
    refine ⟨.ref a, rfl, a, rfl, ⟨_, hq⟩, fun D hD => lc_it (walk_tup (xs := xs)) (fun i H' => H' D = some (.lst (((ds.take i).map fun d => ((szP (sz j) d : Nat) : Int)).map V.int)) ∧ Same H H') ?_ ?_ ?_ ?_⟩
    · exact ⟨upd_same, same_new hD _⟩
    · exact fun i H' _ p => same_sqT p.2 hq
    · rintro i x H1 H2 hi ⟨hl, hs⟩ ⟨rfl, hx⟩
      obtain ⟨d, hdi, hdx⟩ := g.get hx
      refine ⟨rfl, ?_⟩
      simp only [tYes, ↓reduceIte]
      refine ⟨_, rfl, x, rfl, _, rfl, x, d, by rw [hd4] <;> rfl, hdx.same hs, fun H3 s3 => ⟨_, s3 _ _ hl, ?_, ?_, ?_⟩⟩
      · rw [List.length_map, List.length_map, List.length_take]
        exact Nat.lt_of_lt_of_le (by omega : _ < 1000) (small (Nat.le_refl _))
      · rw [upd_same, take_more hdi, List.map_append, List.map_append]
        rfl
      · intro b o e
        have nb : b ≠ D := ne_of_none e hD
        rw [upd_ne nb]
        exact s3 _ _ (hs _ _ e)
    · rintro H1 ⟨hl, hs⟩
      rw [hlen, List.take_length] at hl
      refine ⟨.ref D, rfl, D, _, rfl, .inl (.inl (.inl hl)), rfl, flat_ints _, _, rfl, ?_⟩
      rw [if_neg (by decide), inV_ints]
      have cast : ∀ (l : List PyData) (f : PyData → Nat), (0 : Int) ∈ (l.map fun d => ((f d : Nat) : Int)) ↔ 0 ∈ l.map f := fun l f => by
        constructor
        · intro h
          obtain ⟨d, hd, e⟩ := List.mem_map.mp h
          exact List.mem_map.mpr ⟨d, hd, by omega⟩
        · intro h
          obtain ⟨d, hd, e⟩ := List.mem_map.mp h
          exact List.mem_map.mpr ⟨d, hd, by omega⟩
      have sums : ∀ (l : List PyData) (f : PyData → Nat), (l.map fun d => ((f d : Nat) : Int)).sum = (((l.map f).sum : Nat) : Int) := fun l f => by
        induction l with
        | nil => rfl
        | cons d l ih => rw [List.map_cons, List.map_cons, List.sum_cons, List.sum_cons, ih, Int.natCast_add]
      refine ite2 (fun h => ?_) (fun h => ?_)
      · have h0 := (cast ds (szP (sz j))).mp (of_decide_eq_true h)
        have z := q H1 hs
        rw [if_pos h0] at z
        exact z
      · have h0 : ¬ 0 ∈ ds.map (szP (sz j)) := fun z => h (decide_eq_true ((cast ds (szP (sz j))).mpr z))
        refine ⟨.ref D, rfl, D, _, rfl, .inl (.inl hl), ?_⟩
        have z := q H1 hs
        rw [if_neg h0] at z
        rw [sums]
        exact z
theorem len_k {z : Str} (h : z.length ≤ 1000000) : z.length ≤ sizeLine := by
  rw [sizeLine_eq]
  omega
/-- a comprehension over a text whose element is a test of the sign -/
theorem lc_signs {s : Nat} {te : TE} {vs : List Nat} {σ : L2.St} {H1 : Hp} {D : Addr} {Qd : Hp → Prop} (z : Str) (f : Nat → Bool) (hw : ∀ v, wipe ((wipe σ vs).set s (some v)) vs = wipe σ vs) (hn : z.length ≤ 10000)
    (he : ∀ (c : Nat) (H : Hp) (Q : VK), Q (.bl (f c)) H → te ((wipe σ vs).set s (some (.str ⟨#[c]⟩))) H Q)
    (hd : Qd (upd H1 D (.lst (((tl z).map f).map V.bl)))) :
    ∃ W : Nat → Nat → Hp → Prop, (∃ m, W 0 m (upd H1 D (.lst []))) ∧ ∀ i m H, W i m H →
      ((Its z).stop i H ∧ Qd H) ∨ ((Its z).go i H ∧ ∃ Nx : Hp → Prop, (∀ H', Nx H' → ∃ m', m' < m ∧ W (i + 1) m' H') ∧ ∀ x H', (Its z).yld i H x H' → gName s x (wipe σ vs) H' fun σ2 H2 => wipe σ2 vs = wipe σ vs ∧ tYes σ2 H2 fun b H3 =>
        if b = true then te σ2 H3 fun y H4 => ∃ acc, H4 D = some (.lst acc) ∧ acc.length < sizeLine ∧ Nx (upd H4 D (.lst (acc ++ [y]))) else Nx H3) := by
  have hz : (tl z).length = z.cps.size := Array.length_toList
  refine lc_it walk_str (fun i H => H = upd H1 D (.lst ((((tl z).take i).map f).map V.bl))) rfl (fun _ _ _ _ => trivial) (fun i v H H' hi p y => ?_) (fun H p => ?_)
  · obtain ⟨rfl, c, hc, rfl⟩ := y
    subst p
    refine ⟨hw _, ?_⟩
    simp only [tYes, ↓reduceIte]
    refine he c _ _ ⟨_, upd_same, ?_, ?_⟩
    · rw [List.length_map, List.length_map, List.length_take]
      have hl : z.cps.size = z.length := rfl
      exact Nat.lt_of_lt_of_le (by omega : _ < 10001) (by rw [sizeLine_eq]; decide)
    · have hc' : (tl z)[i]? = some c := by rw [Array.getElem?_toList]; exact hc
      rw [upd_upd, take_more hc', List.map_append, List.map_append]
      rfl
  · rw [p, ← hz, List.take_length]
    exact hd
theorem all_id (l : List Nat) (f : Nat → Bool) : (l.map f).all id = l.all f := by
  rw [List.all_map]
  rfl
end
end Fr
set_option Elab.async false
set_option linter.all false
set_option maxRecDepth 100000
set_option maxHeartbeats 1000000
namespace Fr
open PySem L2
theorem szP_other (f : PyData → Nat) : ∀ {ds : List PyData}, ds.length ≠ 2 → szP f (.tuple ds) = 0
  | [], _ => rfl
  | [_], _ => rfl
  | [_, _], h => absurd rfl h
  | _ :: _ :: _ :: _, _ => rfl
theorem two_of {α : Type} : ∀ {l : List α}, l.length = 2 → ∃ x y, l = [x, y]
  | [x, y], _ => ⟨x, y, rfl⟩
theorem szT_in (f : PyData → Nat) (p : PyData) {t : Int} (h : 1 ≤ t ∧ t ≤ 1000000000000000000) : szP f (.tuple [p, .int t]) = szQ f t p := by
  show (if _ then _ else _) = _
  rw [if_pos h]
theorem szT_out (f : PyData → Nat) (p : PyData) {t : Int} (h : ¬ (1 ≤ t ∧ t ≤ 1000000000000000000)) : szP f (.tuple [p, .int t]) = 0 := by
  show (if _ then _ else _) = _
  rw [if_neg h]
section
variable {P : Program} {w : World} {K : PySem.W.Frag} {mg : Str → Option Value} {base : Heap}
theorem ok_pair {f : Addr} {fd : FuncData} {j lev : Nat} (F : Fun K "size_of_pair" "size_of_pair" s_size_of_pair f fd) (T : Bare mg) (C : Con K mg) (hl : 1 ≤ lev)
    (CN : Callee P w K mg base 1 "is_number" ["value"] (spNum K)) (CA : Callee P w K mg base lev "size_at" ["symbols", "value", "depth"] (spAt K j)) : FnOk P w K mg base CX0 (lev + 1) f fd ["symbols", "pair", "depth"] (spPair K j) := by
  refine F.ok sc_size_of_pair (fun vs H Q E h => ?_) (fun cdv A outer st H vs Q E hr h => ?_)
  · obtain ⟨v, d, rfl, _⟩ := h
    rfl
  obtain ⟨v, d, rfl, hd, q⟩ := h
  obtain ⟨t1, htimes⟩ := C.times
  obtain ⟨t2, hlong⟩ := C.longest
  refine ⟨_, (pss_cons (ps_if (PW.pt (pw_or (pt_not (pt_val (pe_callB call_isD (by rfl) C.isi boot_isi (pa_cons (pv 1) (pa_cons (pe_bltn (v := .ty "tuple") (u := .type "tuple") (by rfl) T.tuple (by decide +kernel) rfl) pa_nil))))) (pw_or1 (pt_cmpR op_ne (pe_callB call_len_seq (by rfl) T.len PySem.boot_len (pa_cons (pv 1) pa_nil)) pe_int (nomark _)))))
(pss_one (ps_ret pe_int))
pss_nil)
(pss_cons (ps_asg (pv 1) (pg_tup (by rfl) (pgs_cons (pg_name (i := 3) sc_size_of_pair.nd rfl (Or.inl rfl)) (pgs_cons (pg_name (i := 4) sc_size_of_pair.nd rfl (Or.inl rfl)) pgs_nil))))
(pss_cons (ps_if (PW.pt (pw_or (pt_not (pt_val (pe_call CN.ok (hr.mono hl) rfl CN.mg CN.kp CN.b .nil pass0 (pa_cons (pv 4) pa_nil)))) (pw_or1 (pt_not (pt_chain op_le op_le pe_int (pv 4) (pe_glob (v := .int 1000000000000000000) (by rfl) htimes ⟨_, rfl⟩))))))
(pss_one (ps_ret pe_int))
pss_nil)
(pss_cons (ps_if (pt_not (pt_val (pe_callB call_isD (by rfl) C.isi boot_isi (pa_cons (pv 3) (pa_cons (pe_bltn (v := .ty "str") (u := .type "str") (by rfl) T.str (by decide +kernel) rfl) pa_nil)))))
(pss_one (ps_ret (pe_op op_mul (pv 4) (pe_call CA.ok hr rfl CA.mg CA.kp CA.b .nil pass0 (pa_cons (pv 0) (pa_cons (pv 3) (pa_cons (pe_op op_add (pv 2) pe_int) pa_nil)))))))
pss_nil)
(pss_cons (ps_set (i := 5) sc_size_of_pair.nd rfl (Or.inl rfl) (pe_and (pe_cmpR op_le (pe_callB call_len (by rfl) T.len PySem.boot_len (pa_cons (pv 3) pa_nil)) (pe_glob (v := .int 20) (by rfl) hlong ⟨_, rfl⟩) (nomark _)) (pe_one (pe_callB (cr_all rfl) (by rfl) C.all (by decide +kernel) (pa_cons (pe_lc (own := [("sign", 6)]) (g := gName 6) rfl sc_size_of_pair.nd (pi_str (pv 3)) (blkOk_by (N := sc_size_of_pairN) (sc := defScope s_size_of_pair) (by decide +kernel)) (fun _ _ _ _ _ => pg_name (i := 6) sc_size_of_pair.nd rfl (Or.inl rfl)) (fun _ _ _ _ _ => pts_nil) (fun _ _ _ _ _ => (pe_cmpR op_in_sign (pv 6) (pv 0) (by rfl)))) pa_nil)))))
(pss_one (ps_ret (pe_ifExp (pt_val (pv 5)) (pe_op op_mul (pv 4) (pe_callB call_len (by rfl) T.len PySem.boot_len (pa_cons (pv 3) pa_nil))) pe_int)))))))), ?_⟩
  have zero : ∀ H', Same H H' → szP (sz j) d = 0 → Q (.int 0) H' := fun H' s e => by
    have z := q H' s
    rw [e] at z
    exact z
  refine ⟨v, rfl, v, d, "tuple", rfl, hd, .inl rfl, _, rfl, ?_⟩
  by_cases ht : isT "tuple" d = true
  rotate_left
  · rw [Bool.eq_false_iff.mpr ht]
    refine iteT (iteT (zero H (fun _ _ e => e) ?_))
    cases d with
    | tuple xs => exact absurd ((isT_tuple _).mpr ⟨xs, rfl⟩) ht
    | _ => rfl
  obtain ⟨ds, rfl⟩ := (isT_tuple d).mp ht
  rw [ht]
  refine iteF ?_
  cases hd with
  | @tup a xs _ hq g =>
  have hlen := g.len
  refine ⟨.ref a, rfl, a, xs, rfl, .inr hq, rfl, _, rfl, ?_⟩
  refine ite2 (fun h => zero H (fun _ _ e => e) ?_) (fun h => ?_)
  · have n2 : ds.length ≠ 2 := fun e => by
      have e' : (xs.length : Int) = 2 := by omega
      rw [e'] at h
      exact absurd h (by decide)
    exact szP_other (sz j) n2
  have hL : xs.length = 2 := by
    have : ¬ (V.int (xs.length : Int) ≠ V.int 2) := by simpa using h
    have : V.int (xs.length : Int) = V.int 2 := Classical.not_not.mp this
    have := V.int.inj this
    omega
  obtain ⟨vp, vt, rfl⟩ := two_of hL
  cases g with
  | @cons _ _ dp ds1 gp g1 =>
  cases g1 with
  | @cons _ _ dt ds2 gt g2 =>
  cases g2
  refine ⟨.ref a, rfl, a, _, rfl, hq, rfl, vp, _, rfl, vt, _, rfl, rfl, ?_⟩
  refine ⟨vt, rfl, vt, dt, rfl, gt, _, rfl, ?_⟩
  by_cases hn : isNum dt = true
  rotate_left
  · rw [Bool.eq_false_iff.mpr hn]
    refine iteT (iteT (zero H (fun _ _ e => e) ?_))
    cases dt with
    | int t => exact absurd ((isNum_iff _).mpr ⟨t, rfl⟩) hn
    | _ => rfl
  obtain ⟨t, rfl⟩ := (isNum_iff dt).mp hn
  rw [hn]
  refine iteF ?_
  cases gt
  have range : ¬ (1 ≤ t ∧ t ≤ 1000000000000000000) → Q (.int 0) H := fun h => zero H (fun _ _ e => e) (szT_out (sz j) dp h)
  refine ⟨.int t, rfl, 1, t, rfl, rfl, _, rfl, ?_⟩
  refine ite2 (fun h1 => ?_) (fun h1 => ⟨_, rfl, iteT (range fun h => h1 (decide_eq_true h.1))⟩)
  have h1 := of_decide_eq_true h1
  refine ⟨t, 1000000000000000000, rfl, rfl, _, rfl, ?_⟩
  refine ite2 (fun h2 => range fun h => ?_) (fun h2 => ?_)
  · have h2 : decide (t ≤ 1000000000000000000) = false := by simpa using h2
    exact absurd h.2 (of_decide_eq_false h2)
  have h2 : t ≤ 1000000000000000000 := by simpa using h2
  refine ⟨vp, rfl, vp, dp, "str", rfl, gp, .inr (.inl rfl), _, rfl, ?_⟩
  by_cases hs : isT "str" dp = true
  rotate_left
  · rw [Bool.eq_false_iff.mpr hs]
    refine iteT ?_
    have e : szP (sz j) (.tuple [dp, .int t]) = t.toNat * sz j dp := by
      refine (szT_in (sz j) dp ⟨h1, h2⟩).trans ?_
      cases dp with
      | str z => exact absurd ((isT_str _).mpr ⟨z, rfl⟩) hs
      | _ => rfl
    rw [e] at q
    refine ⟨.int t, rfl, .str alpha, rfl, vp, rfl, _, rfl, _, 1, rfl, rfl, vp, dp, ?_, gp, fun H' s => ?_⟩
    · show [V.str alpha, vp, V.int (4 - (j : Int) + 1)] = _
      rw [show (4 - (j : Int) + 1) = 5 - (j : Int) by omega]
    · refine ⟨t, (sz j dp : Int), rfl, rfl, .inl ⟨by omega, by omega⟩, ?_⟩
      have z := q H' s
      have e2 : ((t.toNat * sz j dp : Nat) : Int) = t * (sz j dp : Int) := by
        rw [Int.natCast_mul, Int.toNat_of_nonneg (by omega)]
      rw [e2] at z
      exact z
  obtain ⟨z, rfl⟩ := (isT_str dp).mp hs
  rw [hs]
  refine iteF ?_
  cases gp with
  | str _ hzl =>
  have e : szP (sz j) (.tuple [.str z, .int t]) = if z.length ≤ 20 ∧ ofL z = true then t.toNat * z.length else 0 := szT_in (sz j) (.str z) ⟨h1, h2⟩
  refine ⟨.str z, rfl, .str z, z.length, rfl, ⟨len_k hzl, rfl⟩, (z.length : Int), 20, rfl, rfl, _, rfl, ?_⟩
  have fin : ∀ H', Same H H' → ∀ b : Bool, (b = true ↔ (z.length ≤ 20 ∧ ofL z = true)) → Q (if b = true then .int (t * (z.length : Int)) else .int 0) H' := fun H' s b hb => by
    have k := q H' s
    rw [e] at k
    cases b with
    | true =>
      rw [if_pos (hb.mp rfl)] at k
      rw [if_pos rfl]
      have e2 : ((t.toNat * z.length : Nat) : Int) = t * (z.length : Int) := by
        rw [Int.natCast_mul, Int.toNat_of_nonneg (by omega)]
      rw [e2] at k
      exact k
    | false =>
      rw [if_neg (fun h => by cases hb.mpr h)] at k
      rw [if_neg (by decide)]
      exact k
  refine ite2 (fun h3 => ?_) (fun h3 => ?_)
  · have h3 := of_decide_eq_true h3
    refine ⟨.str z, rfl, z, rfl, fun D hD => lc_signs z (fun c => decide (c ∈ tl alpha)) (fun _ => rfl) (by omega) (fun c H' Q' k => ?_) ?_⟩
    · exact ⟨_, rfl, _, rfl, c, alpha, rfl, rfl, k⟩
    · refine ⟨D, _, rfl, .inl (.inl upd_same), ?_⟩
      rw [all_id, show ((tl z).all fun c => decide (c ∈ tl alpha)) = ofL z from rfl]
      refine ⟨_, rfl, _, rfl, ?_⟩
      have k := fin _ (same_new hD (.lst (((tl z).map fun c => decide (c ∈ tl alpha)).map V.bl))) (ofL z) ⟨fun h => ⟨by omega, h⟩, fun h => h.2⟩
      refine ite2 (fun h4 => ?_) (fun h4 => ?_)
      · refine ⟨.int t, rfl, .str z, rfl, .str z, z.length, rfl, ⟨len_k hzl, rfl⟩, t, (z.length : Int), rfl, rfl, .inl ⟨by omega, by omega⟩, ?_⟩
        rw [if_pos h4] at k
        exact k
      · rw [if_neg h4] at k
        exact k
  · refine ⟨_, rfl, _, rfl, iteF ?_⟩
    have k := fin H (fun _ _ e => e) false ⟨fun h => (by cases h), fun h => absurd (decide_eq_true (by omega)) h3⟩
    rw [if_neg (by decide)] at k
    exact k
end
end Fr
set_option Elab.async false
set_option linter.all false
set_option maxRecDepth 100000
set_option maxHeartbeats 1000000
namespace Fr
open PySem L2
/-! ### the whole size; check_far, far_length -/
def far (d : PyData) : Nat := if sz 4 d ≤ 1000000000000000000000000 then sz 4 d else 0
abbrev s_size_of_far : Stmt := top 12
abbrev sc_size_of_farN : List Str := ["symbols", "value", "size"]
theorem sc_size_of_far : FnScope sc_size_of_farN ["symbols", "value"] (defScope s_size_of_far) := ⟨rfl, rfl, rfl, by decide +kernel, rfl, by decide +kernel, by decide +kernel⟩
abbrev s_PassError_init : Stmt := inClass (top 1) 0
abbrev sc_PassError_initN : List Str := ["self", "value"]
theorem sc_PassError_init : FnScope sc_PassError_initN ["self", "value"] (defScope s_PassError_init) := ⟨rfl, rfl, rfl, by decide +kernel, rfl, by decide +kernel, by decide +kernel⟩
abbrev s_check_far : Stmt := top 15
abbrev sc_check_farN : List Str := ["symbols", "value"]
theorem sc_check_far : FnScope sc_check_farN ["symbols", "value"] (defScope s_check_far) := ⟨rfl, rfl, rfl, by decide +kernel, rfl, by decide +kernel, by decide +kernel⟩
abbrev s_far_length : Stmt := top 17
abbrev sc_far_lengthN : List Str := ["far"]
theorem sc_far_length : FnScope sc_far_lengthN ["far"] (defScope s_far_length) := ⟨rfl, rfl, rfl, by decide +kernel, rfl, by decide +kernel, by decide +kernel⟩
def spFar (K : PySem.W.Frag) : Sp := fun vs H Q _ => ∃ (v : V) (d : PyData), vs = [.str alpha, v] ∧ Dv K H v d ∧ ∀ H', Same H H' → Q (.int (far d : Nat)) H'
/-- the facts of the class BadFar -/
structure BadTxt (P : Program) (w : World) (K : PySem.W.Frag) (mg : Str → Option Value) (base : Heap) (CB fI : Addr) : Prop where
  ox : OexC K CB
  iC : PySem.W.findIn K (.ref CB) "__init__" = some (some (.ref fI))
  tI : PySem.W.typeIn K (.ref fI) = some (.type "function")
  nv : PySem.W.findIn K (.ref CB) "value" = some none
  mg : mg "BadFar" = some (.ref CB)
def spPassInit (K : PySem.W.Frag) : Sp := fun vs H Q _ => ∃ (a C : Addr) (v : V), vs = [.ref a, v] ∧ OexC K C ∧ PySem.W.findIn K (.ref C) "value" = some none ∧ H a = some (exo a C none) ∧
  ∀ dx, H dx = none → dx ≠ a → Q .non (upd (upd H dx (exd dx [("value", v)])) a (exo a C (some dx)))
/-- what a refused value is told by -/
def Refused (CB : Addr) (v : V) (H : Hp) (E : XK) : Prop := ∀ dd H', H dd = none → Same H H' → H' dd = some (.xd [("value", v)]) → E (.ref CB) (some dd) H'
def spCheck (K : PySem.W.Frag) (CB : Addr) : Sp := fun vs H Q E => ∃ (v : V) (d : PyData), vs = [.str alpha, v] ∧ Dv K H v d ∧ (far d ≠ 0 → ∀ H', Same H H' → Q .non H') ∧ (far d = 0 → Refused CB v H E)
def spLength (K : PySem.W.Frag) (CB : Addr) : Sp := fun vs H Q E => ∃ (v : V) (d : PyData), vs = [v] ∧ Dv K H v d ∧ (far d ≠ 0 → ∀ H', Same H H' → Q (.int (far d : Nat)) H') ∧ (far d = 0 → Refused CB v H E)
theorem Same.trans {H H1 H2 : Hp} (a : Same H H1) (b : Same H1 H2) : Same H H2 := fun c o h => b c o (a c o h)
section
variable {P : Program} {w : World} {K : PySem.W.Frag} {mg : Str → Option Value} {base : Heap}
theorem ok_tower {fA fP : Addr} {fdA fdP : FuncData} (FA : Fun K "size_at" "size_at" s_size_at fA fdA) (FP : Fun K "size_of_pair" "size_of_pair" s_size_of_pair fP fdP) (T : Bare mg) (C : Con K mg)
    (mA : mg "size_at" = some (.ref fA)) (kA : PySem.W.keepIn K (.ref fA) = true) (bA : Binds K fdA ["symbols", "value", "depth"] [])
    (mP : mg "size_of_pair" = some (.ref fP)) (kP : PySem.W.keepIn K (.ref fP) = true) (bP : Binds K fdP ["symbols", "pair", "depth"] [])
    (CN : Callee P w K mg base 1 "is_number" ["value"] (spNum K)) : FnOk P w K mg base CX0 10 fA fdA ["symbols", "value", "depth"] (spAt K 4) := by
  have A0 : FnOk P w K mg base CX0 2 fA fdA ["symbols", "value", "depth"] (spAt K 0) := ok_at (k := 0) (lev := 1) (spP := spNo) FA T C (by decide) (fun j e => by cases e) ⟨fP, fdP, never_ok, mP, kP, bP⟩
  have step : ∀ j lev, j ≤ 3 → 1 ≤ lev → FnOk P w K mg base CX0 lev fA fdA ["symbols", "value", "depth"] (spAt K j) → FnOk P w K mg base CX0 (lev + 2) fA fdA ["symbols", "value", "depth"] (spAt K (j + 1)) := fun j lev hj hl A =>
    ok_at (k := j + 1) (lev := lev + 1) (spP := spPair K j) FA T C (by omega) (fun j' e => by cases e; rfl) ⟨fP, fdP, ok_pair FP T C hl CN ⟨fA, fdA, A, mA, kA, bA⟩, mP, kP, bP⟩
  exact step 3 8 (by decide) (by decide) (step 2 6 (by decide) (by decide) (step 1 4 (by decide) (by decide) (step 0 2 (by decide) (by decide) A0)))
theorem ok_far {f : Addr} {fd : FuncData} (F : Fun K "size_of_far" "size_of_far" s_size_of_far f fd) (C : Con K mg) (CA : Callee P w K mg base 10 "size_at" ["symbols", "value", "depth"] (spAt K 4)) :
    FnOk P w K mg base CX0 11 f fd ["symbols", "value"] (spFar K) := by
  refine F.ok sc_size_of_far (fun vs H Q E h => ?_) (fun cdv A outer s H vs Q E hr h => ?_)
  · obtain ⟨v, d, rfl, _⟩ := h
    rfl
  obtain ⟨v, d, rfl, hd, q⟩ := h
  obtain ⟨t1, hsym⟩ := C.symbols
  refine ⟨_, (pss_cons (ps_set (i := 2) sc_size_of_far.nd rfl (Or.inl rfl) (pe_call CA.ok hr rfl CA.mg CA.kp CA.b .nil pass0 (pa_cons (pv 0) (pa_cons (pv 1) (pa_cons pe_int pa_nil)))))
(pss_one (ps_ret (pe_ifExp (pt_cmpR op_le (pv 2) (pe_glob (v := .int 1000000000000000000000000) (by rfl) hsym ⟨_, rfl⟩) (nomark _)) (pv 2) pe_int)))), ?_⟩
  refine ⟨_, rfl, v, rfl, v, d, rfl, hd, fun H1 s1 => ⟨_, rfl, _, _, rfl, rfl, _, rfl, ?_⟩⟩
  have z := q H1 s1
  unfold far at z
  refine ite2 (fun h => ?_) (fun h => ?_)
  · have h := of_decide_eq_true h
    rw [if_pos (by omega)] at z
    exact ⟨_, rfl, z⟩
  · have h : ¬ ((sz 4 d : Nat) : Int) ≤ 1000000000000000000000000 := fun e => h (decide_eq_true e)
    rw [if_neg (by omega)] at z
    exact z
theorem ok_pass_init {f : Addr} {fd : FuncData} (F : Fun K "__init__" "PassError.__init__" s_PassError_init f fd) : FnOk P w K mg base CX0 1 f fd ["self", "value"] (spPassInit K) := by
  refine F.ok sc_PassError_init (fun vs H Q E h => ?_) (fun cdv A outer s H vs Q E hr h => ?_)
  · obtain ⟨a, C, v, rfl, _⟩ := h
    rfl
  obtain ⟨a, C, v, rfl, T, nv, ha, q⟩ := h
  refine ⟨_, (pss_one (ps_ost (pv 0) (pv 1))), ?_⟩
  exact ⟨v, rfl, _, rfl, a, C, rfl, T, nv, .inl ⟨ha, fun dx n ne => q dx n ne⟩⟩
theorem ok_check {f CB fI : Addr} {fd fdI : FuncData} (F : Fun K "check_far" "check_far" s_check_far f fd) (TB : BadTxt P w K mg base CB fI) (OI : FnOk P w K mg base CX0 1 fI fdI ["self", "value"] (spPassInit K)) (bI : Binds K fdI ["self", "value"] [])
    (CF : Callee P w K mg base 11 "size_of_far" ["symbols", "value"] (spFar K)) : FnOk P w K mg base (L2.CX P w) 12 f fd ["symbols", "value"] (spCheck K CB) := by
  refine F.okX sc_check_far (fun vs H Q E h => ?_) (fun cdv A outer s H vs Q E hr h => ?_)
  · obtain ⟨v, d, rfl, _⟩ := h
    rfl
  obtain ⟨v, d, rfl, hd, q, e⟩ := h
  refine ⟨_, (pss_one (ps_if (pt_cmpR op_eq (pe_call CF.ok hr rfl CF.mg CF.kp CF.b .nil pass0 (pa_cons (pv 0) (pa_cons (pv 1) pa_nil))) pe_int (nomark _))
(pss_one (ps_raise rfl (takes_of rfl rfl rfl rfl) (pmk_oex TB.ox TB.iC TB.tI OI (hr.mono (by decide)) bI .nil pass0 rfl TB.mg (pa_cons (pv 1) pa_nil))))
pss_nil)), ?_⟩
  refine ⟨_, rfl, v, rfl, v, d, rfl, hd, fun H1 s1 => ⟨rfl, _, rfl, ?_⟩⟩
  refine ite2 (fun h => ?_) (fun h => ?_)
  · have h0 : far d = 0 := by
      have := of_decide_eq_true h
      have := V.int.inj this
      omega
    refine ⟨v, rfl, Nat.le_of_ble_eq_true rfl, fun a ha => ⟨a, CB, v, rfl, TB.ox, TB.nv, upd_same, fun dx n ne => ⟨rfl, dx, [("value", v)], upd_same, ?_, ?_, ?_⟩⟩⟩
    · rw [upd_ne ne, upd_same]
    · rw [upd_ne ne] at n
      exact n
    · rw [upd_ne ne] at n
      have nH : H dx = none := by
        cases z : H dx with
        | none => rfl
        | some o => rw [s1 _ _ z] at n; cases n
      refine e h0 dx _ nH (fun b o hb => ?_) upd_same
      have hb1 := s1 _ _ hb
      have n1 : b ≠ dx := ne_of_none hb1 n
      have n2 : b ≠ a := ne_of_none hb1 ha
      rw [upd_ne n1, del_ne n2, upd_ne n2, upd_ne n1, upd_ne n2]
      exact hb1
  · exact q (fun h0 => h (decide_eq_true (by rw [h0]; rfl))) H1 s1
theorem ok_length {f CB : Addr} {fd : FuncData} (F : Fun K "far_length" "far_length" s_far_length f fd) (C : Con K mg) {fC : Addr} {fdC : FuncData} (OC : FnOk P w K mg base (L2.CX P w) 12 fC fdC ["symbols", "value"] (spCheck K CB))
    (mC : mg "check_far" = some (.ref fC)) (kC : PySem.W.keepIn K (.ref fC) = true) (bC : Binds K fdC ["symbols", "value"] [])
    (CF : Callee P w K mg base 11 "size_of_far" ["symbols", "value"] (spFar K)) : FnOk P w K mg base (L2.CX P w) 13 f fd ["far"] (spLength K CB) := by
  refine F.okX sc_far_length (fun vs H Q E h => ?_) (fun cdv A outer s H vs Q E hr h => ?_)
  · obtain ⟨v, d, rfl, _⟩ := h
    rfl
  obtain ⟨v, d, rfl, hd, q, e⟩ := h
  obtain ⟨t1, hal⟩ := C.alpha
  refine ⟨_, (pss_cons (ps_expr (pe_call OC hr rfl mC kC bC .nil (passes_call (takes_of rfl rfl rfl rfl) (fun _ _ _ _ h => h)) (pa_cons (pe_glob (v := .str alpha) (by rfl) hal ⟨_, rfl⟩) (pa_cons (pv 0) pa_nil))))
(pss_one (ps_ret (pe_call CF.ok (hr.mono (by decide)) rfl CF.mg CF.kp CF.b .nil pass0 (pa_cons (pe_glob (v := .str alpha) (by rfl) hal ⟨_, rfl⟩) (pa_cons (pv 0) pa_nil)))))), ?_⟩
  refine ⟨v, rfl, v, d, rfl, hd, fun h0 H1 s1 => ?_, fun h0 => e h0⟩
  exact ⟨v, rfl, v, d, rfl, hd.same s1, fun H2 s2 => q h0 H2 (Same.trans s1 s2)⟩
end
end Fr
set_option Elab.async false
set_option linter.all false
set_option maxRecDepth 100000
set_option maxHeartbeats 1000000
namespace Fr
open PySem L2
/-! ### the law's own size -/
def lsV (n : Nat) : V := if n = 0 then .non else .int (n : Int)
def here (j : Nat) : PyData → Nat
  | .str z => if (1 ≤ z.length ∧ z.length ≤ 20) ∧ ofL z = true then z.length else 0
  | p => sz j p
theorem szQ_here (j : Nat) (t : Int) (p : PyData) : szQ (sz j) t p = t.toNat * here j p := by
  cases p with
  | str z =>
    show (if _ then _ else _) = t.toNat * (if _ then _ else _)
    by_cases h : z.length = 0
    · have n : ¬ ((1 ≤ z.length ∧ z.length ≤ 20) ∧ ofL z = true) := fun x => by
        have := x.1.1
        omega
      rw [if_neg n, h]
      split <;> simp
    · by_cases g : z.length ≤ 20 ∧ ofL z = true
      · rw [if_pos g, if_pos ⟨⟨by omega, g.1⟩, g.2⟩]
      · rw [if_neg g, if_neg fun x => g ⟨x.1.2, x.2⟩]
        rfl
  | _ => rfl
abbrev s__law_size : Stmt := top 23
abbrev sc__law_sizeN : List Str := ["_law_thing", "_law_deep", "_law_total", "_law_pair", "_law_size_here", "_law_times", "_law_sign"]
theorem sc__law_size : FnScope sc__law_sizeN ["_law_thing", "_law_deep"] (defScope s__law_size) := ⟨rfl, rfl, rfl, by decide +kernel, rfl, by decide +kernel, by decide +kernel⟩
def spSize (K : PySem.W.Frag) (k : Nat) : Sp := fun vs H Q _ => ∃ (v : V) (d : PyData), vs = [v, .int (k : Int)] ∧ Dv K H v d ∧ ∀ H', Same H H' → Q (lsV (sz k d)) H'
theorem ps_weak {X : Cx} {s : Stmt} {t t' : TS} (h : PS X s t) (i : ∀ D σ H, t' D σ H → t D σ H) : PS X s t' := ⟨fun pins s σ H D I q => h.run pins s σ H D I (i _ _ _ q)⟩
/-- the size at hand, behind what is said of a text -/
def tHere (K : PySem.W.Frag) (j : Nat) : TS := fun D σ H => ∃ (v0 v1 v2 : Option V) (a : Addr) (vp vt : V) (dp : PyData), σ = [v0, v1, v2, some (.ref a), some (lsV (sz j dp)), some vt, none] ∧ SqT K H a [vp, vt] ∧ Dv K H vp dp ∧
  ∀ H', Same H H' → D.nx [v0, v1, v2, some (.ref a), some (lsV (here j dp)), some vt, none] H'
theorem sum_take {l : List PyData} {f : PyData → Nat} {i : Nat} {d : PyData} (h : l[i]? = some d) : ((l.take (i + 1)).map f).sum = ((l.take i).map f).sum + f d := by
  rw [take_more h, List.map_append, List.sum_append]
  simp
section
variable {P : Program} {w : World} {K : PySem.W.Frag} {mg : Str → Option Value} {base : Heap}
theorem ok_lsize {f : Addr} {fd : FuncData} {k lev : Nat} {spP : Sp} (F : Fun K "_law_size" "_law_size" s__law_size f fd) (T : Bare mg) (C : Con K mg) (hP : ∀ j, k = j + 1 → spP = spSize K j)
    (CP : Callee P w K mg base lev "_law_size" ["_law_thing", "_law_deep"] spP) : FnOk P w K mg base CX0 (lev + 1) f fd ["_law_thing", "_law_deep"] (spSize K k) := by
  refine F.ok sc__law_size (fun vs H Q E h => ?_) (fun cdv A outer s H vs Q E hr h => ?_)
  · obtain ⟨v, d, rfl, _⟩ := h
    rfl
  obtain ⟨v, d, rfl, hd, q⟩ := h
  refine ⟨_, (pss_cons (ps_if (PW.pt (pw_or (pt_cmpR op_eq (pv 1) pe_int (nomark _)) (pw_or (pt_not (pt_val (pe_callB call_isD (by rfl) C.isi boot_isi (pa_cons (pv 0) (pa_cons (pe_bltn (v := .ty "tuple") (u := .type "tuple") (by rfl) T.tuple (by decide +kernel) rfl) pa_nil))))) (pw_or1 (pt_not (pt_chain op_le op_le pe_int (pe_callB call_len_seq (by rfl) T.len PySem.boot_len (pa_cons (pv 0) pa_nil)) pe_int))))))
(pss_one (ps_ret pe_non))
pss_nil)
(pss_cons (ps_set (i := 2) sc__law_size.nd rfl (Or.inl rfl) pe_int)
(pss_cons (ps_for PassesOwn.never rfl (pi_tup (pv 0)) (pg_name (i := 3) sc__law_size.nd rfl (Or.inl rfl))
(pss_cons (ps_if (PW.pt (pw_or (pt_not (pt_val (pe_callB call_isD (by rfl) C.isi boot_isi (pa_cons (pv 3) (pa_cons (pe_bltn (v := .ty "tuple") (u := .type "tuple") (by rfl) T.tuple (by decide +kernel) rfl) pa_nil))))) (pw_or1 (pt_cmpR op_ne (pe_callB call_len_seq (by rfl) T.len PySem.boot_len (pa_cons (pv 3) pa_nil)) pe_int (nomark _)))))
(pss_one (ps_ret pe_non))
pss_nil)
(pss_cons (ps_par (i := 4) (j := 5) (by rfl) sc__law_size.nd rfl rfl (by decide) rfl rfl (pa_cons (pe_call CP.ok hr rfl CP.mg CP.kp CP.b .nil pass0 (pa_cons (pe_ix ix_tup (pv 3) pe_int (fun _ _ => rfl)) (pa_cons (pe_op op_sub (pv 1) pe_int) pa_nil))) (pa_cons (pe_ix ix_tup (pv 3) pe_int (fun _ _ => rfl)) pa_nil)) (by rfl))
(pss_cons (ps_weak (t' := tHere K (k - 1)) (ps_if (PW.pt (pw_and (pt_val (pe_callB call_isD (by rfl) C.isi boot_isi (pa_cons (pe_ix ix_tup (pv 3) pe_int (fun _ _ => rfl)) (pa_cons (pe_bltn (v := .ty "str") (u := .type "str") (by rfl) T.str (by decide +kernel) rfl) pa_nil)))) (pw_and1 (pt_chain op_le op_le pe_int (pe_callB call_len (by rfl) T.len PySem.boot_len (pa_cons (pe_ix ix_tup (pv 3) pe_int (fun _ _ => rfl)) pa_nil)) pe_int))))
(pss_one (ps_set (i := 4) sc__law_size.nd rfl (Or.inl rfl) (pe_ifExp (pt_val (pe_callB (cr_all rfl) (by rfl) C.all (by decide +kernel) (pa_cons (pe_lc (own := [("_law_sign", 6)]) (g := gName 6) rfl sc__law_size.nd (pi_str (pe_ix ix_tup (pv 3) pe_int (fun _ _ => rfl))) (blkOk_by (N := sc__law_sizeN) (sc := defScope s__law_size) (by decide +kernel)) (fun _ _ _ _ _ => pg_name (i := 6) sc__law_size.nd rfl (Or.inl rfl)) (fun _ _ _ _ _ => pts_nil) (fun _ _ _ _ _ => (pe_cmpR op_in_sign (pv 6) pe_str (by rfl)))) pa_nil))) (pe_callB call_len (by rfl) T.len PySem.boot_len (pa_cons (pe_ix ix_tup (pv 3) pe_int (fun _ _ => rfl)) pa_nil)) pe_non)))
pss_nil) (fun D σ H h => by
    obtain ⟨v0, v1, v2, a, vp, vt, dp, rfl, hq, gp, q⟩ := h
    refine ⟨.ref a, rfl, a, _, 0, vp, rfl, rfl, hq, rfl, vp, dp, "str", rfl, gp, .inr (.inl rfl), _, rfl, ?_⟩
    by_cases hs : isT "str" dp = true
    rotate_left
    · rw [Bool.eq_false_iff.mpr hs]
      have e : here (k - 1) dp = sz (k - 1) dp := by
        cases dp with
        | str z => exact absurd ((isT_str _).mpr ⟨z, rfl⟩) hs
        | _ => rfl
      rw [e] at q
      exact q H (fun _ _ e => e)
    obtain ⟨z, rfl⟩ := (isT_str dp).mp hs
    rw [hs]
    have zero : sz (k - 1) (.str z) = 0 := by
      cases k - 1 <;> rfl
    cases gp with
    | str _ hzl =>
    have out : ¬ ((1 ≤ z.length ∧ z.length ≤ 20) ∧ ofL z = true) → here (k - 1) (.str z) = 0 := fun h => if_neg h
    refine iteT ?_
    refine ⟨.ref a, rfl, a, _, 0, .str z, rfl, rfl, hq, rfl, .str z, z.length, rfl, ⟨len_k hzl, rfl⟩, 1, (z.length : Int), rfl, rfl, _, rfl, ?_⟩
    have idle : ¬ (1 ≤ z.length ∧ z.length ≤ 20) → D.nx [v0, v1, v2, some (.ref a), some (lsV (sz (k - 1) (.str z))), some vt, none] H := fun h => by
      have z' := q H (fun _ _ e => e)
      rw [out fun x => h x.1] at z'
      rw [zero]
      exact z'
    refine ite2 (fun h1 => ?_) (fun h1 => ⟨_, rfl, idle fun h => h1 (decide_eq_true (by omega))⟩)
    have h1 := of_decide_eq_true h1
    refine ⟨(z.length : Int), 20, rfl, rfl, _, rfl, ?_⟩
    refine ite2 (fun h2 => ?_) (fun h2 => idle fun h => h2 (decide_eq_true (by omega)))
    have h2 := of_decide_eq_true h2
    refine ⟨.ref a, rfl, a, _, 0, .str z, rfl, rfl, hq, rfl, z, rfl, fun A hA => lc_signs z (fun c => decide (c ∈ tl alpha)) (fun _ => rfl) (by omega) (fun c H' Q' k => ?_) ?_⟩
    · exact ⟨_, rfl, c, alpha, rfl, rfl, k⟩
    · refine ⟨A, _, rfl, .inl (.inl upd_same), _, rfl, ?_⟩
      rw [all_id, show ((tl z).all fun c => decide (c ∈ tl alpha)) = ofL z from rfl]
      have kk := q _ (same_new hA (.lst (((tl z).map fun c => decide (c ∈ tl alpha)).map V.bl)))
      refine ite2 (fun h4 => ?_) (fun h4 => ?_)
      · refine ⟨.ref a, rfl, a, _, 0, .str z, rfl, rfl, same_sqT (same_new hA _) hq, rfl, .str z, z.length, rfl, ⟨len_k hzl, rfl⟩, ?_⟩
        have e : here (k - 1) (.str z) = z.length := if_pos ⟨⟨by omega, by omega⟩, h4⟩
        rw [e] at kk
        unfold lsV at kk
        rw [if_neg (by omega)] at kk
        exact kk
      · rw [out fun x => h4 x.2] at kk
        exact kk))
(pss_cons (ps_if (PW.pt (pw_or (pt_not (pt_val (pe_callB call_isD (by rfl) C.isi boot_isi (pa_cons (pv 5) (pa_cons (pe_bltn (v := .ty "int") (u := .type "int") (by rfl) T.int (by decide +kernel) rfl) pa_nil))))) (pw_or (pt_val (pe_callB call_isD (by rfl) C.isi boot_isi (pa_cons (pv 5) (pa_cons (pe_bltn (v := .ty "bool") (u := .type "bool") (by rfl) C.bool (by decide +kernel) rfl) pa_nil)))) (pw_or (pt_not (pt_chain op_le op_le pe_int (pv 5) (pe_op op_pow pe_int pe_int))) (pw_or1 (pt_cmpR op_isN (pv 4) pe_non (nomark _)))))))
(pss_one (ps_ret pe_non))
pss_nil)
(pss_one (ps_set (i := 2) sc__law_size.nd rfl (Or.inl rfl) (pe_op op_add (pv 2) (pe_op op_mul (pv 4) (pv 5))))))))))
(pss_one (ps_ret (pv 2)))))), ?_⟩
  cases k with
  | zero =>
    have z := q H (fun _ _ e => e)
    rw [sz_zero] at z
    exact ⟨_, rfl, rfl, _, rfl, iteT (iteT z)⟩
  | succ j =>
    refine ⟨_, rfl, rfl, _, rfl, ?_⟩
    refine ite2 (fun h => ?_) (fun h => ?_)
    · have h := V.int.inj (of_decide_eq_true h)
      omega
    clear h
    refine ⟨v, rfl, v, d, "tuple", rfl, hd, .inl rfl, _, rfl, ?_⟩
    have zero : ∀ H', Same H H' → sz (j + 1) d = 0 → Q .non H' := fun H' s1 e => by
      have z := q H' s1
      rw [e] at z
      exact z
    by_cases ht : isT "tuple" d = true
    rotate_left
    · rw [Bool.eq_false_iff.mpr ht]
      refine iteT (iteT (zero H (fun _ _ e => e) ?_))
      cases d with
      | tuple xs => exact absurd ((isT_tuple _).mpr ⟨xs, rfl⟩) ht
      | _ => rfl
    obtain ⟨ds, rfl⟩ := (isT_tuple d).mp ht
    rw [ht]
    refine iteF ?_
    cases hd with
    | @tup a xs _ hq g =>
    have hlen := g.len
    refine ⟨.ref a, rfl, a, xs, rfl, .inr hq, 1, (xs.length : Int), rfl, rfl, _, rfl, ?_⟩
    have short : ¬ (1 ≤ ds.length ∧ ds.length ≤ 6) → Q .non H := fun h => zero H (fun _ _ e => e) (by show (if _ then _ else _) = 0; rw [if_neg h])
    refine ite2 (fun h1 => ?_) (fun h1 => ?_)
    rotate_left
    · refine ⟨_, rfl, iteT (short fun h => h1 (decide_eq_true ?_))⟩
      omega
    have h1 := of_decide_eq_true h1
    refine ⟨(xs.length : Int), 6, rfl, rfl, _, rfl, ?_⟩
    refine ite2 (fun h2 => short fun h => ?_) (fun h2 => ?_)
    · have h2 : decide ((xs.length : Int) ≤ 6) = false := by simpa using h2
      exact absurd (of_decide_eq_false h2) (by omega)
    have h2 : (xs.length : Int) ≤ 6 := by simpa using h2
    have hsP := hP j rfl
    subst hsP
    have sz1 : sz (j + 1) (.tuple ds) = if 0 ∈ ds.map (szP (sz j)) then 0 else (ds.map (szP (sz j))).sum := by
      show (if _ then _ else _) = _
      rw [if_pos ⟨by omega, by omega⟩]
    refine ⟨.ref a, rfl, a, rfl, ⟨_, hq⟩, for_tup (xs := xs) (fun i σ H' => ∃ x3 x4 x5 : Option V, σ = [some (.ref a), some (.int ((j + 1 : Nat) : Int)), some (.int ((((ds.take i).map (szP (sz j))).sum : Nat) : Int)), x3, x4, x5, none] ∧
      0 ∉ (ds.take i).map (szP (sz j)) ∧ Same H H') ?_ ?_ ?_ ?_⟩
    · exact ⟨_, _, _, rfl, List.not_mem_nil, fun _ _ e => e⟩
    · rintro i σ H' _ ⟨_, _, _, _, _, s1⟩
      exact same_sqT s1 hq
    · rintro i x σ H' hx ⟨x3, x4, x5, rfl, hn0, s1⟩
      obtain ⟨d, hdi, hdx⟩ := g.get hx
      have hmem : d ∈ ds := List.mem_of_getElem? hdi
      have zero : ∀ H2, Same H' H2 → szP (sz j) d = 0 → Q .non H2 := fun H2 s2 e => by
        refine zero H2 (Same.trans s1 s2) ?_
        rw [sz1, if_pos (List.mem_map.mpr ⟨d, hmem, e⟩)]
      have hdx := hdx.same s1
      refine ⟨x, rfl, x, d, "tuple", rfl, hdx, .inl rfl, _, rfl, ?_⟩
      by_cases ht : isT "tuple" d = true
      rotate_left
      · rw [Bool.eq_false_iff.mpr ht]
        refine iteT (iteT (zero H' (fun _ _ e => e) ?_))
        cases d with
        | tuple xs => exact absurd ((isT_tuple _).mpr ⟨xs, rfl⟩) ht
        | _ => rfl
      obtain ⟨es, rfl⟩ := (isT_tuple d).mp ht
      rw [ht]
      refine iteF ?_
      cases hdx with
      | @tup b ys _ hq2 g2 =>
      have hl2 := g2.len
      refine ⟨.ref b, rfl, b, ys, rfl, .inr hq2, rfl, _, rfl, ?_⟩
      refine ite2 (fun h => zero H' (fun _ _ e => e) ?_) (fun h => ?_)
      · have n2 : es.length ≠ 2 := fun e => by
          have e' : (ys.length : Int) = 2 := by omega
          rw [e'] at h
          exact absurd h (by decide)
        exact szP_other (sz j) n2
      have hL : ys.length = 2 := by
        have : ¬ (V.int (ys.length : Int) ≠ V.int 2) := by simpa using h
        have : V.int (ys.length : Int) = V.int 2 := Classical.not_not.mp this
        have := V.int.inj this
        omega
      obtain ⟨vp, vt, rfl⟩ := two_of hL
      cases g2 with
      | @cons _ _ dp ds1 gp g1 =>
      cases g1 with
      | @cons _ _ dt ds2 gt g2 =>
      cases g2
      refine ⟨.ref b, rfl, b, _, 0, vp, rfl, rfl, hq2, rfl, _, rfl, _, 1, rfl, rfl, vp, dp, ?_, gp, fun H2 s2 => ?_⟩
      · show [vp, V.int (((j + 1 : Nat) : Int) - 1)] = _
        rw [show ((j + 1 : Nat) : Int) - 1 = (j : Int) by omega]
      have hq3 := same_sqT s2 hq2
      refine ⟨.ref b, rfl, b, _, 1, vt, rfl, rfl, hq3, rfl, _, _, rfl, ?_⟩
      refine ⟨_, _, _, b, vp, vt, dp, rfl, hq3, gp.same s2, fun H3 s3 => ?_⟩
      have s03 : Same H' H3 := Same.trans s2 s3
      have gt3 := gt.same s03
      have bad : szT (sz j) dp dt = 0 → Q .non H3 := fun e => zero H3 s03 e
      refine ⟨vt, rfl, vt, dt, "int", rfl, gt3, .inr (.inr (.inl rfl)), _, rfl, ?_⟩
      by_cases hn : isNum dt = true
      rotate_left
      · have b0 : szT (sz j) dp dt = 0 := by
          cases dt with
          | int t => exact absurd ((isNum_iff _).mpr ⟨t, rfl⟩) hn
          | _ => rfl
        unfold isNum at hn
        cases e1 : isT "int" dt with
        | false => exact iteT (iteT (bad b0))
        | true =>
          rw [e1] at hn
          have e2 : isT "bool" dt = true := by
            cases e : isT "bool" dt with
            | true => rfl
            | false => rw [e] at hn; exact absurd rfl hn
          refine iteF ⟨vt, rfl, vt, dt, "bool", rfl, gt3, .inr (.inr (.inr rfl)), _, rfl, ?_⟩
          rw [e2]
          exact iteT (iteT (bad b0))
      have hn' := hn
      obtain ⟨t, rfl⟩ := (isNum_iff dt).mp hn
      unfold isNum at hn'
      rw [(Bool.and_eq_true_iff.mp hn').1]
      refine iteF ⟨vt, rfl, vt, _, "bool", rfl, gt3, .inr (.inr (.inr rfl)), _, rfl, ?_⟩
      have e2 : isT "bool" (.int t) = false := by
        have := (Bool.and_eq_true_iff.mp hn').2
        cases e : isT "bool" (.int t) with
        | false => rfl
        | true => rw [e] at this; cases this
      rw [e2]
      cases gt3
      have range : ¬ (1 ≤ t ∧ t ≤ 1000000000000000000) → Q .non H3 := fun h => bad (szT_out (sz j) dp h)
      refine iteF ⟨.int t, rfl, 1, t, rfl, rfl, _, rfl, ?_⟩
      refine ite2 (fun h1 => ?_) (fun h1 => ⟨_, rfl, iteT (iteT (range fun h => h1 (decide_eq_true h.1)))⟩)
      have h1 := of_decide_eq_true h1
      refine ⟨10, 18, rfl, rfl, ⟨by decide, by decide, by decide⟩, t, _, rfl, rfl, _, rfl, ?_⟩
      have e18 : (10 : Int) ^ (18 : Int).toNat = 1000000000000000000 := by decide +kernel
      rw [e18]
      cases e3 : decide (t ≤ 1000000000000000000) with
      | false => exact iteT (iteT (range fun h => by rw [decide_eq_true h.2] at e3; cases e3))
      | true =>
      have h2 := of_decide_eq_true e3
      refine iteF ?_
      have szt : szP (sz j) (.tuple [dp, .int t]) = t.toNat * here j dp := (szT_in (sz j) dp ⟨h1, h2⟩).trans (szQ_here j t dp)
      refine ⟨_, rfl, rfl, _, rfl, ?_⟩
      by_cases h0 : here j dp = 0
      · have : lsV (here (j + 1 - 1) dp) = .non := by show lsV (here j dp) = _; rw [h0]; rfl
        rw [this]
        refine iteT (zero H3 s03 ?_)
        rw [szt, h0, Nat.mul_zero]
      have : lsV (here (j + 1 - 1) dp) = .int ((here j dp : Nat) : Int) := if_neg h0
      rw [this]
      refine iteF ?_
      refine ⟨_, rfl, _, rfl, _, rfl, _, t, rfl, rfl, .inr ⟨by omega, by omega⟩, _, _, rfl, rfl, ?_⟩
      refine ⟨some (.ref b), some (.int ((here j dp : Nat) : Int)), some (.int t), ?_, ?_, Same.trans s1 s03⟩
      · have e4 : ((t.toNat * here j dp : Nat) : Int) = (here j dp : Int) * t := by
          rw [Int.natCast_mul, Int.toNat_of_nonneg (by omega), Int.mul_comm]
        have e5 : ((((ds.take (i + 1)).map (szP (sz j))).sum : Nat) : Int) = (((ds.take i).map (szP (sz j))).sum : Nat) + (here j dp : Int) * t := by rw [sum_take hdi, szt, Int.natCast_add, e4]
        rw [e5]
        rfl
      · rw [take_more hdi, List.map_append, List.mem_append]
        rintro (h | h)
        · exact hn0 h
        · rw [List.map_cons, szt] at h
          have := List.mem_singleton.mp h
          have pos : 0 < t.toNat * here j dp := Nat.mul_pos (by omega) (by omega)
          omega
    · rintro σ H' ⟨x3, x4, x5, rfl, hn0, s1⟩
      refine ⟨_, rfl, ?_⟩
      rw [hlen, List.take_length] at hn0 ⊢
      have z := q H' s1
      rw [sz1, if_neg hn0] at z
      have pos : (ds.map (szP (sz j))).sum ≠ 0 := fun e => by
        cases ds with
        | nil =>
          rw [List.length_nil] at hlen
          omega
        | cons d ds =>
          rw [List.map_cons] at e hn0
          rw [List.sum_cons] at e
          exact hn0 (by rw [show szP (sz j) d = 0 from by omega]; exact List.mem_cons_self)
      unfold lsV at z
      rw [if_neg pos] at z
      exact z
end
end Fr
set_option Elab.async false
set_option linter.all false
set_option maxRecDepth 100000
set_option maxHeartbeats 2000000
namespace Fr
open PySem L2
abbrev s__law_take : Stmt := top 20
abbrev sc__law_takeN : List Str := ["_law_pot", "_law_upto", "_law_digit", "_law_prime", "_law_mixed"]
theorem sc__law_take : FnScope sc__law_takeN ["_law_pot", "_law_upto"] (defScope s__law_take) := ⟨rfl, rfl, rfl, by decide +kernel, rfl, by decide +kernel, by decide +kernel⟩
/-- a pot: what is left of the cell, a number, how many were taken -/
structure Pot (H : Hp) (p : Addr) (n : Nat) : Prop where
  at_ : ∃ o b c : Int, H p = some (.lst [.int o, .int b, .int c]) ∧ 0 ≤ o ∧ 0 ≤ b ∧ b < 2305843009213693952 ∧ 0 ≤ c ∧ c ≤ (n : Int)
theorem Pot.more {H : Hp} {p : Addr} {n m : Nat} (h : Pot H p n) (l : n ≤ m) : Pot H p m := by
  obtain ⟨o, b, c, e, h1, h2, h3, h4, h5⟩ := h
  exact ⟨o, b, c, e, h1, h2, h3, h4, by omega⟩
theorem Pot.same {H H' : Hp} {p : Addr} {n : Nat} (h : Pot H p n) (s : Same H H') : Pot H' p n := by
  obtain ⟨o, b, c, e, r⟩ := h
  exact ⟨o, b, c, s _ _ e, r⟩
def spTake : Sp := fun vs H Q _ => ∃ (p : Addr) (u : Int) (n : Nat), vs = [.ref p, .int u] ∧ Pot H p n ∧ n < 1000000 ∧ 0 < u ∧ u < 1000 ∧
  ∀ (d : Int) (H' : Hp), 0 ≤ d → d < u → Pot H' p (n + 1) → But p H H' → Q (.int d) H'
theorem at3_0 (x y z : V) : atI [x, y, z] 0 = some x := rfl
theorem at3_1 (x y z : V) : atI [x, y, z] 1 = some y := rfl
theorem at3_2 (x y z : V) : atI [x, y, z] 2 = some z := rfl
theorem five {i : Int} (h0 : 0 ≤ i) (h1 : i < 5) : ∃ v : Int, atI ([.int 2147483647, .int 2147483629, .int 2147483587, .int 2147483579, .int 2147483563] : List V) i = some (.int v) ∧ 0 < v ∧ v ≤ 2147483647 := by
  have h : i = 0 ∨ i = 1 ∨ i = 2 ∨ i = 3 ∨ i = 4 := by omega
  rcases h with rfl | rfl | rfl | rfl | rfl
  · exact ⟨2147483647, rfl, by decide, by decide⟩
  · exact ⟨2147483629, rfl, by decide, by decide⟩
  · exact ⟨2147483587, rfl, by decide, by decide⟩
  · exact ⟨2147483579, rfl, by decide, by decide⟩
  · exact ⟨2147483563, rfl, by decide, by decide⟩
abbrev s__law_of : Stmt := top 21
abbrev sc__law_ofN : List Str := ["_law_pot", "_law_some"]
theorem sc__law_of : FnScope sc__law_ofN ["_law_pot", "_law_some"] (defScope s__law_of) := ⟨rfl, rfl, rfl, by decide +kernel, rfl, by decide +kernel, by decide +kernel⟩
abbrev s__law_pot_of : Stmt := top 19
abbrev sc__law_pot_ofN : List Str := ["_law_script", "_law_k", "_law_cell", "_law_own"]
theorem sc__law_pot_of : FnScope sc__law_pot_ofN ["_law_script", "_law_k"] (defScope s__law_pot_of) := ⟨rfl, rfl, rfl, by decide +kernel, rfl, by decide +kernel, by decide +kernel⟩
section
variable {P : Program} {w : World} {K : PySem.W.Frag} {mg : Str → Option Value} {base : Heap}
theorem ok_take {f : Addr} {fd : FuncData} (F : Fun K "_law_take" "_law_take" s__law_take f fd) (T : Bare mg) : FnOk P w K mg base CX0 1 f fd ["_law_pot", "_law_upto"] spTake := by
  refine F.ok sc__law_take (fun vs H Q E h => ?_) (fun cdv A outer s H vs Q E hr h => ?_)
  · obtain ⟨p, u, n, rfl, _⟩ := h
    rfl
  obtain ⟨p, u, n, rfl, ⟨o, b, c, hp, o0, b0, b1, c0, c1⟩, hn, u0, u1, q⟩ := h
  refine ⟨_, (pss_cons (ps_if (pt_cmpR op_gt (pe_ix ix_list (pv 0) pe_int (fun _ _ => rfl)) pe_int (nomark _))
(pss_cons (ps_set (i := 2) sc__law_take.nd rfl (Or.inl rfl) (pe_op op_mod (pe_callTy call_int1 (by rfl) T.int (by decide +kernel) (pa_cons (pe_ix ix_list (pv 0) pe_int (fun _ _ => rfl)) pa_nil)) (pv 1)))
(pss_cons (ps_asg (pe_op op_fdiv (pe_ix ix_list (pv 0) pe_int (fun _ _ => rfl)) (pv 1)) (pg_sub (pv 0) pe_int set_list))
(pss_one (ps_ret (pv 2)))))
pss_nil)
(pss_cons (ps_asg (pe_op op_add (pe_ix ix_list (pv 0) pe_int (fun _ _ => rfl)) pe_int) (pg_sub (pv 0) pe_int set_list))
(pss_cons (ps_set (i := 3) sc__law_take.nd rfl (Or.inl rfl) (pe_ix ix_list (pe_lst (pa_cons pe_int (pa_cons pe_int (pa_cons pe_int (pa_cons pe_int (pa_cons pe_int pa_nil)))))) (pe_op op_mod (pe_callTy call_int1 (by rfl) T.int (by decide +kernel) (pa_cons (pe_ix ix_list (pv 0) pe_int (fun _ _ => rfl)) pa_nil)) pe_int) (fun _ _ => rfl)))
(pss_cons (ps_set (i := 4) sc__law_take.nd rfl (Or.inl rfl) (pe_op op_mod (pe_callTy call_int1 (by rfl) T.int (by decide +kernel) (pa_cons (pe_op op_pow (pe_op op_add (pe_op op_add (pe_ix ix_list (pv 0) pe_int (fun _ _ => rfl)) (pe_op op_mul (pe_op op_mul pe_int (pe_ix ix_list (pv 0) pe_int (fun _ _ => rfl))) (pe_ix ix_list (pv 0) pe_int (fun _ _ => rfl)))) pe_int) pe_int) pa_nil)) (pv 3)))
(pss_one (ps_ret (pe_op op_mod (pe_callTy call_int1 (by rfl) T.int (by decide +kernel) (pa_cons (pe_op op_fdiv (pe_op op_mul (pv 4) (pe_op op_add (pe_op op_mod (pe_callTy call_int1 (by rfl) T.int (by decide +kernel) (pa_cons (pv 4) pa_nil)) pe_int) (pe_op op_mul pe_int (pe_ix ix_list (pv 0) pe_int (fun _ _ => rfl))))) pe_int) pa_nil)) (pv 1)))))))), ?_⟩
  have hS : SqL K H p [.int o, .int b, .int c] := .inl (.inl hp)
  -- if pot[0] > 0
  refine ⟨.ref p, rfl, p, _, 0, _, rfl, rfl, hS, rfl, o, 0, rfl, rfl, _, rfl, ?_⟩
  refine ite2 (fun h => ?_) (fun h => ?_)
  · have ho : (0 : Int) < o := of_decide_eq_true h
    -- digit = int(pot[0]) % upto
    refine ⟨.ref p, rfl, p, _, 0, _, rfl, rfl, hS, rfl, .inl ⟨o, rfl, ?_⟩⟩
    refine ⟨.int u, rfl, o, u, rfl, rfl, u0, ?_⟩
    -- pot[0] = pot[0] // upto
    refine ⟨.ref p, rfl, p, _, 0, _, rfl, rfl, hS, rfl, .int u, rfl, o, u, rfl, rfl, ⟨u0, by omega⟩, ?_⟩
    refine ⟨.ref p, rfl, p, _, 0, 0, rfl, rfl, hp, rfl, ?_⟩
    refine ⟨_, rfl, ?_⟩
    refine q (o % u) _ (Int.emod_nonneg _ (by omega)) (Int.emod_lt_of_pos _ u0) ⟨o / u, b, c, upd_same, Int.ediv_nonneg (by omega) (by omega), b0, b1, c0, by omega⟩ But.upd
  · -- pot[2] = pot[2] + 1
    refine ⟨.ref p, rfl, p, _, 2, _, rfl, rfl, hS, rfl, c, 1, rfl, rfl, .ref p, rfl, p, _, 2, 2, rfl, rfl, hp, rfl, ?_⟩
    have hp2 : (upd H p (.lst [.int o, .int b, .int (c + 1)])) p = some (.lst [.int o, .int b, .int (c + 1)]) := upd_same
    have hS2 : SqL K (upd H p (.lst [.int o, .int b, .int (c + 1)])) p [.int o, .int b, .int (c + 1)] := .inl (.inl hp2)
    -- prime = [..][int(pot[2]) % 5]
    refine ⟨small (by show 5 ≤ 1000; decide), fun l hl => ?_⟩
    have npl : p ≠ l := ne_of_none hp2 hl
    have e1 : ∀ o', upd (upd H p (.lst [.int o, .int b, .int (c + 1)])) l o' p = some (.lst [.int o, .int b, .int (c + 1)]) := fun o' => by rw [upd_ne npl]; exact hp2
    obtain ⟨v, hv, v0, v1⟩ := five (i := (c + 1) % 5) (Int.emod_nonneg _ (by decide)) (Int.emod_lt_of_pos _ (by decide))
    refine ⟨.ref p, rfl, p, _, 2, _, rfl, rfl, .inl (.inl (e1 _)), rfl, .inl ⟨c + 1, rfl, ?_⟩⟩
    refine ⟨c + 1, 5, rfl, rfl, (by show (0 : Int) < 5; decide), l, _, _, _, rfl, rfl, .inl (.inl upd_same), hv, ?_⟩
    -- mixed
    have sz : (70001 * (c + 1)) * (c + 1) ≤ 70001 * 1000001 * 1000001 := by
      have a1 : 0 ≤ c + 1 := by omega
      have a2 : c + 1 ≤ 1000001 := by omega
      have a3 : 70001 * (c + 1) ≤ 70001 * 1000001 := by omega
      exact Int.mul_le_mul a3 a2 a1 (by decide)
    have sz0 : 0 ≤ (70001 * (c + 1)) * (c + 1) := Int.mul_nonneg (by omega) (by omega)
    refine ⟨.ref p, rfl, p, _, 1, _, rfl, rfl, .inl (.inl (e1 _)), rfl, ?_⟩
    refine ⟨.ref p, rfl, p, _, 2, _, rfl, rfl, .inl (.inl (e1 _)), rfl, 70001, c + 1, rfl, rfl, .inl ⟨by decide, by decide⟩, ?_⟩
    refine ⟨.ref p, rfl, p, _, 2, _, rfl, rfl, .inl (.inl (e1 _)), rfl, 70001 * (c + 1), c + 1, rfl, rfl, .inl ⟨by omega, by omega⟩, ?_⟩
    refine ⟨b, 70001 * (c + 1) * (c + 1), rfl, rfl, b + 70001 * (c + 1) * (c + 1), 53, rfl, rfl, ?_⟩
    refine ⟨b + 70001 * (c + 1) * (c + 1) + 53, 3, rfl, rfl, ⟨by decide, by decide, by omega⟩, .inl ⟨_, rfl, ?_⟩⟩
    refine ⟨.int v, rfl, _, v, rfl, rfl, v0, ?_⟩
    dsimp only
    generalize em : (b + 70001 * (c + 1) * (c + 1) + 53) ^ (3 : Int).toNat % v = m
    have m0 : 0 ≤ m := by rw [← em]; exact Int.emod_nonneg _ (by omega)
    have m1 : m < 2147483647 := by
      have := Int.emod_lt_of_pos ((b + 70001 * (c + 1) * (c + 1) + 53) ^ (3 : Int).toNat) v0
      omega
    -- return
    refine ⟨.int m, rfl, .int m, rfl, .inl ⟨m, rfl, m, 10007, rfl, rfl, (by show (0 : Int) < 10007; decide), ?_⟩⟩
    refine ⟨.ref p, rfl, p, _, 2, _, rfl, rfl, .inl (.inl (e1 _)), rfl, 83, c + 1, rfl, rfl, .inl ⟨by decide, by decide⟩, ?_⟩
    refine ⟨m % 10007, 83 * (c + 1), rfl, rfl, m, m % 10007 + 83 * (c + 1), rfl, rfl, .inl ⟨by omega, by omega⟩, ?_⟩
    refine ⟨_, 101, rfl, rfl, ⟨by decide, by decide⟩, .inl ⟨_, rfl, ?_⟩⟩
    refine ⟨.int u, rfl, _, u, rfl, rfl, u0, ?_⟩
    refine q _ _ (Int.emod_nonneg _ (by omega)) (Int.emod_lt_of_pos _ u0) ⟨o, b, c + 1, e1 _, o0, b0, b1, by omega, by omega⟩ ?_
    exact But.trans But.upd (But.of_same (same_new hl _))
/-! ### _law_of -/
theorem But.seq {p : Addr} {H H' : Hp} {a : Addr} {xs : List V} (e : But p H H') (n : a ≠ p) (h : SqL K H a xs) : SqL K H' a xs := by
  rcases h with (h | ⟨o, h⟩) | h
  · exact .inl (.inl (e _ _ h n))
  · exact .inl (.inr ⟨o, e _ _ h n⟩)
  · exact .inr h
/-- the items of what is drawn from: a list's, a tuple's, a text's signs -/
def Pick (K : PySem.W.Frag) (H : Hp) (l : V) (xs : List V) : Prop := (∃ a, l = .ref a ∧ (SqL K H a xs ∨ SqT K H a xs)) ∨ ∃ z : Str, l = .str z ∧ xs = z.cps.toList.map fun c => .str ⟨#[c]⟩
def spOf (K : PySem.W.Frag) : Sp := fun vs H Q _ => ∃ (p : Addr) (l : V) (xs : List V) (n : Nat), vs = [.ref p, l] ∧ Pot H p n ∧ n < 1000000 ∧ Pick K H l xs ∧ l ≠ .ref p ∧ 0 < xs.length ∧ xs.length < 1000 ∧
  ∀ (i : Nat) (v : V) (H' : Hp), xs[i]? = some v → Pot H' p (n + 1) → But p H H' → Q v H'
theorem But.seqT {p : Addr} {H H' : Hp} {a : Addr} {xs : List V} (e : But p H H') (n : a ≠ p) (h : SqT K H a xs) : SqT K H' a xs := by
  rcases h with (h | ⟨o, h⟩) | h
  · exact .inl (.inl (e _ _ h n))
  · exact .inl (.inr ⟨o, e _ _ h n⟩)
  · exact .inr h
theorem ok_of {f : Addr} {fd : FuncData} (F : Fun K "_law_of" "_law_of" s__law_of f fd) (T : Bare mg) (C : Callee P w K mg base 1 "_law_take" ["_law_pot", "_law_upto"] spTake) : FnOk P w K mg base CX0 2 f fd ["_law_pot", "_law_some"] (spOf K) := by
  refine F.ok sc__law_of (fun vs H Q E h => ?_) (fun cdv A outer s H vs Q E hr h => ?_)
  · obtain ⟨p, l, xs, n, rfl, _⟩ := h
    rfl
  obtain ⟨p, l, xs, n, rfl, hp, hn, hS, npl, l0, l1, q⟩ := h
  refine ⟨_, (pss_one (ps_ret (pe_ix ix_seq (pv 1) (pe_call C.ok hr rfl C.mg C.kp C.b .nil pass0 (pa_cons (pv 0) (pa_cons (pe_callB call_len (by rfl) T.len PySem.boot_len (pa_cons (pv 1) pa_nil)) pa_nil))) (fun _ _ => rfl)))), ?_⟩
  have hz : sizeLine = 16777216 := sizeLine_eq
  rcases hS with ⟨a, rfl, hS⟩ | ⟨z, rfl, rfl⟩
  · refine ⟨.ref a, rfl, .ref p, rfl, .ref a, rfl, .ref a, xs.length, rfl, ?_, p, (xs.length : Int), n, rfl, hp, hn, by omega, by omega, fun d H' d0 d1 hp' b => ?_⟩
    · rcases hS with hS | hS
      · exact .inl ⟨_, hS, rfl⟩
      · exact .inr ⟨_, hS, rfl⟩
    have hd : d.toNat < xs.length := by omega
    have na : a ≠ p := fun e => npl (by rw [e])
    have hat : atI xs d = some xs[d.toNat] := at_of (j := d.toNat) (by omega) (List.getElem?_eq_getElem hd)
    have hq := q d.toNat _ H' (List.getElem?_eq_getElem hd) hp' b
    rcases hS with hS | hS
    · exact .inl ⟨a, xs, d, _, rfl, rfl, b.seq na hS, hat, hq⟩
    · exact .inr (.inl ⟨a, xs, d, _, rfl, rfl, b.seqT na hS, hat, hq⟩)
  · rw [List.length_map] at l0 l1
    have hl : z.cps.toList.length = z.length := Array.length_toList
    refine ⟨.str z, rfl, .ref p, rfl, .str z, rfl, .str z, z.length, rfl, ⟨by omega, rfl⟩, p, (z.length : Int), n, rfl, hp, hn, by omega, by omega, fun d H' d0 d1 hp' b => ?_⟩
    obtain ⟨k, rfl⟩ : ∃ k : Nat, d = k := ⟨d.toNat, by omega⟩
    have hd : k < z.cps.toList.length := by omega
    refine .inr (.inr ⟨z, _, _, rfl, rfl, by omega, atI_nat (List.getElem?_eq_getElem hd), q k _ H' ?_ hp' b⟩)
    rw [List.getElem?_map, List.getElem?_eq_getElem hd]
    rfl
/-! ### _law_pot_of -/
theorem op_powB {X : Cx} : OpR X (binaryOp .Pow) (rI (fun i j => 0 ≤ j ∧ (Builtin.Int.intBits i : Int) * j ≤ 2 ^ 27) fun i j => .int (i ^ j.toNat)) := opI fun _ _ _ _ _ _ _ hc q => PyProof.Rows.pow_int hc.1 hc.2 q
def spPotOf (K : PySem.W.Frag) : Sp := fun vs H Q _ => ∃ (a : Addr) (ns : List Int) (j : Nat), vs = [.ref a, .int (j : Int)] ∧ SqL K H a (ns.map V.int) ∧ j ≤ 100 ∧
  ∀ (p : Addr) (H' : Hp), H p = none → Same H H' → Pot H' p 0 → Q (.ref p) H'
theorem ok_pot_of {f : Addr} {fd : FuncData} (F : Fun K "_law_pot_of" "_law_pot_of" s__law_pot_of f fd) (T : Bare mg) : FnOk P w K mg base CX0 1 f fd ["_law_script", "_law_k"] (spPotOf K) := by
  refine F.ok sc__law_pot_of (fun vs H Q E h => ?_) (fun cdv A outer s H vs Q E hr h => ?_)
  · obtain ⟨a, ns, j, rfl, _⟩ := h
    rfl
  obtain ⟨a, ns, j, rfl, hS, hj, q⟩ := h
  refine ⟨_, (pss_cons (ps_set (i := 2) sc__law_pot_of.nd rfl (Or.inl rfl) (pe_ifExp (pt_cmpR op_lt (pv 1) (pe_callB call_len_seq (by rfl) T.len PySem.boot_len (pa_cons (pv 0) pa_nil)) (nomark _)) (pe_ix ix_list (pv 0) (pv 1) (fun _ _ => rfl)) (pe_op op_add (pe_op op_mul pe_int (pv 1)) pe_int)))
(pss_cons (ps_set (i := 3) sc__law_pot_of.nd rfl (Or.inl rfl) (pe_op op_mul (pe_op op_mod (pe_callTy call_int1 (by rfl) T.int (by decide +kernel) (pa_cons (pe_callB call_abs (by rfl) T.abs (by decide +kernel) (pa_cons (pv 2) pa_nil)) pa_nil)) (pe_op op_powB (pe_op op_pow pe_int pe_int) pe_int)) (pe_callTy call_int1 (by rfl) T.int (by decide +kernel) (pa_cons (pe_cmpR op_ge (pe_callB call_abs (by rfl) T.abs (by decide +kernel) (pa_cons (pv 2) pa_nil)) (pe_op op_pow pe_int pe_int) (nomark _)) pa_nil))))
(pss_one (ps_ret (pe_lst (pa_cons (pv 3) (pa_cons (pe_op op_mod (pe_op op_add (pe_op op_add (pe_op op_mul (pe_op op_mod (pe_callTy call_int1 (by rfl) T.int (by decide +kernel) (pa_cons (pv 2) pa_nil)) pe_int) pe_int) (pe_op op_mul (pe_op op_mul pe_int (pv 1)) (pv 1))) pe_int) pe_int) (pa_cons pe_int pa_nil)))))))), ?_⟩
  have hl : (ns.map V.int).length = ns.length := List.length_map _
  refine ⟨_, rfl, _, rfl, a, _, rfl, .inl hS, _, _, rfl, rfl, _, rfl, ?_⟩
  refine ite2 (fun h => ?_) (fun h => ?_)
  rotate_left
  refine ⟨_, rfl, 37, _, rfl, rfl, .inl ⟨by decide, by decide⟩, _, 11, rfl, rfl, ?_⟩
  dsimp only
  generalize (37 * (j : Int) + 11) = c
  rotate_left
  have hlt : j < ns.length := by
    have := of_decide_eq_true h
    rw [hl] at this
    omega
  refine ⟨_, rfl, _, rfl, a, _, _, _, rfl, rfl, hS, atI_nat (by rw [List.getElem?_map, List.getElem?_eq_getElem hlt] <;> rfl), ?_⟩
  generalize ns[j] = c
  all_goals
    refine ⟨.int c, rfl, c, rfl, .inl ⟨_, rfl, ?_⟩⟩
    refine ⟨10, 60, rfl, rfl, ⟨by decide, by decide, by decide⟩, 10 ^ 60, 5, rfl, rfl, ⟨by decide, by decide +kernel⟩, _, _, rfl, rfl, (by show (0 : Int) < (10 ^ 60) ^ 5; decide +kernel), ?_⟩
    refine ⟨.int c, rfl, c, rfl, 10, 18, rfl, rfl, ⟨by decide, by decide, by decide⟩, _, _, rfl, rfl, .inr ⟨_, rfl, ?_⟩⟩
    generalize ha : (if c < 0 then -c else c) = a0
    have ha0 : 0 ≤ a0 := by rw [← ha]; split <;> omega
    refine ⟨_, _, rfl, rfl, .inr (by split <;> decide), ?_⟩
    have own0 : 0 ≤ a0 % (10 ^ (60 : Int).toNat) ^ (5 : Int).toNat * (if decide ((10 : Int) ^ (18 : Int).toNat ≤ a0) = true then 1 else 0) := by
      refine Int.mul_nonneg (Int.emod_nonneg _ (by decide +kernel)) ?_
      split <;> decide
    -- return
    refine ⟨_, rfl, .int c, rfl, .inl ⟨c, rfl, c, _, rfl, rfl, (by show (0 : Int) < 2305843009213693951; decide), _, _, rfl, rfl, .inr ⟨by decide, by decide⟩, ?_⟩⟩
    refine ⟨.int (j : Int), rfl, 8609, j, rfl, rfl, .inl ⟨by decide, by decide⟩, .int (j : Int), rfl, _, j, rfl, rfl, .inr ⟨by omega, by omega⟩, ?_⟩
    refine ⟨_, _, rfl, rfl, _, 41, rfl, rfl, _, _, rfl, rfl, (by show (0 : Int) < 2305843009213693921; decide), small (by show 3 ≤ 1000; decide), fun p hp => ?_⟩
    refine q p _ hp (same_new hp _) ⟨_, _, 0, upd_same, own0, Int.emod_nonneg _ (by decide), ?_, by decide, by decide⟩
    exact Int.lt_trans (Int.emod_lt_of_pos _ (by decide)) (by decide)
end
end Fr
set_option Elab.async false
set_option linter.all false
set_option maxRecDepth 100000
set_option maxHeartbeats 1000000
namespace Fr
open PySem L2
/-! ### data that can be shown, by sizes -/
structure Ok (N M : Nat) (d : PyData) : Prop where
  sh : d.showable = true
  nd : d.hasDict = false
  dp : d.depth ≤ M
  len : d.shown.length ≤ N
theorem Ok.mono {N M N' M' : Nat} {d : PyData} (h : Ok N M d) (a : N ≤ N') (b : M ≤ M') : Ok N' M' d := ⟨h.sh, h.nd, Nat.le_trans h.dp b, Nat.le_trans h.len a⟩
theorem Ok.dok {N M : Nat} {d : PyData} (h : Ok N M d) : Dok N M d := ⟨h.sh, .inl h.nd, h.dp, h.len⟩
theorem ok_non {N M : Nat} (h : 5 ≤ N) : Ok N M .none := ⟨by simp only [PyData.showable], by simp only [PyData.hasDict], by simp only [PyData.depth]; omega, by
  have e : (PyData.shown .none).length = 4 := rfl
  omega⟩
theorem ok_bool {N M : Nat} (b : Bool) (h : 5 ≤ N) : Ok N M (.bool b) := ⟨by simp only [PyData.showable], by simp only [PyData.hasDict], by simp only [PyData.depth]; omega, by
  have e : (PyData.shown (.bool b)).length ≤ 5 := by cases b <;> decide
  omega⟩
theorem ok_int {N M : Nat} {i : Int} (h : i.natAbs < 10000000000000000000) (hN : 20 ≤ N) : Ok N M (.int i) := ⟨by
  simp only [PyData.showable]
  refine decide_eq_true ?_
  by_cases z : i.natAbs = 0
  · rw [z]; decide
  · rw [Nat.log2_lt z]
    exact Nat.lt_of_lt_of_le (Nat.lt_of_lt_of_le h (by decide : 10000000000000000000 ≤ 2 ^ 64)) (Nat.pow_le_pow_right (by decide) (by decide)), by simp only [PyData.hasDict], by simp only [PyData.depth]; omega, by
  simp only [PyData.shown]
  have e := int_text_length_le10 (k := 19) (by decide) h
  show (Str.ofString (toString i)).length ≤ N
  rw [ofString_length]
  omega⟩
theorem ok_str {n N M : Nat} {z : Str} (h : ∀ c ∈ tl z, c < 16 ^ 8) (hz : z.length ≤ n) (hN : 10 * n + 2 ≤ N) : Ok N M (.str z) := ⟨by simp only [PyData.showable], by simp only [PyData.hasDict], by simp only [PyData.depth]; omega, by
  simp only [PyData.shown]
  have := StrLaws.reprText_len z h
  omega⟩
theorem sh_all : ∀ {ds : List PyData}, (∀ d ∈ ds, d.showable = true) → PyData.showableAll ds = true
  | [], _ => by simp only [PyData.showableAll]
  | d :: ds, h => by
    simp only [PyData.showableAll, Bool.and_eq_true]
    exact ⟨h d List.mem_cons_self, sh_all fun x hx => h x (List.mem_cons_of_mem _ hx)⟩
theorem nd_all : ∀ {ds : List PyData}, (∀ d ∈ ds, d.hasDict = false) → PyData.hasDictAll ds = false
  | [], _ => by simp only [PyData.hasDictAll]
  | d :: ds, h => by
    simp only [PyData.hasDictAll, Bool.or_eq_false_iff]
    exact ⟨h d List.mem_cons_self, nd_all fun x hx => h x (List.mem_cons_of_mem _ hx)⟩
theorem dp_all {M : Nat} : ∀ {ds : List PyData}, (∀ d ∈ ds, d.depth ≤ M) → PyData.depthAll ds ≤ M
  | [], _ => by simp only [PyData.depthAll]; omega
  | d :: ds, h => by
    have h1 := h d List.mem_cons_self
    have h2 := dp_all fun x hx => h x (List.mem_cons_of_mem _ hx)
    simp only [PyData.depthAll]
    omega
/-- the signs of all, and two for each -/
def lens (ds : List PyData) : Nat := (ds.map fun d => d.shown.length + 2).sum
theorem lens_shown : ∀ (ds : List PyData), ((PyData.shownAll ds).map (·.length)).sum + 2 * (PyData.shownAll ds).length = lens ds
  | [] => by simp only [PyData.shownAll]; rfl
  | d :: ds => by
    have ih := lens_shown ds
    unfold lens at ih ⊢
    simp only [PyData.shownAll, List.map_cons, List.sum_cons, List.length_cons]
    omega
theorem lens_cons (d : PyData) (ds : List PyData) : lens (d :: ds) = d.shown.length + 2 + lens ds := by
  unfold lens
  rw [List.map_cons, List.sum_cons]
theorem lens_nil : lens [] = 0 := rfl
theorem lens_append (ds es : List PyData) : lens (ds ++ es) = lens ds + lens es := by
  unfold lens
  rw [List.map_append, List.sum_append]
theorem lens_le {N : Nat} : ∀ {ds : List PyData}, (∀ d ∈ ds, d.shown.length ≤ N) → lens ds ≤ ds.length * (N + 2)
  | [], _ => Nat.zero_le _
  | d :: ds, h => by
    have h1 := h d List.mem_cons_self
    have h2 := lens_le fun x hx => h x (List.mem_cons_of_mem _ hx)
    rw [lens_cons, List.length_cons, Nat.succ_mul]
    omega
theorem ok_tup {N M : Nat} {ds : List PyData} (h : ∀ d ∈ ds, ∃ N', Ok N' M d) (l : lens ds + 3 ≤ N) : Ok N (M + 1) (.tuple ds) := ⟨by
  simp only [PyData.showable]
  exact sh_all fun d hd => (h d hd).elim fun _ k => k.sh, by
  simp only [PyData.hasDict]
  exact nd_all fun d hd => (h d hd).elim fun _ k => k.nd, by
  simp only [PyData.depth]
  have := dp_all fun d hd => (h d hd).elim fun _ k => k.dp
  omega, by
  simp only [PyData.shown]
  have := tupleText_len_le (PyData.shownAll ds)
  have := lens_shown ds
  omega⟩
theorem ok_lst {N M : Nat} {ds : List PyData} (h : ∀ d ∈ ds, ∃ N', Ok N' M d) (l : lens ds + 3 ≤ N) : Ok N (M + 1) (.list ds) := ⟨by
  simp only [PyData.showable]
  exact sh_all fun d hd => (h d hd).elim fun _ k => k.sh, by
  simp only [PyData.hasDict]
  exact nd_all fun d hd => (h d hd).elim fun _ k => k.nd, by
  simp only [PyData.depth]
  have := dp_all fun d hd => (h d hd).elim fun _ k => k.dp
  omega, by
  simp only [PyData.shown]
  have := listText_len_le (PyData.shownAll ds)
  have := lens_shown ds
  omega⟩
/-! ### drawn far texts -/
def Small (z : Str) : Prop := z.length ≤ 20 ∧ ∀ c ∈ tl z, c < 16 ^ 8
def Tale : Nat → PyData → Prop
  | 0, _ => False
  | k + 1, d => ∃ ds, d = .tuple ds ∧ 1 ≤ ds.length ∧ ds.length ≤ 6 ∧ ∀ x ∈ ds, ∃ p t, x = .tuple [p, .int t] ∧ 1 ≤ t ∧ t ≤ 1000000 ∧ ((∃ z, p = .str z ∧ Small z) ∨ Tale k p)
def tn : Nat → Nat
  | 0 => 254
  | k + 1 => 6 * (tn k + 92) + 3
def nb : Nat → Nat
  | 0 => 254
  | k + 1 => 13 * (nb k + 92) + 3
theorem tn_nb : ∀ k, tn k ≤ nb k
  | 0 => Nat.le_refl _
  | k + 1 => by
    have := tn_nb k
    show 6 * (tn k + 92) + 3 ≤ 13 * (nb k + 92) + 3
    omega
theorem nb_ge : ∀ k, 254 ≤ nb k
  | 0 => Nat.le_refl _
  | k + 1 => by
    have := nb_ge k
    show 254 ≤ 13 * (nb k + 92) + 3
    omega
theorem tn_ge : ∀ k, 254 ≤ tn k
  | 0 => Nat.le_refl _
  | k + 1 => by
    have := tn_ge k
    show 254 ≤ 6 * (tn k + 92) + 3
    omega
theorem tnat {t : Int} (h1 : 1 ≤ t) (h2 : t ≤ 1000000) : t.natAbs < 10000000000000000000 := by omega
theorem mem2 {α : Type} {a b x : α} (h : x ∈ [a, b]) : x = a ∨ x = b := by simpa using h
theorem mem3 {α : Type} {a b c x : α} (h : x ∈ [a, b, c]) : x = a ∨ x = b ∨ x = c := by simpa using h
/-- a pair, its piece shown in so many signs -/
theorem ok_pair2 {N M N2 : Nat} {p t : PyData} (hp : Ok N M p) (ht : Ok 42 M t) (hN : N + 49 ≤ N2) : Ok N2 (M + 1) (.tuple [p, t]) := by
  refine ok_tup (fun d hd => ?_) ?_
  · rcases mem2 hd with rfl | rfl
    · exact ⟨_, hp⟩
    · exact ⟨_, ht⟩
  · rw [lens_cons, lens_cons, lens_nil]
    have := hp.len
    have := ht.len
    omega
theorem tale_ok : ∀ {k : Nat} {d : PyData}, Tale k d → Ok (tn k) (2 * k) d
  | 0, _, h => h.elim
  | k + 1, _, ⟨ds, rfl, h1, h2, h⟩ => by
    have hp : ∀ x ∈ ds, Ok (tn k + 50) (2 * k + 1) x := fun x hx => by
      obtain ⟨p, t, rfl, t1, t2, hq⟩ := h x hx
      refine ok_pair2 (N := tn k) ?_ (ok_int (tnat t1 t2) (by decide)) (by omega)
      rcases hq with ⟨z, rfl, hz⟩ | hq
      · exact ok_str hz.2 hz.1 (by have := tn_ge k; omega)
      · exact tale_ok hq
    refine (ok_tup (N := tn (k + 1)) (fun d hd => ⟨_, hp d hd⟩) ?_).mono (Nat.le_refl _) (by omega)
    have := lens_le fun d hd => (hp d hd).len
    have : ds.length * (tn k + 50 + 2) ≤ 6 * (tn k + 50 + 2) := Nat.mul_le_mul_right _ h2
    show lens ds + 3 ≤ 6 * (tn k + 92) + 3
    omega
theorem nl_all : ∀ {ds : List PyData}, (∀ d ∈ ds, noList d = true) → noListAll ds = true
  | [], _ => by simp only [noListAll]
  | d :: ds, h => by
    simp only [noListAll, Bool.and_eq_true]
    exact ⟨h d List.mem_cons_self, nl_all fun x hx => h x (List.mem_cons_of_mem _ hx)⟩
theorem tale_nl : ∀ {k : Nat} {d : PyData}, Tale k d → noList d = true
  | 0, _, h => h.elim
  | k + 1, _, ⟨ds, rfl, h1, h2, h⟩ => by
    simp only [noList]
    refine nl_all fun x hx => ?_
    obtain ⟨p, t, rfl, _, _, hq⟩ := h x hx
    have hp : noList p = true := by
      rcases hq with ⟨z, rfl, _⟩ | hq
      · simp only [noList]
      · exact tale_nl hq
    simp only [noList, noListAll, hp]
    rfl
/-! ### data without lists stand where a list is changed -/
theorem seqT_but {K : PySem.W.Frag} {p a : Addr} {H H' : Hp} {xs : List V} (e : But p H H') (hp : ∃ ys, H p = some (.lst ys)) (h : SqT K H a xs) : SqT K H' a xs := by
  obtain ⟨ys, hp⟩ := hp
  rcases h with (h | ⟨o, h⟩) | h
  · refine .inl (.inl (e _ _ h fun z => ?_))
    rw [z, hp] at h
    cases h
  · refine .inl (.inr ⟨o, e _ _ h fun z => ?_⟩)
    rw [z, hp] at h
    cases h
  · exact .inr h
mutual
theorem Dv.but {K : PySem.W.Frag} {p : Addr} {H H' : Hp} (e : But p H H') (hp : ∃ ys, H p = some (.lst ys)) : ∀ {d : PyData} {v : V}, noList d = true → Dv K H v d → Dv K H' v d
  | _, _, _, .non => .non
  | _, _, _, .bl b => .bl b
  | _, _, _, .int i => .int i
  | _, _, _, .str x h => .str x h
  | _, _, n, .lst h g => by simp only [noList] at n; cases n
  | _, _, n, .tup h g => .tup (seqT_but e hp h) (DvAll.but e hp (by simpa only [noList] using n) g)
  | _, _, _, .dct h => .dct (e _ _ h fun z => by
      obtain ⟨ys, hp⟩ := hp
      rw [z, hp] at h
      cases h)
theorem DvAll.but {K : PySem.W.Frag} {p : Addr} {H H' : Hp} (e : But p H H') (hp : ∃ ys, H p = some (.lst ys)) : ∀ {ds : List PyData} {vs : List V}, noListAll ds = true → DvAll K H vs ds → DvAll K H' vs ds
  | _, _, _, .nil => .nil
  | _, _, n, .cons h g => by
    simp only [noListAll, Bool.and_eq_true] at n
    exact .cons (Dv.but e hp n.1 h) (DvAll.but e hp n.2 g)
end
/-! ### the heap without the pot -/
def hid (l : List Addr) (H : Hp) : Hp := fun b => if b ∈ l then none else H b
theorem hid_get {l : List Addr} {H : Hp} {b : Addr} {o : HO} : hid l H b = some o ↔ b ∉ l ∧ H b = some o := by
  unfold hid
  by_cases h : b ∈ l
  · rw [if_pos h]
    exact ⟨fun z => (by cases z), fun z => absurd h z.1⟩
  · rw [if_neg h]
    exact ⟨fun z => ⟨h, z⟩, fun z => z.2⟩
theorem hid_same {l : List Addr} {H : Hp} : Same (hid l H) H := fun b o h => (hid_get.mp h).2
theorem But.hid {p : Addr} {H H' : Hp} {l : List Addr} (e : But p H H') (hp : p ∈ l) : Same (hid l H) (hid l H') := fun b o h => by
  obtain ⟨n, h⟩ := hid_get.mp h
  exact hid_get.mpr ⟨n, e b o h fun z => n (z ▸ hp)⟩
theorem Same.hid {H H' : Hp} {l : List Addr} (e : Same H H') : Same (hid l H) (hid l H') := fun b o h => by
  obtain ⟨n, h⟩ := hid_get.mp h
  exact hid_get.mpr ⟨n, e b o h⟩
theorem Pot.is {H : Hp} {p : Addr} {n : Nat} (h : Pot H p n) : ∃ ys, H p = some (.lst ys) := by
  obtain ⟨o, b, c, e, _⟩ := h
  exact ⟨_, e⟩
theorem hid_new {H : Hp} {p q : Addr} {o : HO} {n : Nat} (hp : Pot H p n) (hq : H q = none) : hid [p] (upd H q o) q = some o := by
  obtain ⟨u, hp⟩ := hp.is
  exact hid_get.mpr ⟨fun z => ne_of_none hp hq (List.mem_singleton.mp z).symm, upd_same⟩
theorem Pot.new {H : Hp} {p q : Addr} {n : Nat} (h : Pot H p n) (hq : H q = none) (o : HO) : Pot (upd H q o) p n := h.same (same_new hq o)
theorem same_but {p : Addr} {H H1 H2 : Hp} (a : Same H H1) (b : But p H1 H2) : But p H H2 := (But.of_same a).trans b
/-- data without lists, the pot hidden -/
theorem Dv.hidP {K : PySem.W.Frag} {H : Hp} {p : Addr} {n : Nat} {d : PyData} {v : V} (hp : Pot H p n) (nl : noList d = true) (h : Dv K H v d) : Dv K (Fr.hid [p] H) v d :=
  Dv.but (p := p) (fun b o e z => hid_get.mpr ⟨fun m => z (List.mem_singleton.mp m), e⟩) hp.is nl h
end Fr
set_option Elab.async false
set_option linter.all false
set_option maxRecDepth 100000
set_option maxHeartbeats 1000000
namespace Fr
open PySem L2
abbrev s__law_drawn : Stmt := top 22
abbrev sc__law_drawnN : List Str := ["_law_pot", "_law_deep", "_law_found", "_law_turn", "_law_piece", "_law_at"]
theorem sc__law_drawn : FnScope sc__law_drawnN ["_law_pot", "_law_deep"] (defScope s__law_drawn) := ⟨rfl, rfl, rfl, by decide +kernel, rfl, by decide +kernel, by decide +kernel⟩
/-- the most numbers that a far text takes -/
def dk : Nat → Nat
  | 0 => 0
  | k + 1 => 1 + 6 * (24 + dk k)
def spDrawn (K : PySem.W.Frag) (k : Nat) : Sp := fun vs H Q _ => ∃ (p : Addr) (n : Nat), vs = [.ref p, .int (k : Int)] ∧ Pot H p n ∧ n + dk k < 1000000 ∧
  ∀ (a : Addr) (d : PyData) (H' : Hp), Pot H' p (n + dk k) → But p H H' → Dv K H' (.ref a) d → Tale k d → Q (.ref a) H'
theorem tl_joined : ∀ {ys : List Str}, (∀ y ∈ ys, ∃ c, tl y = [c] ∧ c < 16 ^ 8) → (TL.joinL [] (ys.map tl)).length = ys.length ∧ ∀ c ∈ TL.joinL [] (ys.map tl), c < 16 ^ 8
  | [], _ => ⟨rfl, fun _ h => nomatch h⟩
  | [y], h => by
    obtain ⟨c, e, hc⟩ := h y List.mem_cons_self
    show (tl y).length = 1 ∧ ∀ c ∈ tl y, c < 16 ^ 8
    rw [e]
    exact ⟨rfl, fun x hx => by rw [List.mem_singleton.mp hx]; exact hc⟩
  | y :: z :: ys, h => by
    obtain ⟨c, e, hc⟩ := h y List.mem_cons_self
    have ih := tl_joined fun x hx => h x (List.mem_cons_of_mem _ hx)
    show (tl y ++ ([] ++ TL.joinL [] ((z :: ys).map tl))).length = _ ∧ ∀ c ∈ tl y ++ ([] ++ TL.joinL [] ((z :: ys).map tl)), c < 16 ^ 8
    rw [e, List.nil_append]
    refine ⟨?_, fun x hx => ?_⟩
    · show (TL.joinL [] ((z :: ys).map tl)).length + 1 = _
      rw [ih.1]
      rfl
    · rcases List.mem_cons.mp hx with rfl | hx
      · exact hc
      · exact ih.2 x hx
theorem small_join {ys : List Str} (h : ∀ y ∈ ys, ∃ c, tl y = [c] ∧ c < 16 ^ 8) (l : ys.length ≤ 20) : Small (Txt.join "" ys) := by
  have e : tl (Txt.join "" ys) = TL.joinL [] (ys.map tl) := by
    rw [TL.join_eq]
    exact (TL.tl_join "" ys).trans (by rfl)
  have := tl_joined h
  refine ⟨?_, fun c hc => this.2 c (e ▸ hc)⟩
  have hz : (Txt.join "" ys).length = (tl (Txt.join "" ys)).length := Array.length_toList.symm
  rw [hz, e, this.1]
  exact l
theorem sum_ones : ∀ {ys : List Str}, (∀ y ∈ ys, ∃ c, tl y = [c] ∧ c < 16 ^ 8) → (ys.map (·.length)).sum = ys.length
  | [], _ => rfl
  | y :: ys, h => by
    obtain ⟨c, e, hc⟩ := h y List.mem_cons_self
    have ih := sum_ones fun x hx => h x (List.mem_cons_of_mem _ hx)
    have hz : y.length = (tl y).length := Array.length_toList.symm
    rw [List.map_cons, List.sum_cons, ih, List.length_cons, hz, e]
    simp
    omega
theorem Pot.upd {H : Hp} {p q : Addr} {n : Nat} (h : Pot H p n) (ne : q ≠ p) (o : HO) : Pot (L2.upd H q o) p n := by
  obtain ⟨o', b, c, e, r⟩ := h
  exact ⟨o', b, c, by rw [upd_ne ne.symm]; exact e, r⟩
theorem Pot.ne {H : Hp} {p q : Addr} {n : Nat} (h : Pot H p n) (hq : H q = none) : q ≠ p := by
  obtain ⟨ys, hp⟩ := h.is
  exact (ne_of_none hp hq).symm
/-- what is drawn, or in its place a far text -/
def Piece (j : Nat) (d : PyData) : Prop := (∃ z, d = .str z ∧ Small z) ∨ Tale j d
def tPiece (K : PySem.W.Frag) (j : Nat) : TS := fun D σ H => ∃ (p D0 : Addr) (n : Nat) (x3 : Option V) (z : Str), σ = [some (.ref p), some (.int ((j + 1 : Nat) : Int)), some (.ref D0), x3, some (.str z), none] ∧ Pot H p n ∧ n + (1 + dk j) < 1000000 ∧ Small z ∧
  ∀ (v : V) (d : PyData) (H' : Hp), Piece j d → Dv K H' v d → Pot H' p (n + (1 + dk j)) → But p H H' → D.nx [some (.ref p), some (.int ((j + 1 : Nat) : Int)), some (.ref D0), x3, some v, none] H'
section
variable {P : Program} {w : World} {K : PySem.W.Frag} {mg : Str → Option Value} {base : Heap}
theorem ok_drawn {f : Addr} {fd : FuncData} {k lev : Nat} {spP : Sp} (F : Fun K "_law_drawn" "_law_drawn" s__law_drawn f fd) (T : Bare mg) (hk : 1 ≤ k) (hl : 2 ≤ lev) (hP : ∀ j, k = j + 2 → spP = spDrawn K (j + 1))
    (CT : Callee P w K mg base 1 "_law_take" ["_law_pot", "_law_upto"] spTake) (CO : Callee P w K mg base 2 "_law_of" ["_law_pot", "_law_some"] (spOf K))
    (CP : Callee P w K mg base lev "_law_drawn" ["_law_pot", "_law_deep"] spP) : FnOk P w K mg base CX0 (lev + 1) f fd ["_law_pot", "_law_deep"] (spDrawn K k) := by
  refine F.ok sc__law_drawn (fun vs H Q E h => ?_) (fun cdv A outer s H vs Q E hr h => ?_)
  · obtain ⟨p, n, rfl, _⟩ := h
    rfl
  obtain ⟨p, n, rfl, hp, hn, q⟩ := h
  refine ⟨_, (pss_cons (ps_set (i := 2) sc__law_drawn.nd rfl (Or.inl rfl) (pe_lst pa_nil))
(pss_cons (ps_for PassesOwn.never rfl (pi_range1 (by rfl) T.range (pa_cons (pe_op op_add pe_int (pe_call CO.ok (hr.mono hl) rfl CO.mg CO.kp CO.b .nil pass0 (pa_cons (pv 0) (pa_cons (pe_lst (pa_cons pe_int (pa_cons pe_int (pa_cons pe_int (pa_cons pe_int pa_nil))))) pa_nil)))) pa_nil)) (pg_name (i := 3) sc__law_drawn.nd rfl (Or.inl rfl))
(pss_cons (ps_set (i := 4) sc__law_drawn.nd rfl (Or.inl rfl) (pe_join pe_str (pe_lc (own := [("_law_at", 5)]) (g := gName 5) rfl sc__law_drawn.nd (pi_range1 (by rfl) T.range (pa_cons (pe_call CO.ok (hr.mono hl) rfl CO.mg CO.kp CO.b .nil pass0 (pa_cons (pv 0) (pa_cons (pe_lst (pa_cons pe_int (pa_cons pe_int (pa_cons pe_int (pa_cons pe_int pa_nil))))) pa_nil))) pa_nil)) (blkOk_by (N := sc__law_drawnN) (sc := defScope s__law_drawn) (by decide +kernel)) (fun _ _ _ _ _ => pg_name (i := 5) sc__law_drawn.nd rfl (Or.inl rfl)) (fun _ _ _ _ _ => pts_nil) (fun _ _ _ _ _ => (pe_call CO.ok (hr.mono hl) rfl CO.mg CO.kp CO.b .nil pass0 (pa_cons (pv 0) (pa_cons pe_str pa_nil)))))))
(pss_cons (ps_weak (t' := tPiece K (k - 1)) (ps_if (PW.pt (pw_and (pt_cmpR op_gt (pv 1) pe_int (nomark _)) (pw_and1 (pt_cmpR op_eq (pe_call CT.ok (hr.mono (Nat.le_trans (by decide) hl)) rfl CT.mg CT.kp CT.b .nil pass0 (pa_cons (pv 0) (pa_cons pe_int pa_nil))) pe_int (nomark _)))))
(pss_one (ps_set (i := 4) sc__law_drawn.nd rfl (Or.inl rfl) (pe_call CP.ok hr rfl CP.mg CP.kp CP.b .nil pass0 (pa_cons (pv 0) (pa_cons (pe_op op_sub (pv 1) pe_int) pa_nil)))))
pss_nil) (fun D σ H h => by
    obtain ⟨p, D0, n, x3, z, rfl, hp, hn, hz, q⟩ := h
    obtain ⟨j, rfl⟩ : ∃ j, k = j + 1 := ⟨k - 1, by omega⟩
    have dz : ∀ H', Dv K H' (.str z) (.str z) := fun H' => .str z (Nat.le_trans hz.1 (by decide))
    refine ⟨_, rfl, _, 1, rfl, rfl, _, rfl, ?_⟩
    cases j with
    | zero => exact iteF (q (.str z) (.str z) H (.inl ⟨z, rfl, hz⟩) (dz _) (hp.more (by omega)) (But.refl p H))
    | succ j =>
      refine ite2 (fun _ => ?_) (fun h => absurd (decide_eq_true (by omega)) h)
      refine ⟨.ref p, rfl, p, 3, n, rfl, hp, by omega, by decide, by decide, fun u H1 u0 u1 hp1 b1 => ⟨rfl, _, rfl, ?_⟩⟩
      refine ite2 (fun _ => ?_) (fun _ => q (.str z) (.str z) H1 (.inl ⟨z, rfl, hz⟩) (dz _) (hp1.more (by omega)) b1)
      have hsP := hP j rfl
      subst hsP
      have hn : n + (1 + dk (j + 1)) < 1000000 := hn
      refine ⟨.ref p, rfl, _, rfl, _, 1, rfl, rfl, p, n + 1, ?_, hp1, by omega, fun a d H2 hp2 b2 hd ht => ?_⟩
      · show [V.ref p, V.int (((j + 1 + 1 - 1 + 1 : Nat) : Int) - 1)] = _
        rw [show ((j + 1 + 1 - 1 + 1 : Nat) : Int) - 1 = ((j + 1 : Nat) : Int) by omega]
      · exact q (.ref a) d H2 (.inr ht) hd (hp2.more (by show n + 1 + dk (j + 1) ≤ n + (1 + dk (j + 1)); omega)) (b1.trans b2)))
(pss_one (ps_expr (pe_bm PySem.F.plainAttrs_list PySem.F.slot_list_append PySem.F.type_list_append mt_append (pv 2) (pa_cons (pe_tup (pa_cons (pv 4) (pa_cons (pe_call CO.ok (hr.mono hl) rfl CO.mg CO.kp CO.b .nil pass0 (pa_cons (pv 0) (pa_cons (pe_lst (pa_cons pe_int (pa_cons pe_int (pa_cons pe_int (pa_cons pe_int (pa_cons (pe_op op_pow pe_int pe_int) (pa_cons (pe_op op_add pe_int (pe_call CT.ok (hr.mono (Nat.le_trans (by decide) hl)) rfl CT.mg CT.kp CT.b .nil pass0 (pa_cons (pv 0) (pa_cons pe_int pa_nil)))) pa_nil))))))) pa_nil))) pa_nil))) pa_nil)))))))
(pss_one (ps_ret (pe_callTy call_tuple_of (by rfl) T.tuple (by decide +kernel) (pa_cons (pv 2) pa_nil)))))), ?_⟩
  obtain ⟨j, rfl⟩ : ∃ j, k = j + 1 := ⟨k - 1, by omega⟩
  have hdk : dk (j + 1) = 1 + 6 * (24 + dk j) := rfl
  rw [hdk] at hn
  refine ⟨small (by show 0 ≤ 1000; decide), fun D hD => ?_⟩
  have neD : D ≠ p := by
    obtain ⟨ys, hp⟩ := hp.is
    exact (ne_of_none hp hD).symm
  have hp1 := hp.new hD (.lst [])
  refine ⟨.ref p, rfl, small (by show 4 ≤ 1000; decide), fun l hl => ?_⟩
  have hp2 := hp1.new hl (.lst [.int 0, .int 1, .int 1, .int 5])
  have nel : l ≠ p := by
    obtain ⟨ys, hp⟩ := hp1.is
    exact (ne_of_none hp hl).symm
  refine ⟨p, .ref l, [.int 0, .int 1, .int 1, .int 5], n, rfl, hp2, by omega, .inl ⟨l, rfl, .inl (.inl (.inl upd_same))⟩, fun e => nel (V.ref.inj e), by decide, by decide, fun i0 v H1 hv hp3 b1 => ?_⟩
  obtain ⟨u, rfl, u0, u1⟩ : ∃ u : Int, v = .int u ∧ 0 ≤ u ∧ u ≤ 5 := by
    have := List.mem_of_getElem? hv
    simp only [List.mem_cons, List.not_mem_nil, or_false] at this
    rcases this with rfl | rfl | rfl | rfl <;> exact ⟨_, rfl, by decide, by decide⟩
  have B1 : But p (upd H D (.lst [])) H1 := same_but (same_new hl _) b1
  have hD1 : H1 D = some (.lst []) := B1 _ _ upd_same neD
  refine ⟨1, u, rfl, rfl, 1 + u, rfl, by omega, by omega, for_range (lo := 0) (n := (1 + u).toNat) (fun i σ H' => ∃ (x3 x4 : Option V) (vs : List V) (ds : List PyData), σ = [some (.ref p), some (.int ((j + 1 : Nat) : Int)), some (.ref D), x3, x4, none] ∧
    H' D = some (.lst vs) ∧ vs.length = i ∧ DvAll K H' vs ds ∧ (∀ x ∈ ds, ∃ p t, x = .tuple [p, .int t] ∧ 1 ≤ t ∧ t ≤ 1000000 ∧ ((∃ z, p = .str z ∧ Small z) ∨ Tale j p)) ∧ Pot H' p (n + (1 + i * (24 + dk j))) ∧ But p H H') ?_ ?_ ?_⟩
  · exact ⟨_, _, [], [], rfl, hD1, rfl, .nil, (fun _ h => absurd h List.not_mem_nil), hp3.more (by omega), same_but (same_new hD _) B1⟩
  · rintro i σ H2 hi ⟨x3, x4, vs, ds, rfl, hDv, hlen, hds, htale, hp4, B2⟩
    have hi : i < 6 := by omega
    have him : i * (24 + dk j) + (24 + dk j) ≤ 6 * (24 + dk j) := by
      rw [← Nat.succ_mul]
      exact Nat.mul_le_mul_right _ hi
    refine ⟨⟨_, rfl⟩, .ref p, rfl, small (by show 4 ≤ 1000; decide), fun l hl => ?_⟩
    have nel := hp4.ne hl
    refine ⟨p, .ref l, [.int 1, .int 2, .int 3, .int 20], _, rfl, hp4.new hl _, by omega, .inl ⟨l, rfl, .inl (.inl (.inl upd_same))⟩, fun e => nel (V.ref.inj e), by decide, by decide, fun i1 v H3 hv hp5 b3 => ?_⟩
    obtain ⟨c, rfl, c0, c1⟩ : ∃ c : Int, v = .int c ∧ 1 ≤ c ∧ c ≤ 20 := by
      have := List.mem_of_getElem? hv
      simp only [List.mem_cons, List.not_mem_nil, or_false] at this
      rcases this with rfl | rfl | rfl | rfl <;> exact ⟨_, rfl, by decide, by decide⟩
    have B3 : But p H2 H3 := same_but (same_new hl _) b3
    refine ⟨c, rfl, by omega, by omega, fun D2 hD2 => lc_range (lo := 0) (n := c.toNat) (fun m H' => ∃ ys : List Str, H' D2 = some (.lst (ys.map V.str)) ∧ ys.length = m ∧ (∀ y ∈ ys, ∃ c, tl y = [c] ∧ c < 16 ^ 8) ∧ Pot H' p (n + (1 + i * (24 + dk j)) + 1 + m) ∧ But p H2 H') ?_ ?_ ?_⟩
    · exact ⟨[], upd_same, rfl, (fun _ h => absurd h List.not_mem_nil), hp5.new hD2 _, B3.trans (But.of_same (same_new hD2 _))⟩
    · rintro m H4 hm ⟨ys, hy, hlen2, hc, hp6, b4⟩
      refine ⟨rfl, ?_⟩
      simp only [tYes, ↓reduceIte]
      refine ⟨.ref p, rfl, p, .str "abz", _, _, rfl, hp6, by omega, .inr ⟨_, rfl, rfl⟩, nofun, by decide, by decide, fun i2 v H5 hv hp7 b5 => ?_⟩
      rw [List.getElem?_map] at hv
      obtain ⟨x, hx, rfl⟩ := Option.map_eq_some_iff.mp hv
      have ne2 : D2 ≠ p := hp5.ne hD2
      refine ⟨_, b5 _ _ hy ne2, ?_, ys ++ [⟨#[x]⟩], ?_, ?_, ?_, ?_, ?_⟩
      · rw [List.length_map]
        exact small1000 (by omega)
      · rw [upd_same, List.map_append]
        rfl
      · rw [List.length_append, hlen2]
        rfl
      · intro y hy'
        rcases List.mem_append.mp hy' with hy' | hy'
        · exact hc y hy'
        · rw [List.mem_singleton.mp hy']
          refine ⟨x, rfl, ?_⟩
          have hm := List.mem_of_getElem? hx
          exact (by decide +kernel : ∀ x ∈ ("abz" : Str).cps.toList, x < 16 ^ 8) x hm
      · exact (hp7.upd ne2 _).more (by omega)
      · intro b o e nb
        have e3 := B3 b o e nb
        rw [upd_ne (ne_of_none e3 hD2)]
        exact b5 _ _ (b4 _ _ e nb) nb
    · rintro H4 ⟨ys, hy, hlen2, hc, hp6, b4⟩
      have hz := small_join hc (by omega)
      refine ⟨"", D2, ys, rfl, rfl, .inl (.inl (.inl hy)), ?_, ?_⟩
      · rw [sum_ones hc]
        show ys.length + ys.length * 0 ≤ _
        omega
      refine ⟨p, D, n + (1 + i * (24 + dk j)) + 21, _, _, rfl, hp6.more (by omega), ?_, hz, fun v d H5 hpc hd hp7 b5 => ?_⟩
      · show _ + (1 + dk j) < _
        omega
      have hp7 : Pot H5 p (n + (1 + i * (24 + dk j)) + 21 + (1 + dk j)) := hp7
      have hpc : Piece j d := hpc
      have B5 : But p H2 H5 := b4.trans b5
      have hD5 : H5 D = some (.lst vs) := B5 _ _ hDv neD
      refine ⟨_, rfl, .inl ⟨rfl, _, .inl (.inl hD5)⟩, ?_⟩
      refine ⟨_, rfl, .ref p, rfl, 10, 6, rfl, rfl, ⟨by decide, by decide, by decide⟩, .ref p, rfl, p, 99, _, rfl, hp7, by omega, by decide, by decide, fun u H6 u0 u1 hp8 b8 => ?_⟩
      refine ⟨1, u, rfl, rfl, small (by show 6 ≤ 1000; decide), fun l hl => ?_⟩
      have nel := hp8.ne hl
      refine ⟨p, .ref l, [.int 1, .int 2, .int 7, .int 1000, .int (10 ^ (6 : Int).toNat), .int (1 + u)], _, rfl, hp8.new hl _, by omega, .inl ⟨l, rfl, .inl (.inl (.inl upd_same))⟩, fun e => nel (V.ref.inj e), (by show 0 < 6; decide), (by show 6 < 1000; decide), fun i2 v2 H7 hv2 hp9 b9 => ?_⟩
      obtain ⟨t, rfl, t0, t1⟩ : ∃ t : Int, v2 = .int t ∧ 1 ≤ t ∧ t ≤ 1000000 := by
        have := List.mem_of_getElem? hv2
        simp only [List.mem_cons, List.not_mem_nil, or_false] at this
        rcases this with rfl | rfl | rfl | rfl | rfl | rfl
        · exact ⟨_, rfl, by decide, by decide⟩
        · exact ⟨_, rfl, by decide, by decide⟩
        · exact ⟨_, rfl, by decide, by decide⟩
        · exact ⟨_, rfl, by decide, by decide⟩
        · exact ⟨_, rfl, by decide +kernel, by decide +kernel⟩
        · exact ⟨_, rfl, by omega, by omega⟩
      have B7 : But p H5 H7 := b8.trans (same_but (same_new hl _) b9)
      refine ⟨small (by show 2 ≤ 1000; decide), fun r hr => ?_⟩
      have hD7 : H7 D = some (.lst vs) := B7 _ _ hD5 neD
      have nrD : r ≠ D := (ne_of_none hD7 hr).symm
      have nr : r ≠ p := hp9.ne hr
      refine ⟨D, vs, _, rfl, rfl, by rw [upd_ne nrD.symm]; exact hD7, small1000 (by omega), ?_⟩
      have nld : noList d = true := by
        rcases hpc with ⟨z, rfl, _⟩ | hq
        · simp only [noList]
        · exact tale_nl hq
      have nl : noListAll ds = true := nl_all fun x hx => by
        obtain ⟨p, t, rfl, _, _, hq⟩ := htale x hx
        have hp : noList p = true := by
          rcases hq with ⟨z, rfl, _⟩ | hq
          · simp only [noList]
          · exact tale_nl hq
        simp only [noList, noListAll, hp]
        rfl
      have d7 : Dv K H7 v d := Dv.but B7 hp7.is nld hd
      have ds7 : DvAll K H7 vs ds := DvAll.but (B5.trans B7) hp4.is nl hds
      have up : But D H7 (upd (upd H7 r (.tup [v, .int t])) D (.lst (vs ++ [.ref r]))) := fun b o e nb => by
        rw [upd_ne nb, upd_ne (ne_of_none e hr)]
        exact e
      refine ⟨_, _, vs ++ [.ref r], ds ++ [.tuple [d, .int t]], rfl, upd_same, by rw [List.length_append, hlen]; rfl, ?_, ?_, ?_, ?_⟩
      · refine (DvAll.but up ⟨_, hD7⟩ nl ds7).append (.cons (.tup (.inl (.inl ?_)) (.cons (Dv.but up ⟨_, hD7⟩ nld d7) (.cons (.int t) .nil))) .nil)
        rw [upd_ne nrD, upd_same]
      · intro x hx
        rcases List.mem_append.mp hx with hx | hx
        · exact htale x hx
        · exact ⟨d, t, List.mem_singleton.mp hx, t0, t1, hpc⟩
      · refine ((hp9.new hr _).upd neD _).more ?_
        rw [Nat.succ_mul]
        omega
      · intro b o e nb
        have e7 := (B2.trans (B5.trans B7)) b o e nb
        rw [upd_ne, upd_ne (ne_of_none e7 hr)]
        · exact e7
        · exact ne_of_none e hD
  · rintro σ H2 ⟨x3, x4, vs, ds, rfl, hD2, hlen, hds, htale, hp4, B2⟩
    have hl2 := hds.len
    have nl : noListAll ds = true := nl_all fun x hx => by
      obtain ⟨p, t, rfl, _, _, hq⟩ := htale x hx
      have hp : noList p = true := by
        rcases hq with ⟨z, rfl, _⟩ | hq
        · simp only [noList]
        · exact tale_nl hq
      simp only [noList, noListAll, hp]
      rfl
    refine ⟨.ref D, rfl, D, vs, rfl, .inl ⟨.inl (.inl hD2), fun a ha => q a (.tuple ds) _ ?_ (B2.trans (But.of_same (same_new ha _))) (.tup (.inl (.inl upd_same)) (hds.same (same_new ha _))) ⟨ds, rfl, by omega, by omega, htale⟩⟩⟩
    refine (hp4.new ha _).more ?_
    have : (1 + u).toNat * (24 + dk j) ≤ 6 * (24 + dk j) := Nat.mul_le_mul_right _ (by omega)
    omega
end
end Fr
set_option Elab.async false
set_option linter.all false
set_option maxRecDepth 100000
set_option maxHeartbeats 1000000
namespace Fr
open PySem L2
/-! ### slices and sums of tuples, the pot hidden -/
section
variable {X : Cx}
def rSlP (K : PySem.W.Frag) (p : Addr) : V → Option Int → Option Int → Hp → VK → Prop := fun x lo hi H Q => ∃ a xs, x = .ref a ∧ (∃ o, H p = some o) ∧ SqT K (hid [p] H) a xs ∧ ∀ q H', Same H H' → SqT K (hid [p] H') q (cutV xs lo hi) → Q (.ref q) H'
def rCatP (K : PySem.W.Frag) (p : Addr) : R2 := fun x y H Q => ∃ a b xs ys, x = .ref a ∧ y = .ref b ∧ (∃ o, H p = some o) ∧ SqT K (hid [p] H) a xs ∧ SqT K (hid [p] H) b ys ∧ xs.length + ys.length ≤ sizeLine ∧ ∀ q H', Same H H' → SqT K (hid [p] H') q (xs ++ ys) → Q (.ref q) H'
theorem hid_new' {H : Hp} {p q : Addr} {o : HO} (hp : ∃ o, H p = some o) (hq : H q = none) : hid [p] (upd H q o) q = some o := by
  obtain ⟨u, hp⟩ := hp
  exact hid_get.mpr ⟨fun z => ne_of_none hp hq (List.mem_singleton.mp z).symm, upd_same⟩
theorem sl_tupP (p : Addr) : SlR X (rSlP X.K p) := by
  intro pins s σ H x v vl vu lo hi sl Q I rx hs pl pu ⟨a, xs, e, hp, hq, q⟩
  refine sl_tupA pins s σ H x v vl vu lo hi sl Q I rx hs pl pu ⟨a, xs, e, same_sqT hid_same hq, fun w => ?_, fun _ r hr => ?_⟩
  · have c : cutV xs lo hi = xs := by
      unfold cutV
      rw [w.1, w.2, Nat.sub_zero, List.drop_zero, List.take_length]
    exact q a H (fun _ _ e => e) (by rw [c]; exact hq)
  · exact q r _ (same_new hr _) (.inl (.inl (hid_new' hp hr)))
theorem op_catP (p : Addr) : OpR X (binaryOp .Add) (rCatP X.K p) := by
  intro pins s σ H x y v u Q I rx ry ⟨a, b, xs, ys, e1, e2, hp, ha, hb, hz, q⟩
  refine op_catA pins s σ H x y v u Q I rx ry ⟨a, b, xs, ys, e1, e2, same_sqT hid_same ha, same_sqT hid_same hb, hz, fun z => ?_, fun _ z => ?_, fun _ _ r hr => ?_⟩
  · exact q b H (fun _ _ e => e) (by rw [z]; exact hb)
  · exact q a H (fun _ _ e => e) (by rw [z, List.append_nil]; exact ha)
  · exact q r _ (same_new hr _) (.inl (.inl (hid_new' hp hr)))
end
theorem cut_data {K : PySem.W.Frag} {H : Hp} {xs : List V} {ds : List PyData} (g : DvAll K H xs ds) (lo hi : Option Int) : ∃ es, DvAll K H (cutV xs lo hi) es ∧ es.length ≤ ds.length ∧ ∀ e ∈ es, e ∈ ds := by
  refine ⟨(ds.drop (HT.sIx xs.length 0 lo)).take (HT.sIx xs.length xs.length hi - HT.sIx xs.length 0 lo), (g.drop _).take _, ?_, fun e he => List.mem_of_mem_drop (List.mem_of_mem_take he)⟩
  rw [List.length_take, List.length_drop]
  omega
theorem pe_weak {X : Cx} {e : Expr} {t t' : TE} (i : ∀ σ H Q, t' σ H Q → t σ H Q) (h : PE X e t) : PE X e t' := ⟨fun pins s σ H Q I q => h.run pins s σ H Q I (i _ _ _ q)⟩
/-- thing[:at] + (e,) + thing[at + 1:] -/
def tAround (K : PySem.W.Frag) (p : Addr) (te : TE) : TE := fun σ H Q => ∃ (a : Addr) (xs : List V) (ds : List PyData) (u : Nat), σ[1]? = some (some (.ref a)) ∧ σ[2]? = some (some (.int (u : Int))) ∧ (∃ o, H p = some o) ∧
  SqT K (hid [p] H) a xs ∧ DvAll K (hid [p] H) xs ds ∧ xs.length ≤ 6 ∧
  ∀ H1, Same H H1 → ∀ C : VK, (∀ x dx H2, But p H1 H2 → (∃ o, H2 p = some o) → Dv K (hid [p] H2) x dx → (∀ q es1 es2 H3, Same H2 H3 → Dv K (hid [p] H3) (.ref q) (.tuple (es1 ++ [dx] ++ es2)) → (∀ e ∈ es1, e ∈ ds) → (∀ e ∈ es2, e ∈ ds) → es1.length ≤ 6 → es2.length ≤ 6 → Q (.ref q) H3) → C x H2) → te σ H1 C
theorem around_of {K : PySem.W.Frag} {p : Addr} {te : TE} (σ : L2.St) (H : Hp) (Q : VK) (h : tAround K p te σ H Q) :
    tOp (rCatP K p) (tOp (rCatP K p) (tSl (rSlP K p) (tVar 1) tNoPart (tPart (tVar 2))) (tTup (tCons te tNil))) (tSl (rSlP K p) (tVar 1) (tPart (tOp (rI0 fun i j => .int (i + j)) (tVar 2) (tC (.int 1)))) tNoPart) σ H Q := by
  obtain ⟨a, xs, ds, u, s1, s2, hp, hq, g, hz, q⟩ := h
  have hl := g.len
  refine ⟨.ref a, s1, _, s2, _, rfl, a, xs, rfl, hp, hq, fun q1 H1 sm1 hq1 => ?_⟩
  obtain ⟨es1, ge1, le1, me1⟩ := cut_data (g.same (Same.hid sm1)) none (some (u : Int))
  refine q H1 sm1 _ fun x dx H2 b2 hp2 hdx fin => ⟨small (by show 1 ≤ 1000; decide), fun r hr => ?_⟩
  have sm2 : Same (hid [p] H1) (hid [p] (upd H2 r (.tup [x]))) := fun b o e => Same.hid (same_new hr _) b o (But.hid b2 List.mem_cons_self b o e)
  have lc1 := ge1.len
  refine ⟨q1, r, _, [x], rfl, rfl, ?_, same_sqT sm2 hq1, .inl (.inl (hid_new' hp2 hr)), ?_, fun q2 H3 sm3 hq2 => ?_⟩
  · obtain ⟨o, hp2⟩ := hp2
    exact ⟨o, same_new hr _ _ _ hp2⟩
  · rw [lc1]
    exact small (by show es1.length + 1 ≤ 1000; omega)
  have sm13 : Same (hid [p] H1) (hid [p] H3) := Same.trans sm2 (Same.hid sm3)
  have sm23 : Same H2 H3 := Same.trans (same_new hr _) sm3
  have hp3 : ∃ o, H3 p = some o := hp2.imp fun o h => sm23 _ _ h
  have ga3 := g.same (Same.trans (Same.hid sm1) sm13)
  obtain ⟨es2, ge2, le2, me2⟩ := cut_data ga3 (some ((u : Int) + 1)) none
  refine ⟨.ref a, s1, _, s2, _, _, rfl, rfl, _, rfl, a, xs, rfl, hp3, same_sqT (Same.trans (Same.hid sm1) sm13) hq, fun q3 H4 sm4 hq3 => ?_⟩
  have lc2 := ge2.len
  refine ⟨q2, q3, _, _, rfl, rfl, hp3.imp fun o h => sm4 _ _ h, same_sqT (Same.hid sm4) hq2, hq3, ?_, fun q4 H5 sm5 hq4 => ?_⟩
  · rw [List.length_append, lc1, lc2]
    exact small (by show es1.length + 1 + es2.length ≤ 1000; omega)
  have sm35 : Same H3 H5 := Same.trans sm4 sm5
  refine fin q4 es1 es2 H5 (Same.trans sm23 sm35) (.tup hq4 ?_) me1 me2 (by omega) (by omega)
  exact ((ge1.same (Same.trans sm13 (Same.hid sm35))).append (.cons (hdx.same (Same.hid (Same.trans sm23 sm35))) .nil)).append (ge2.same (Same.hid sm35))
end Fr
set_option Elab.async false
set_option linter.all false
set_option maxRecDepth 100000
set_option maxHeartbeats 2000000
namespace Fr
open PySem L2
/-- a text of one sign, so often -/
theorem op_mulT {X : Cx} : OpR X (binaryOp .Mult) (fun x y H Q => ∃ (z r : Str) (n : Int), x = .str z ∧ y = .int n ∧ 2 ≤ n ∧ n ≤ 100 ∧ z.length = 1 ∧ (⟨(List.replicate n.toNat z.cps).foldl (· ++ ·) #[]⟩ : Str) = r ∧ r.length ≤ 1000 ∧ Q (.str r) H) := by
  intro pins s σ H x y v u Q I rx ry h
  obtain ⟨z, r, n, rfl, rfl, h1, h2, hz, e, hl, q⟩ := h
  obtain ⟨t, rfl⟩ := rx
  obtain ⟨t', rfl⟩ := ry
  refine P.mul_str (by rw [decide_eq_false (by omega), decide_eq_false (by omega)]; rfl) (fun _ _ => ?_) (fun _ _ => ?_) ?_
  · rw [hz]
    have : (1 : Int) ≤ (2 ^ 63 - 1) / n := (Int.le_ediv_iff_mul_le (by omega)).mpr (by omega)
    show ¬ ((1 : Nat) : Int) > _
    omega
  · rw [hz]
    exact decide_eq_false (by rw [sizeLine_eq]; omega)
  · rw [if_neg (by omega), if_neg (by
      rw [hz]
      have : (n == 1) = false := beq_eq_false_iff_ne.mpr (by omega)
      rw [this]
      decide), e]
    exact ⟨small hl, .str r, H, I.tok _, ⟨s.toks, rfl⟩, q⟩
abbrev s__law_spoilt : Stmt := top 24
abbrev sc__law_spoiltN : List Str := ["_law_pot", "_law_thing", "_law_at", "_law_piece", "_law_times", "_law_way", "_law_odd"]
theorem sc__law_spoilt : FnScope sc__law_spoiltN ["_law_pot", "_law_thing"] (defScope s__law_spoilt) := ⟨rfl, rfl, rfl, by decide +kernel, rfl, by decide +kernel, by decide +kernel⟩
def Spo (k : Nat) (d : PyData) : Prop := Ok (nb k) (2 * k + 2) d
def spSpoilt (K : PySem.W.Frag) (k : Nat) : Sp := fun vs H Q _ => ∃ (p a : Addr) (n : Nat) (d : PyData), vs = [.ref p, .ref a] ∧ Pot H p n ∧ n + 3 * k < 1000000 ∧ Dv K (hid [p] H) (.ref a) d ∧ Tale k d ∧
  ∀ (v : V) (d' : PyData) (H' : Hp), Pot H' p (n + 3 * k) → But p H H' → Dv K (hid [p] H') v d' → Spo k d' → Q v H'
theorem share {c A B : Prop} [Decidable c] (hB : B) (h : c → B → A) : if c then A else B := ite2 (fun hc => h hc hB) (fun _ => hB)
theorem spo_around {j : Nat} {ds es1 es2 : List PyData} {dx : PyData} (hds : ∀ x ∈ ds, Ok (tn j + 50) (2 * j + 1) x) (hx : Ok (nb j + 90) (2 * j + 3) dx) (m1 : ∀ e ∈ es1, e ∈ ds) (m2 : ∀ e ∈ es2, e ∈ ds) (l1 : es1.length ≤ 6) (l2 : es2.length ≤ 6) : Spo (j + 1) (.tuple (es1 ++ [dx] ++ es2)) := by
  refine (ok_tup (N := nb (j + 1)) (M := 2 * j + 3) (fun e he => ?_) ?_).mono (Nat.le_refl _) (by omega)
  · rcases List.mem_append.mp he with he | he
    · rcases List.mem_append.mp he with he | he
      · exact ⟨_, (hds e (m1 e he)).mono (Nat.le_refl _) (by omega)⟩
      · rw [List.mem_singleton.mp he]
        exact ⟨_, hx⟩
    · exact ⟨_, (hds e (m2 e he)).mono (Nat.le_refl _) (by omega)⟩
  · rw [lens_append, lens_append, lens_cons, lens_nil]
    have a1 := lens_le fun e he => (hds e (m1 e he)).len
    have a2 := lens_le fun e he => (hds e (m2 e he)).len
    have b1 : es1.length * (tn j + 50 + 2) ≤ 6 * (tn j + 50 + 2) := Nat.mul_le_mul_right _ l1
    have b2 : es2.length * (tn j + 50 + 2) ≤ 6 * (tn j + 50 + 2) := Nat.mul_le_mul_right _ l2
    have b3 := hx.len
    have b4 := tn_nb j
    show _ ≤ 13 * (nb j + 92) + 3
    omega
theorem spo_from {j : Nat} {ds es : List PyData} (hds : ∀ x ∈ ds, Ok (tn j + 50) (2 * j + 1) x) (m : ∀ e ∈ es, e ∈ ds) (l : es.length ≤ 12) : Spo (j + 1) (.tuple es) ∧ Spo (j + 1) (.list es) := by
  have a1 := lens_le fun e he => (hds e (m e he)).len
  have b1 : es.length * (tn j + 50 + 2) ≤ 12 * (tn j + 50 + 2) := Nat.mul_le_mul_right _ l
  have b4 := tn_nb j
  have z : lens es + 3 ≤ nb (j + 1) := by
    show _ ≤ 13 * (nb j + 92) + 3
    omega
  exact ⟨(ok_tup (M := 2 * j + 1) (fun e he => ⟨_, hds e (m e he)⟩) z).mono (Nat.le_refl _) (by omega), (ok_lst (M := 2 * j + 1) (fun e he => ⟨_, hds e (m e he)⟩) z).mono (Nat.le_refl _) (by omega)⟩
theorem pair_ok {j : Nat} {x : PyData} (h : ∃ p t, x = .tuple [p, .int t] ∧ 1 ≤ t ∧ t ≤ 1000000 ∧ ((∃ z, p = .str z ∧ Small z) ∨ Tale j p)) : Ok (tn j + 50) (2 * j + 1) x := by
  obtain ⟨p, t, rfl, t1, t2, hq⟩ := h
  refine ok_pair2 (N := tn j) ?_ (ok_int (tnat t1 t2) (by decide)) (by omega)
  rcases hq with ⟨z, rfl, hz⟩ | hq
  · exact ok_str hz.2 hz.1 (by have := tn_ge j; omega)
  · exact tale_ok hq
section
variable {P : Program} {w : World} {K : PySem.W.Frag} {mg : Str → Option Value} {base : Heap}
theorem ok_spoilt {f : Addr} {fd : FuncData} {k lev : Nat} {spP : Sp} (F : Fun K "_law_spoilt" "_law_spoilt" s__law_spoilt f fd) (T : Bare mg) (C : Con K mg) (hk : 1 ≤ k) (hk4 : k ≤ 4) (hl : 2 ≤ lev) (hP : ∀ j, k = j + 2 → spP = spSpoilt K (j + 1))
    (CT : Callee P w K mg base 1 "_law_take" ["_law_pot", "_law_upto"] spTake) (CO : Callee P w K mg base 2 "_law_of" ["_law_pot", "_law_some"] (spOf K))
    (CP : Callee P w K mg base lev "_law_spoilt" ["_law_pot", "_law_thing"] spP) : FnOk P w K mg base CX0 (lev + 1) f fd ["_law_pot", "_law_thing"] (spSpoilt K k) := by
  refine F.ok sc__law_spoilt (fun vs H Q E h => ?_) (fun cdv A outer s H vs Q E hr h => ?_)
  · obtain ⟨p, a, n, d, rfl, _⟩ := h
    rfl
  obtain ⟨p, a, n, d, rfl, hp, hn, hd, ht, q⟩ := h
  have hr1 := hr.mono (Nat.le_trans (by decide : 1 ≤ 2) hl)
  have hr2 := hr.mono hl
  refine ⟨_, (pss_cons (ps_set (i := 2) sc__law_spoilt.nd rfl (Or.inl rfl) (pe_call CT.ok hr1 rfl CT.mg CT.kp CT.b .nil pass0 (pa_cons (pv 0) (pa_cons (pe_callB call_len_seq (by rfl) T.len PySem.boot_len (pa_cons (pv 1) pa_nil)) pa_nil))))
(pss_cons (ps_asg (pe_ix ix_tup (pv 1) (pv 2) (fun _ _ => rfl)) (pg_tup (by rfl) (pgs_cons (pg_name (i := 3) sc__law_spoilt.nd rfl (Or.inl rfl)) (pgs_cons (pg_name (i := 4) sc__law_spoilt.nd rfl (Or.inl rfl)) pgs_nil))))
(pss_cons (ps_set (i := 5) sc__law_spoilt.nd rfl (Or.inl rfl) (pe_call CT.ok hr1 rfl CT.mg CT.kp CT.b .nil pass0 (pa_cons (pv 0) (pa_cons pe_int pa_nil))))
(pss_cons (ps_if (PW.pt (pw_and (pt_cmpR op_lt (pv 5) pe_int (nomark _)) (pw_and1 (pt_val (pe_callB call_isD (by rfl) C.isi boot_isi (pa_cons (pv 3) (pa_cons (pe_bltn (v := .ty "tuple") (u := .type "tuple") (by rfl) T.tuple (by decide +kernel) rfl) pa_nil)))))))
(pss_one (ps_ret (pe_weak around_of (pe_op (op_catP p) (pe_op (op_catP p) (pe_slice (sl_tupP p) (pv 1) po_none (po_some (pv 2))) (pe_tup (pa_cons (pe_tup (pa_cons (pe_call CP.ok hr rfl CP.mg CP.kp CP.b .nil pass0 (pa_cons (pv 0) (pa_cons (pv 3) pa_nil))) (pa_cons (pv 4) pa_nil))) pa_nil))) (pe_slice (sl_tupP p) (pv 1) (po_some (pe_op op_add (pv 2) pe_int)) po_none)))))
pss_nil)
(pss_cons (ps_if (pt_cmpR op_lt (pv 5) pe_int (nomark _))
(pss_one (ps_set (i := 3) sc__law_spoilt.nd rfl (Or.inl rfl) (pe_call CO.ok hr2 rfl CO.mg CO.kp CO.b .nil pass0 (pa_cons (pv 0) (pa_cons (pe_lst (pa_cons pe_str (pa_cons pe_str (pa_cons pe_str (pa_cons (pe_op op_mulT pe_str pe_int) (pa_cons pe_str (pa_cons pe_str (pa_cons pe_non (pa_cons pe_int (pa_cons (pe_tup pa_nil) (pa_cons (pe_lst pa_nil) (pa_cons (pe_tup (pa_cons pe_str pa_nil)) (pa_cons (pe_op op_mulT pe_str pe_int) pa_nil))))))))))))) pa_nil)))))
(pss_one (ps_if (pt_cmpR op_lt (pv 5) pe_int (nomark _))
(pss_one (ps_set (i := 4) sc__law_spoilt.nd rfl (Or.inl rfl) (pe_call CO.ok hr2 rfl CO.mg CO.kp CO.b .nil pass0 (pa_cons (pv 0) (pa_cons (pe_lst (pa_cons pe_int (pa_cons (pe_un un_neg pe_int) (pa_cons pe_bl (pa_cons pe_non (pa_cons pe_str (pa_cons (pe_op op_add (pe_op op_pow pe_int pe_int) pe_int) (pa_cons (pe_op op_pow pe_int pe_int) (pa_cons (pe_tup (pa_cons pe_int pa_nil)) (pa_cons pe_int pa_nil)))))))))) pa_nil)))))
(pss_one (ps_if (pt_cmpR op_eq (pv 5) pe_int (nomark _))
(pss_one (ps_ret (pe_call CO.ok hr2 rfl CO.mg CO.kp CO.b .nil pass0 (pa_cons (pv 0) (pa_cons (pe_lst (pa_cons (pe_callTy call_list_of (by rfl) T.list (by decide +kernel) (pa_cons (pv 1) pa_nil)) (pa_cons (pe_op (op_catP p) (pv 1) (pe_op op_repT (pe_tup (pa_cons (pe_tup (pa_cons (pv 3) (pa_cons (pv 4) pa_nil))) pa_nil)) pe_int)) (pa_cons (pe_op (op_catP p) (pe_slice (sl_tupP p) (pv 1) po_none (po_some (pv 2))) (pe_slice (sl_tupP p) (pv 1) (po_some (pe_op op_add (pv 2) pe_int)) po_none)) (pa_cons (pe_tup (pa_cons (pv 1) pa_nil)) pa_nil))))) pa_nil)))))
(pss_cons (ps_set (i := 6) sc__law_spoilt.nd rfl (Or.inl rfl) (pe_call CO.ok hr2 rfl CO.mg CO.kp CO.b .nil pass0 (pa_cons (pv 0) (pa_cons (pe_lst (pa_cons (pe_lst (pa_cons (pv 3) (pa_cons (pv 4) pa_nil))) (pa_cons (pe_tup (pa_cons (pv 3) pa_nil)) (pa_cons (pe_tup (pa_cons (pv 3) (pa_cons (pv 4) (pa_cons pe_int pa_nil)))) (pa_cons (pv 3) pa_nil))))) pa_nil))))
(pss_one (ps_ret (pe_weak around_of (pe_op (op_catP p) (pe_op (op_catP p) (pe_slice (sl_tupP p) (pv 1) po_none (po_some (pv 2))) (pe_tup (pa_cons (pv 6) pa_nil))) (pe_slice (sl_tupP p) (pv 1) (po_some (pe_op op_add (pv 2) pe_int)) po_none)))))))))))
(pss_one (ps_ret (pe_weak around_of (pe_op (op_catP p) (pe_op (op_catP p) (pe_slice (sl_tupP p) (pv 1) po_none (po_some (pv 2))) (pe_tup (pa_cons (pe_tup (pa_cons (pv 3) (pa_cons (pv 4) pa_nil))) pa_nil))) (pe_slice (sl_tupP p) (pv 1) (po_some (pe_op op_add (pv 2) pe_int)) po_none)))))))))), ?_⟩
  obtain ⟨j, rfl⟩ : ∃ j, k = j + 1 := ⟨k - 1, by omega⟩
  obtain ⟨ds, rfl, l1, l6, hpairs⟩ := ht
  have hds : ∀ x ∈ ds, Ok (tn j + 50) (2 * j + 1) x := fun x hx => pair_ok (hpairs x hx)
  cases hd with
  | @tup a xs _ hq g =>
  have hlen := g.len
  refine ⟨.ref p, rfl, .ref a, rfl, a, xs, rfl, .inr (same_sqT hid_same hq), p, (xs.length : Int), n, rfl, hp, by omega, by omega, by omega, fun u H1 u0 u1 hp1 b1 => ?_⟩
  obtain ⟨u, rfl⟩ : ∃ m : Nat, u = m := ⟨u.toNat, by omega⟩
  have s1 := But.hid b1 (List.mem_singleton.mpr rfl)
  have hu : u < xs.length := by omega
  obtain ⟨dx, hdx, hvx⟩ := g.get (List.getElem?_eq_getElem hu)
  have hmem : dx ∈ ds := List.mem_of_getElem? hdx
  obtain ⟨dp, t, rfl, t1, t2, hpc⟩ := hpairs dx hmem
  generalize hx : xs[u] = x at hvx
  cases hvx with
  | @tup b ys _ hqb gb =>
  cases gb with
  | @cons vp _ _ _ gp g1 =>
  cases g1 with
  | @cons vt _ _ _ gt g2 =>
  cases g2
  cases gt
  refine ⟨.ref a, rfl, _, rfl, a, xs, _, _, rfl, rfl, same_sqT hid_same (same_sqT s1 hq), atI_nat (List.getElem?_eq_getElem hu), ?_⟩
  rw [hx]
  refine ⟨b, _, rfl, same_sqT hid_same (same_sqT s1 hqb), rfl, vp, _, rfl, .int t, _, rfl, rfl, ?_⟩
  refine ⟨.ref p, rfl, p, 9, _, rfl, hp1, by omega, by decide, by decide, fun w H3 w0 w1 hp3 b3 => ?_⟩
  have s3 := But.hid b3 (List.mem_singleton.mpr rfl)
  have s03 := Same.trans s1 s3
  have b03 := b1.trans b3
  have okp : Ok (nb j) (2 * j + 2) dp := by
    rcases hpc with ⟨z, rfl, hz⟩ | hpc
    · exact ok_str hz.2 hz.1 (by have := nb_ge j; omega)
    · exact (tale_ok hpc).mono (tn_nb j) (by omega)
  have okt : Ok 42 (2 * j + 2) (.int t) := ok_int (tnat t1 t2) (by decide)
  have fin : ∀ (H' : Hp) (vp' vt' : V) (dp' dt' : PyData), Pot H' p (n + 3 * (j + 1)) → But p H H' → Dv K (hid [p] H') vp' dp' → Dv K (hid [p] H') vt' dt' → Ok (nb j) (2 * j + 2) dp' → Ok 42 (2 * j + 2) dt' →
      tAround K p (tTup (tCons (tVar 3) (tCons (tVar 4) tNil))) [some (.ref p), some (.ref a), some (.int (u : Int)), some vp', some vt', some (.int w), none] H' Q := fun H' vp' vt' dp' dt' hp' b' g1 g2 o1 o2 => by
    have s' := But.hid b' (List.mem_singleton.mpr rfl)
    have is' : ∃ o, H' p = some o := hp'.is.elim fun _ e => ⟨_, e⟩
    refine ⟨a, xs, ds, u, rfl, rfl, is', same_sqT s' hq, g.same s', by omega, fun H1 sm1 Cc k => ⟨vp', rfl, vt', rfl, small (by show 2 ≤ 1000; decide), fun r hr => ?_⟩⟩
    have sm2 : Same H' (upd H1 r (.tup [vp', vt'])) := Same.trans sm1 (same_new hr _)
    have is1 : ∃ o, H1 p = some o := is'.imp fun _ e => sm1 _ _ e
    refine k (.ref r) (.tuple [dp', dt']) _ (But.of_same (same_new hr _)) (is'.imp fun _ e => sm2 _ _ e) (.tup (.inl (.inl (hid_new' is1 hr))) (.cons (g1.same (Same.hid sm2)) (.cons (g2.same (Same.hid sm2)) .nil))) fun r2 es1 es2 H3 sm3 hd3 m1 m2 k1 k2 => ?_
    exact q (.ref r2) _ H3 (hp'.same (Same.trans sm2 sm3)) (b'.trans (But.of_same (Same.trans sm2 sm3))) hd3 (spo_around hds ((ok_pair2 o1 o2 (Nat.le_refl _)).mono (by omega) (Nat.le_refl _)) m1 m2 k1 k2)
  refine ⟨_, rfl, w, 3, rfl, rfl, _, rfl, ?_⟩
  refine share ?_ (fun h3 rest => ?_)
  rotate_left
  · refine ⟨vp, rfl, vp, dp, "tuple", rfl, (gp.same s03).same hid_same, .inl rfl, _, rfl, ?_⟩
    cases ht : isT "tuple" dp with
    | false => exact rest
    | true =>
    clear rest
    refine iteT ?_
    rcases hpc with ⟨z, rfl, _⟩ | hpc
    · obtain ⟨_, e⟩ := (isT_tuple _).mp ht
      cases e
    cases j with
    | zero => exact hpc.elim
    | succ j =>
    have hsP := hP j rfl
    subst hsP
    obtain ⟨es, rfl⟩ := (isT_tuple _).mp ht
    have gp3 := gp.same s03
    cases gp3 with
    | @tup c zs _ hqc gc =>
    have is3 : ∃ o, H3 p = some o := hp3.is.elim fun _ e => ⟨_, e⟩
    refine ⟨a, xs, ds, u, rfl, rfl, is3, same_sqT s03 hq, g.same s03, by omega, fun H4 sm4 Cc kk => ?_⟩
    refine ⟨.ref p, rfl, .ref c, rfl, p, c, _, _, rfl, hp3.same sm4, ?_, (Dv.tup hqc gc).same (Same.hid sm4), hpc, fun v d' H5 hp5 b5 hd5 ho5 => ?_⟩
    · show n + 1 + 1 + 3 * (j + 1) < 1000000
      omega
    refine ⟨.int t, rfl, small (by show 2 ≤ 1000; decide), fun r hr => ?_⟩
    have is5 : ∃ o, H5 p = some o := hp5.is.elim fun _ e => ⟨_, e⟩
    have sm5 : Same H5 (upd H5 r (.tup [v, .int t])) := same_new hr _
    refine kk (.ref r) (.tuple [d', .int t]) _ (b5.trans (But.of_same sm5)) (is5.imp fun _ e => sm5 _ _ e) (.tup (.inl (.inl (hid_new' is5 hr))) (.cons (hd5.same (Same.hid sm5)) (.cons (.int t) .nil))) fun r2 es1 es2 H6 sm6 hd6 m1 m2 k1 k2 => ?_
    have o2 : Ok (nb (j + 1)) (2 * (j + 1) + 2) d' := ho5
    exact q (.ref r2) _ H6 ((hp5.same (Same.trans sm5 sm6)).more (by omega)) (b03.trans (same_but sm4 (b5.trans (But.of_same (Same.trans sm5 sm6))))) hd6 (spo_around hds ((ok_pair2 o2 okt (Nat.le_refl _)).mono (by omega) (Nat.le_refl _)) m1 m2 k1 k2)
  refine iteF ?_
  have is3 : ∃ o, H3 p = some o := hp3.is.elim fun _ e => ⟨_, e⟩
  refine ⟨_, rfl, w, 5, rfl, rfl, _, rfl, ?_⟩
  refine ite2 (fun h5 => ?_) (fun h5 => ?_)
  · refine ⟨.ref p, rfl, _, "aaaaaaaaaaaaaaaaaaaaa", 21, rfl, rfl, by decide, by decide, rfl, by decide +kernel, by decide, ?_⟩
    refine ⟨small (by show 0 ≤ 1000; decide), fun r1 e1 => ⟨small (by show 0 ≤ 1000; decide), fun r2 e2 => ⟨small (by show 1 ≤ 1000; decide), fun r3 e3 => ?_⟩⟩⟩
    refine ⟨_, "aaaaaaaaaaaaaaaaaaaa", 20, rfl, rfl, by decide, by decide, rfl, by decide +kernel, by decide, ?_⟩
    refine ⟨small (by show 12 ≤ 1000; decide), fun l e4 => ?_⟩
    have q1 := hp3.new e1 (.tup [])
    have q2 := q1.new e2 (.lst [])
    have q3 := q2.new e3 (.tup [.str "a"])
    have q4 := q3.new e4 (.lst [.str "", .str "A", .str "a1", .str "aaaaaaaaaaaaaaaaaaaaa", .str "a b", .str "a\n", .non, .int 7, .ref r1, .ref r2, .ref r3, .str "aaaaaaaaaaaaaaaaaaaa"])
    have nel := q3.ne e4
    refine ⟨p, .ref l, [.str "", .str "A", .str "a1", .str "aaaaaaaaaaaaaaaaaaaaa", .str "a b", .str "a\n", .non, .int 7, .ref r1, .ref r2, .ref r3, .str "aaaaaaaaaaaaaaaaaaaa"], _, rfl, q4, by omega, .inl ⟨l, rfl, .inl (.inl (.inl upd_same))⟩, fun e => nel (V.ref.inj e), (by show 0 < 12; decide), (by show 12 < 1000; decide), fun i v H5 hv hp5 b5 => ?_⟩
    have lits : ∃ d', Dv K (hid [p] (upd (upd (upd (upd H3 r1 (.tup [])) r2 (.lst [])) r3 (.tup [.str "a"])) l (.lst [.str "", .str "A", .str "a1", .str "aaaaaaaaaaaaaaaaaaaaa", .str "a b", .str "a\n", .non, .int 7, .ref r1, .ref r2, .ref r3, .str "aaaaaaaaaaaaaaaaaaaa"]))) v d' ∧ Ok 254 1 d' := by
      have txt : ∀ z : Str, z.length ≤ 21 → (∀ c ∈ tl z, c < 16 ^ 8) → ∃ d', Dv K (hid [p] (upd (upd (upd (upd H3 r1 (.tup [])) r2 (.lst [])) r3 (.tup [.str "a"])) l (.lst [.str "", .str "A", .str "a1", .str "aaaaaaaaaaaaaaaaaaaaa", .str "a b", .str "a\n", .non, .int 7, .ref r1, .ref r2, .ref r3, .str "aaaaaaaaaaaaaaaaaaaa"]))) (.str z) d' ∧ Ok 254 1 d' := fun z l1 l2 => ⟨.str z, .str z (by omega), ok_str l2 l1 (by decide)⟩
      have o1 := hid_new' (o := .tup []) is3 e1
      have o2 := hid_new' (o := .lst []) (q1.is.elim fun _ e => ⟨_, e⟩) e2
      have o3 := hid_new' (o := .tup [.str "a"]) (q2.is.elim fun _ e => ⟨_, e⟩) e3
      have m2 := Same.hid (l := [p]) (same_new e2 (.lst []))
      have m3 := Same.hid (l := [p]) (same_new e3 (.tup [.str "a"]))
      have m4 := Same.hid (l := [p]) (same_new e4 (.lst [.str "", .str "A", .str "a1", .str "aaaaaaaaaaaaaaaaaaaaa", .str "a b", .str "a\n", .non, .int 7, .ref r1, .ref r2, .ref r3, .str "aaaaaaaaaaaaaaaaaaaa"]))
      have := List.mem_of_getElem? hv
      simp only [List.mem_cons, List.not_mem_nil, or_false] at this
      rcases this with rfl | rfl | rfl | rfl | rfl | rfl | rfl | rfl | rfl | rfl | rfl | rfl
      · exact txt _ (by decide) (by decide +kernel)
      · exact txt _ (by decide) (by decide +kernel)
      · exact txt _ (by decide) (by decide +kernel)
      · exact txt _ (by decide) (by decide +kernel)
      · exact txt _ (by decide) (by decide +kernel)
      · exact txt _ (by decide) (by decide +kernel)
      · exact ⟨.none, .non, ok_non (by decide)⟩
      · exact ⟨.int 7, .int 7, ok_int (by decide) (by decide)⟩
      · exact ⟨.tuple [], .tup (.inl (.inl (m4 _ _ (m3 _ _ (m2 _ _ o1))))) .nil, ok_tup (fun _ h => absurd h List.not_mem_nil) (by decide)⟩
      · exact ⟨.list [], .lst (.inl (.inl (m4 _ _ (m3 _ _ o2)))) .nil, ok_lst (fun _ h => absurd h List.not_mem_nil) (by decide)⟩
      · refine ⟨.tuple [.str "a"], .tup (.inl (.inl (m4 _ _ o3))) (.cons (.str _ (by decide)) .nil), ok_tup (fun d h => ?_) ?_⟩
        · rw [List.mem_singleton.mp h]
          exact ⟨12, ok_str (n := 1) (by decide +kernel) (by decide) (by decide)⟩
        · rw [lens_cons, lens_nil]
          have := (ok_str (n := 1) (N := 12) (M := 0) (z := "a") (by decide +kernel) (by decide) (by decide)).len
          omega
      · exact txt _ (by decide) (by decide +kernel)
    obtain ⟨d', hd', o'⟩ := lits
    have sm : Same H3 (upd (upd (upd (upd H3 r1 (.tup [])) r2 (.lst [])) r3 (.tup [.str "a"])) l (.lst [.str "", .str "A", .str "a1", .str "aaaaaaaaaaaaaaaaaaaaa", .str "a b", .str "a\n", .non, .int 7, .ref r1, .ref r2, .ref r3, .str "aaaaaaaaaaaaaaaaaaaa"])) := Same.trans (Same.trans (Same.trans (same_new e1 _) (same_new e2 _)) (same_new e3 _)) (same_new e4 _)
    exact fin H5 v (.int t) d' (.int t) (hp5.more (by omega)) (b03.trans (same_but sm b5)) (hd'.same (But.hid b5 (List.mem_singleton.mpr rfl))) (.int t) (o'.mono (nb_ge j) (by omega)) okt
  refine ⟨_, rfl, w, 7, rfl, rfl, _, rfl, ?_⟩
  refine ite2 (fun h7 => ?_) (fun h7 => ?_)
  · refine ⟨.ref p, rfl, 1, rfl, 10, 18, rfl, rfl, ⟨by decide, by decide, by decide⟩, _, 1, rfl, rfl, 10, 18, rfl, rfl, ⟨by decide, by decide, by decide⟩, small (by show 1 ≤ 1000; decide), fun r1 e1 => ?_⟩
    refine ⟨small (by show 9 ≤ 1000; decide), fun l e4 => ?_⟩
    have q1 := hp3.new e1 (.tup [.int 2])
    have q4 := q1.new e4 (.lst [.int 0, .int (-1), .bl true, .non, .str "3", .int (10 ^ (18 : Int).toNat + 1), .int (10 ^ (18 : Int).toNat), .ref r1, .int 1])
    have nel := q1.ne e4
    refine ⟨p, .ref l, [.int 0, .int (-1), .bl true, .non, .str "3", .int (10 ^ (18 : Int).toNat + 1), .int (10 ^ (18 : Int).toNat), .ref r1, .int 1], _, rfl, q4, by omega, .inl ⟨l, rfl, .inl (.inl (.inl upd_same))⟩, fun e => nel (V.ref.inj e), (by show 0 < 9; decide), (by show 9 < 1000; decide), fun i v H5 hv hp5 b5 => ?_⟩
    have lits : ∃ d', Dv K (hid [p] (upd (upd H3 r1 (.tup [.int 2])) l (.lst [.int 0, .int (-1), .bl true, .non, .str "3", .int (10 ^ (18 : Int).toNat + 1), .int (10 ^ (18 : Int).toNat), .ref r1, .int 1]))) v d' ∧ Ok 42 1 d' := by
      have o1 := hid_new' (o := .tup [.int 2]) is3 e1
      have m4 := Same.hid (l := [p]) (same_new e4 (.lst [.int 0, .int (-1), .bl true, .non, .str "3", .int (10 ^ (18 : Int).toNat + 1), .int (10 ^ (18 : Int).toNat), .ref r1, .int 1]))
      have := List.mem_of_getElem? hv
      simp only [List.mem_cons, List.not_mem_nil, or_false] at this
      rcases this with rfl | rfl | rfl | rfl | rfl | rfl | rfl | rfl | rfl
      · exact ⟨.int 0, .int _, ok_int (by decide) (by decide)⟩
      · exact ⟨.int (-1), .int _, ok_int (by decide) (by decide)⟩
      · exact ⟨.bool true, .bl true, ok_bool true (by decide)⟩
      · exact ⟨.none, .non, ok_non (by decide)⟩
      · exact ⟨.str "3", .str _ (by decide), ok_str (n := 1) (by decide +kernel) (by decide) (by decide)⟩
      · exact ⟨.int _, .int _, ok_int (by decide +kernel) (by decide)⟩
      · exact ⟨.int _, .int _, ok_int (by decide +kernel) (by decide)⟩
      · refine ⟨.tuple [.int 2], .tup (.inl (.inl (m4 _ _ o1))) (.cons (.int _) .nil), ok_tup (fun d h => ?_) ?_⟩
        · rw [List.mem_singleton.mp h]
          exact ⟨20, ok_int (by decide) (by decide)⟩
        · rw [lens_cons, lens_nil]
          have := (ok_int (N := 20) (M := 0) (i := 2) (by decide) (by decide)).len
          omega
      · exact ⟨.int 1, .int _, ok_int (by decide) (by decide)⟩
    obtain ⟨d', hd', o'⟩ := lits
    have sm : Same H3 (upd (upd H3 r1 (.tup [.int 2])) l (.lst [.int 0, .int (-1), .bl true, .non, .str "3", .int (10 ^ (18 : Int).toNat + 1), .int (10 ^ (18 : Int).toNat), .ref r1, .int 1])) := Same.trans (same_new e1 _) (same_new e4 _)
    have s5 : Same (hid [p] H3) (hid [p] H5) := But.hid (same_but sm b5) (List.mem_singleton.mpr rfl)
    exact fin H5 vp v dp d' (hp5.more (by omega)) (b03.trans (same_but sm b5)) ((gp.same s03).same s5) (hd'.same (But.hid b5 (List.mem_singleton.mpr rfl))) okp (o'.mono (Nat.le_refl _) (by omega))
  refine ⟨_, rfl, rfl, _, rfl, ?_⟩
  refine ite2 (fun _ => ?_) (fun _ => ?_)
  · refine ⟨.ref p, rfl, .ref a, rfl, a, xs, rfl, .inr (same_sqT hid_same (same_sqT s03 hq)), fun r1 e1 => ?_⟩
    have m1 := Same.hid (l := [p]) (same_new e1 (.lst xs))
    have o1 := hid_new' (o := .lst xs) is3 e1
    have is4 : ∃ o, upd H3 r1 (.lst xs) p = some o := is3.imp fun _ e => same_new e1 _ _ _ e
    refine ⟨.ref a, rfl, vp, rfl, .int t, rfl, small (by show 2 ≤ 1000; decide), fun r2 e2 => ⟨small (by show 1 ≤ 1000; decide), fun r3 e3 => ?_⟩⟩
    have m2 := Same.hid (l := [p]) (same_new e2 (.tup [vp, .int t]))
    have o2 := hid_new' (o := .tup [vp, .int t]) is4 e2
    have is5 := is4.imp fun _ e => same_new e2 (.tup [vp, .int t]) _ _ e
    have m3 := Same.hid (l := [p]) (same_new e3 (.tup [.ref r2]))
    have is6 := is5.imp fun _ e => same_new e3 (.tup [.ref r2]) _ _ e
    refine ⟨r3, 6, [.ref r2], rfl, rfl, .inl (.inl upd_same), nofun, by decide, by decide, (by show 1 ≤ 1000; decide), fun r4 e4 => ?_⟩
    have m4 := Same.hid (l := [p]) (same_new e4 (.tup (List.replicate (6 : Int).toNat [V.ref r2]).flatten))
    have o4 := hid_new' (o := .tup (List.replicate (6 : Int).toNat [V.ref r2]).flatten) is6 e4
    have is7 := is6.imp fun _ e => same_new e4 (.tup (List.replicate (6 : Int).toNat [V.ref r2]).flatten) _ _ e
    have s37 := Same.trans m1 (Same.trans m2 (Same.trans m3 m4))
    have t37 : Same H3 _ := Same.trans (same_new e1 (.lst xs)) (Same.trans (same_new e2 (.tup [vp, .int t])) (Same.trans (same_new e3 (.tup [.ref r2])) (same_new e4 (.tup (List.replicate (6 : Int).toNat [V.ref r2]).flatten))))
    generalize hH7 : upd (upd (upd (upd H3 r1 (.lst xs)) r2 (.tup [vp, .int t])) r3 (.tup [.ref r2])) r4 (.tup (List.replicate (6 : Int).toNat [V.ref r2]).flatten) = H7 at *
    have g7 := g.same (Same.trans s03 s37)
    have q7 := same_sqT (Same.trans s03 s37) hq
    refine ⟨a, r4, xs, _, rfl, rfl, is7, q7, .inl (.inl o4), ?_, fun r5 H8 sm8 hq8 => ?_⟩
    · show xs.length + 6 ≤ sizeLine
      exact small (by omega)
    have h8 := Same.hid (l := [p]) sm8
    have is8 : ∃ o, H8 p = some o := is7.imp fun _ e => sm8 _ _ e
    refine ⟨.ref a, rfl, _, rfl, _, rfl, a, xs, rfl, is8, same_sqT h8 q7, fun r6 H9 sm9 hq9 => ?_⟩
    have h9 := Same.hid (l := [p]) sm9
    have is9 : ∃ o, H9 p = some o := is8.imp fun _ e => sm9 _ _ e
    obtain ⟨es1, ge1, le1, me1⟩ := cut_data (g7.same (Same.trans h8 h9)) none (some (u : Int))
    refine ⟨.ref a, rfl, _, rfl, _, _, rfl, rfl, _, rfl, a, xs, rfl, is9, same_sqT (Same.trans h8 h9) q7, fun r7 H10 sm10 hq10 => ?_⟩
    have h10 := Same.hid (l := [p]) sm10
    have is10 : ∃ o, H10 p = some o := is9.imp fun _ e => sm10 _ _ e
    obtain ⟨es2, ge2, le2, me2⟩ := cut_data (g7.same (Same.trans h8 (Same.trans h9 h10))) (some ((u : Int) + 1)) none
    have lc1 := ge1.len
    have lc2 := ge2.len
    refine ⟨r6, r7, _, _, rfl, rfl, is10, same_sqT h10 (by assumption), hq10, ?_, fun r8 H11 sm11 hq11 => ?_⟩
    · rw [lc1, lc2]
      exact small (by omega)
    have h11 := Same.hid (l := [p]) sm11
    have is11 : ∃ o, H11 p = some o := is10.imp fun _ e => sm11 _ _ e
    refine ⟨.ref a, rfl, small (by show 1 ≤ 1000; decide), fun r9 e9 => ?_⟩
    have h12 := Same.hid (l := [p]) (same_new e9 (.tup [.ref a]))
    have o9 := hid_new' (o := .tup [.ref a]) is11 e9
    have is12 := is11.imp fun _ e => same_new e9 (.tup [.ref a]) _ _ e
    refine ⟨small (by show 4 ≤ 1000; decide), fun l el => ?_⟩
    have h13 := Same.hid (l := [p]) (same_new el (.lst [.ref r1, .ref r5, .ref r8, .ref r9]))
    have t11 : Same H3 H11 := Same.trans t37 (Same.trans sm8 (Same.trans sm9 (Same.trans sm10 sm11)))
    have q13 := (hp3.same t11).new e9 (.tup [.ref a])
    have nel := q13.ne el
    refine ⟨p, .ref l, [.ref r1, .ref r5, .ref r8, .ref r9], _, rfl, q13.new el _, by omega, .inl ⟨l, rfl, .inl (.inl (.inl upd_same))⟩, fun e => nel (V.ref.inj e), (by show 0 < 4; decide), (by show 4 < 1000; decide), fun i v H14 hv hp14 b14 => ?_⟩
    have f9 := Same.trans h12 h13
    have f10 := Same.trans h11 f9
    have f8 := Same.trans h9 (Same.trans h10 f10)
    have f7 := Same.trans h8 f8
    have gf := g7.same f7
    have qf := same_sqT f7 q7
    have hP : Ok (tn j + 50) (2 * j + 1) (.tuple [dp, .int t]) := hds _ hmem
    have lits : ∃ d', Dv K (hid [p] (upd (upd H11 r9 (.tup [.ref a])) l (.lst [.ref r1, .ref r5, .ref r8, .ref r9]))) v d' ∧ Spo (j + 1) d' := by
      have := List.mem_of_getElem? hv
      simp only [List.mem_cons, List.not_mem_nil, or_false] at this
      rcases this with rfl | rfl | rfl | rfl
      · exact ⟨.list ds, .lst (.inl (.inl (f7 _ _ (m4 _ _ (m3 _ _ (m2 _ _ o1)))))) gf, (spo_from hds (fun _ h => h) (by omega)).2⟩
      · have dv : Dv K (hid [p] (upd (upd H11 r9 (.tup [.ref a])) l (.lst [.ref r1, .ref r5, .ref r8, .ref r9]))) (.ref r2) (.tuple [dp, .int t]) :=
          .tup (.inl (.inl (f7 _ _ (m4 _ _ (m3 _ _ o2))))) (.cons (gp.same (Same.trans s03 (Same.trans s37 f7))) (.cons (.int t) .nil))
        have six : DvAll K (hid [p] (upd (upd H11 r9 (.tup [.ref a])) l (.lst [.ref r1, .ref r5, .ref r8, .ref r9]))) (List.replicate (6 : Int).toNat [V.ref r2]).flatten [.tuple [dp, .int t], .tuple [dp, .int t], .tuple [dp, .int t], .tuple [dp, .int t], .tuple [dp, .int t], .tuple [dp, .int t]] :=
          .cons dv (.cons dv (.cons dv (.cons dv (.cons dv (.cons dv .nil)))))
        refine ⟨.tuple (ds ++ _), .tup (same_sqT f8 hq8) (gf.append six), (spo_from hds (fun e he => ?_) ?_).1⟩
        · rcases List.mem_append.mp he with he | he
          · exact he
          · simp only [List.mem_cons, List.not_mem_nil, or_false, or_self] at he
            rw [he]
            exact hmem
        · rw [List.length_append]
          show ds.length + 6 ≤ 12
          omega
      · refine ⟨.tuple (es1 ++ es2), .tup (same_sqT f9 hq11) ((ge1.same (Same.trans h10 f10)).append (ge2.same f10)), (spo_from hds (fun e he => ?_) ?_).1⟩
        · rcases List.mem_append.mp he with he | he
          · exact me1 e he
          · exact me2 e he
        · rw [List.length_append]
          omega
      · have hw : Ok (tn (j + 1)) (2 * (j + 1)) (.tuple ds) := tale_ok (k := j + 1) ⟨ds, rfl, l1, l6, hpairs⟩
        refine ⟨.tuple [.tuple ds], .tup (.inl (.inl (h13 _ _ o9))) (.cons (.tup qf gf) .nil), ok_tup (M := 2 * (j + 1) + 1) (fun d hd => ?_) ?_⟩
        · rw [List.mem_singleton.mp hd]
          exact ⟨_, hw.mono (Nat.le_refl _) (by omega)⟩
        · rw [lens_cons, lens_nil]
          have c1 := hw.len
          have c2 := tn_nb j
          have c3 : tn (j + 1) = 6 * (tn j + 92) + 3 := rfl
          show _ ≤ 13 * (nb j + 92) + 3
          omega
    obtain ⟨d', hd', o'⟩ := lits
    exact q v d' H14 (hp14.more (by omega)) (b03.trans (same_but t11 (same_but (Same.trans (same_new e9 _) (same_new el _)) b14))) (hd'.same (But.hid b14 (List.mem_singleton.mpr rfl))) o'
  · refine ⟨.ref p, rfl, vp, rfl, .int t, rfl, small (by show 2 ≤ 1000; decide), fun r1 e1 => ⟨vp, rfl, small (by show 1 ≤ 1000; decide), fun r2 e2 => ⟨vp, rfl, .int t, rfl, small (by show 3 ≤ 1000; decide), fun r3 e3 => ⟨vp, rfl, small (by show 4 ≤ 1000; decide), fun l e4 => ?_⟩⟩⟩⟩
    have q1 := hp3.new e1 (.lst [vp, .int t])
    have q2 := q1.new e2 (.tup [vp])
    have q3 := q2.new e3 (.tup [vp, .int t, .int 1])
    have q4 := q3.new e4 (.lst [.ref r1, .ref r2, .ref r3, vp])
    have nel := q3.ne e4
    refine ⟨p, .ref l, [.ref r1, .ref r2, .ref r3, vp], _, rfl, q4, by omega, .inl ⟨l, rfl, .inl (.inl (.inl upd_same))⟩, fun e => nel (V.ref.inj e), (by show 0 < 4; decide), (by show 4 < 1000; decide), fun i v H5 hv hp5 b5 => ?_⟩
    have gp3 := gp.same s03
    have lits : ∃ d', Dv K (hid [p] (upd (upd (upd (upd H3 r1 (.lst [vp, .int t])) r2 (.tup [vp])) r3 (.tup [vp, .int t, .int 1])) l (.lst [.ref r1, .ref r2, .ref r3, vp]))) v d' ∧ Ok (nb j + 90) (2 * j + 3) d' := by
      have o1 := hid_new' (o := .lst [vp, .int t]) is3 e1
      have o2 := hid_new' (o := .tup [vp]) (q1.is.elim fun _ e => ⟨_, e⟩) e2
      have o3 := hid_new' (o := .tup [vp, .int t, .int 1]) (q2.is.elim fun _ e => ⟨_, e⟩) e3
      have m1 := Same.hid (l := [p]) (same_new e1 (.lst [vp, .int t]))
      have m2 := Same.hid (l := [p]) (same_new e2 (.tup [vp]))
      have m3 := Same.hid (l := [p]) (same_new e3 (.tup [vp, .int t, .int 1]))
      have m4 := Same.hid (l := [p]) (same_new e4 (.lst [.ref r1, .ref r2, .ref r3, vp]))
      have gv := gp3.same (Same.trans m1 (Same.trans m2 (Same.trans m3 m4)))
      have c1 := okp.len
      have c2 := okt.len
      have o1' : Ok 42 (2 * j + 2) (.int 1) := ok_int (by decide) (by decide)
      have c3 := o1'.len
      have := List.mem_of_getElem? hv
      simp only [List.mem_cons, List.not_mem_nil, or_false] at this
      rcases this with rfl | rfl | rfl | rfl
      · refine ⟨.list [dp, .int t], .lst (.inl (.inl (m4 _ _ (m3 _ _ (m2 _ _ o1))))) (.cons gv (.cons (.int t) .nil)), ok_lst (fun d h => ?_) ?_⟩
        · rcases mem2 h with rfl | rfl
          · exact ⟨_, okp⟩
          · exact ⟨_, okt⟩
        · rw [lens_cons, lens_cons, lens_nil]
          omega
      · refine ⟨.tuple [dp], .tup (.inl (.inl (m4 _ _ (m3 _ _ o2)))) (.cons gv .nil), ok_tup (fun d h => ?_) ?_⟩
        · rw [List.mem_singleton.mp h]
          exact ⟨_, okp⟩
        · rw [lens_cons, lens_nil]
          omega
      · have c4 := (ok_int (N := 20) (M := 0) (tnat t1 t2) (by decide)).len
        have c5 := (ok_int (N := 20) (M := 0) (i := 1) (by decide) (by decide)).len
        refine ⟨.tuple [dp, .int t, .int 1], .tup (.inl (.inl (m4 _ _ o3))) (.cons gv (.cons (.int t) (.cons (.int 1) .nil))), ok_tup (fun d h => ?_) ?_⟩
        · rcases mem3 h with rfl | rfl | rfl
          · exact ⟨_, okp⟩
          · exact ⟨_, okt⟩
          · exact ⟨_, o1'⟩
        · rw [lens_cons, lens_cons, lens_cons, lens_nil]
          omega
      · exact ⟨dp, gv, okp.mono (by omega) (by omega)⟩
    obtain ⟨d', hd', o'⟩ := lits
    have sm : Same H3 (upd (upd (upd (upd H3 r1 (.lst [vp, .int t])) r2 (.tup [vp])) r3 (.tup [vp, .int t, .int 1])) l (.lst [.ref r1, .ref r2, .ref r3, vp])) := Same.trans (Same.trans (Same.trans (same_new e1 _) (same_new e2 _)) (same_new e3 _)) (same_new e4 _)
    have s5 : Same (hid [p] H3) (hid [p] H5) := But.hid (same_but sm b5) (List.mem_singleton.mpr rfl)
    have is5 : ∃ o, H5 p = some o := hp5.is.elim fun _ e => ⟨_, e⟩
    refine ⟨a, xs, ds, u, rfl, rfl, is5, same_sqT (Same.trans s03 s5) hq, g.same (Same.trans s03 s5), by omega, fun H6 sm6 Cc kk => ⟨v, rfl, ?_⟩⟩
    have hd5 := hd'.same (But.hid b5 (List.mem_singleton.mpr rfl))
    refine kk v d' H6 (But.refl p H6) (is5.imp fun _ e => sm6 _ _ e) (hd5.same (Same.hid sm6)) fun r2 es1 es2 H7 sm7 hd7 m1 m2 k1 k2 => ?_
    exact q (.ref r2) _ H7 ((hp5.same (Same.trans sm6 sm7)).more (by omega)) (b03.trans ((same_but sm b5).trans (But.of_same (Same.trans sm6 sm7)))) hd7 (spo_around hds o' m1 m2 k1 k2)
end
end Fr
set_option Elab.async false
set_option linter.all false
set_option maxRecDepth 100000
set_option maxHeartbeats 2000000
namespace Fr
open PySem L2
abbrev s__law_told : Stmt := top 26
abbrev sc__law_toldN : List Str := ["_law_thing", "_law_got", "_law_caught", "error", "_law_is_bad"]
theorem sc__law_told : FnScope sc__law_toldN ["_law_thing"] (defScope s__law_told) := ⟨rfl, rfl, rfl, by decide +kernel, rfl, by decide +kernel, by decide +kernel⟩
/-- the facts of the classes that are asked of a kept exception -/
structure KeptTxt (K : PySem.W.Frag) (mg : Str → Option Value) (CB CP : Addr) : Prop where
  fr : PySem.W.FrC K CB
  nv : PySem.W.findIn K (.ref CB) "value" = some none
  mP : mg "PassError" = some (.ref CP)
  mB : mg "BadFar" = some (.ref CB)
  ex : PySem.W.exmOne K (.ref CB) (.ref CP) = some true
  kB : PySem.W.kitOne K (.ref CB) (.ref CB) = some true
  kV : PySem.W.kitOne K (.ref CB) (.type "ValueError") = some true
def toldV (v : V) (d : PyData) : List V := if far d = 0 then [.str "bad", v] else [.str "told", .int (far d : Nat)]
def spTold (K : PySem.W.Frag) : Sp := fun vs H Q _ => ∃ (v : V) (d : PyData), vs = [v] ∧ Dv K H v d ∧ ∀ r H', Same H H' → H' r = some (.tup (toldV v d)) → Q (.ref r) H'
theorem boot_verr : bootBuiltins "ValueError" = some (.type "ValueError") := by decide +kernel
section
variable {P : Program} {w : World} {K : PySem.W.Frag} {mg : Str → Option Value} {base : Heap}
theorem ok_told {f CB CP : Addr} {fd : FuncData} (F : Fun K "_law_told" "_law_told" s__law_told f fd) (T : Bare mg) (C : Con K mg) (TK : KeptTxt K mg CB CP) {fL : Addr} {fdL : FuncData} (OL : FnOk P w K mg base (L2.CX P w) 13 fL fdL ["far"] (spLength K CB))
    (mL : mg "far_length" = some (.ref fL)) (kL : PySem.W.keepIn K (.ref fL) = true) (bL : Binds K fdL ["far"] []) : FnOk P w K mg base CX0 14 f fd ["_law_thing"] (spTold K) := by
  refine F.ok sc__law_told (fun vs H Q E h => ?_) (fun cdv A outer s H vs Q E hr h => ?_)
  · obtain ⟨v, d, rfl, _⟩ := h
    rfl
  obtain ⟨v, d, rfl, hd, q⟩ := h
  refine ⟨_, (pss_cons (ps_asg (pe_tup (pa_cons pe_non (pa_cons pe_non pa_nil))) (pg_tup (by rfl) (pgs_cons (pg_name (i := 1) sc__law_told.nd rfl (Or.inl rfl)) (pgs_cons (pg_name (i := 2) sc__law_told.nd rfl (Or.inl rfl)) pgs_nil))))
(pss_cons (ps_try_kept (i := 3) rfl rfl rfl sc__law_told.nd rfl rfl ⟨rfl, by decide, .inl TK.mP⟩ takes0 (fun W pn xe tk _ => pss_one (ps_set (i := 1) sc__law_told.nd rfl (Or.inl rfl) (pe_callS OL hr rfl mL kL bL (fun σ => passAt tk σ) (pa_cons (pv 0) pa_nil)))) (fun a oe cls d pn hz hf => pss_one (ps_set (i := 2) sc__law_told.nd rfl (Or.inl rfl) (pv 3))))
(pss_cons (ps_if (pt_cmpR op_isN (pv 2) pe_non (nomark _))
(pss_one (ps_ret (pe_tup (pa_cons pe_str (pa_cons (pv 1) pa_nil)))))
pss_nil)
(pss_cons (ps_set (i := 4) sc__law_told.nd rfl (Or.inl rfl) (pe_and (pe_callB call_isK (by rfl) C.isi boot_isi (pa_cons (pv 2) (pa_cons (pe_glob (v := .ref CB) (by rfl) TK.mB rfl) pa_nil))) (pe_one (pe_callB call_isK (by rfl) C.isi boot_isi (pa_cons (pv 2) (pa_cons (pe_bltn (v := .ty "ValueError") (u := .type "ValueError") (by rfl) C.verr (by decide +kernel) rfl) pa_nil))))))
(pss_one (ps_ret (pe_ifExp (pt_val (pv 4)) (pe_tup (pa_cons pe_str (pa_cons (pe_kept (pv 2)) pa_nil))) (pe_tup (pa_cons pe_str (pa_cons pe_non pa_nil)))))))))), ?_⟩
  refine ⟨small (by show 2 ≤ 1000; decide), fun r0 e0 => ?_⟩
  have sm0 := same_new e0 (.tup [V.non, V.non])
  refine ⟨r0, [.non, .non], rfl, .inl (.inl upd_same), rfl, .non, _, rfl, .non, _, rfl, rfl, ?_⟩
  refine ⟨v, rfl, v, d, rfl, hd.same sm0, fun h0 H1 sm1 => ?_, fun h0 dd H1 nd sm1 hx => ?_⟩
  · refine ⟨_, rfl, rfl, _, rfl, iteT ⟨_, rfl, small (by show 2 ≤ 1000; decide), fun r er => ?_⟩⟩
    refine q r _ (Same.trans sm0 (Same.trans sm1 (same_new er _))) ?_
    rw [upd_same]
    unfold toldV
    rw [if_neg h0]
  · refine ⟨true, TK.ex, fun _ a na => ⟨.ref a, rfl, fun _ => ?_⟩, nofun⟩
    have sa := same_new na (ExD (.ref CB) (some dd) a)
    have hx' := sa _ _ hx
    refine ⟨_, rfl, rfl, _, rfl, iteF ?_⟩
    refine ⟨.ref a, rfl, a, CB, dd, [("value", v)], .ref CB, .ref CB, true, rfl, upd_same, hx', TK.fr, .own CB, TK.kB, _, rfl, iteT ?_⟩
    refine ⟨.ref a, rfl, a, CB, dd, [("value", v)], _, .type "ValueError", true, rfl, upd_same, hx', TK.fr, .ty _, TK.kV, ?_⟩
    refine ⟨_, rfl, _, rfl, iteT ?_⟩
    refine ⟨.ref a, rfl, a, CB, dd, [("value", v)], v, rfl, upd_same, hx', TK.fr, TK.nv, rfl, small (by show 2 ≤ 1000; decide), fun r er => ?_⟩
    refine q r _ (Same.trans sm0 (Same.trans sm1 (Same.trans sa (same_new er _)))) ?_
    rw [upd_same]
    unfold toldV
    rw [if_pos h0]
end
end Fr
set_option Elab.async false
set_option linter.all false
set_option maxRecDepth 100000
set_option maxHeartbeats 2000000
namespace Fr
open PySem L2
/-! ### an expression that builds data -/
def Knows (K : PySem.W.Frag) (ρ : List (Nat × PyData)) (σ : L2.St) (H : Hp) : Prop := ∀ r ∈ ρ, ∃ v, σ[r.1]? = some (some v) ∧ Dv K H v r.2
theorem Knows.same {K : PySem.W.Frag} {ρ : List (Nat × PyData)} {σ : L2.St} {H H' : Hp} (s : Same H H') (h : Knows K ρ σ H) : Knows K ρ σ H' := fun r m => (h r m).imp fun _ z => ⟨z.1, z.2.same s⟩
def tD (K : PySem.W.Frag) (ρ : List (Nat × PyData)) (d : PyData) : TE := fun σ H Q => Knows K ρ σ H ∧ ∀ v H', Same H H' → Dv K H' v d → Q v H'
def tDs (K : PySem.W.Frag) (ρ : List (Nat × PyData)) (ds : List PyData) : TA := fun σ H Q => Knows K ρ σ H ∧ ∀ vs H', Same H H' → DvAll K H' vs ds → Q vs H'
theorem paf_weak {X : Cx} {es : List Expr} {t t' : TA} (i : ∀ σ H Q, t' σ H Q → t σ H Q) (h : PA X es t) : PA X es t' := ⟨fun pos pins s σ H Q I q => h.run pos pins s σ H Q I (i _ _ _ q)⟩
section
variable {X : Cx} {ρ : List (Nat × PyData)} {e a b : Expr} {es : List Expr} {d : PyData} {ds : List PyData} {pos : Pos}
theorem pd_of {v : V} (hd : ∀ H, Dv X.K H v d) (h : PE X e (tC v)) : PE X e (tD X.K ρ d) := pe_weak (fun _ H _ q => q.2 v H (fun _ _ e => e) (hd H)) h
theorem pd_int {i : Int} {j pos} : PE X (.Constant (.int i) j pos) (tD X.K ρ (.int i)) := pd_of (fun _ => .int i) pe_int
theorem pd_bl {c : Bool} {j pos} : PE X (.Constant (.bool c) j pos) (tD X.K ρ (.bool c)) := pd_of (fun _ => .bl c) pe_bl
theorem pd_non {j pos} : PE X (.Constant .none j pos) (tD X.K ρ .none) := pd_of (fun _ => .non) pe_non
theorem pd_str {z : Str} {j pos} (h : z.length ≤ 1000000 := by decide) : PE X (.Constant (.str z) j pos) (tD X.K ρ (.str z)) := pd_of (fun _ => .str z h) pe_str
theorem pd_var {x : Str} {i : Nat} (m : (i, d) ∈ ρ) (h : PE X (.Name x pos) (tVar i)) : PE X (.Name x pos) (tD X.K ρ d) := pe_weak (fun σ H Q q => by
  obtain ⟨v, h1, h2⟩ := q.1 _ m
  exact ⟨v, h1, q.2 v H (fun _ _ e => e) h2⟩) h
theorem pd_nil : PA X [] (tDs X.K ρ []) := paf_weak (fun σ H Q q => q.2 [] H (fun _ _ e => e) .nil) pa_nil
theorem pd_cons (h : PE X e (tD X.K ρ d)) (t : PA X es (tDs X.K ρ ds)) (hs : starEach (e :: es) X.env = (false, eval e X.env) :: starEach es X.env := by rfl) : PA X (e :: es) (tDs X.K ρ (d :: ds)) :=
  paf_weak (fun σ H Q q => ⟨q.1, fun v H1 s1 h1 => ⟨q.1.same s1, fun vs H2 s2 h2 => q.2 _ H2 (Same.trans s1 s2) (.cons (h1.same s2) h2)⟩⟩) (pa_cons h t hs)
theorem pd_tup {x1} (t : PA X es (tDs X.K ρ ds)) (hl : ds.length ≤ 1000 := by decide) : PE X (.Tuple es x1 pos) (tD X.K ρ (.tuple ds)) :=
  pe_weak (fun σ H Q q => ⟨q.1, fun vs H1 s1 h1 => ⟨small (by rw [h1.len]; exact hl), fun r hr => q.2 _ _ (Same.trans s1 (same_new hr _)) (.tup (.inl (.inl upd_same)) (h1.same (same_new hr _)))⟩⟩) (pe_tup t)
theorem pd_lst (t : PA X es (tDs X.K ρ ds)) (hl : ds.length ≤ 1000 := by decide) : PE X (.List es pos) (tD X.K ρ (.list ds)) :=
  pe_weak (fun σ H Q q => ⟨q.1, fun vs H1 s1 h1 => ⟨small (by rw [h1.len]; exact hl), fun r hr => q.2 _ _ (Same.trans s1 (same_new hr _)) (.lst (.inl (.inl upd_same)) (h1.same (same_new hr _)))⟩⟩) (pe_lst t)
theorem pd_dict : PE X (.Dict [] [] pos) (tD X.K ρ (.dict [])) :=
  pe_weak (fun σ H Q q r hr => q.2 _ _ (same_new hr _) (.dct upd_same)) pe_dnewK
theorem pd_pow {i j : Int} (h : 0 ≤ j ∧ j ≤ 1000000 ∧ i.natAbs < 2 ^ 64) (ha : PE X a (tC (.int i))) (hb : PE X b (tC (.int j))) : PE X (.BinOp a .Pow b pos) (tC (.int (i ^ j.toNat))) :=
  pe_weak (fun σ H Q q => ⟨i, j, rfl, rfl, h, q⟩) (pe_op op_pow ha hb)
theorem pd_plus {i j : Int} (ha : PE X a (tC (.int i))) (hb : PE X b (tC (.int j))) : PE X (.BinOp a .Add b pos) (tC (.int (i + j))) :=
  pe_weak (fun σ H Q q => ⟨i, j, rfl, rfl, q⟩) (pe_op op_add ha hb)
theorem pd_mulT {z r : Str} {n : Int} (h1 : 2 ≤ n) (h2 : n ≤ 100) (hz : z.length = 1) (e : (⟨(List.replicate n.toNat z.cps).foldl (· ++ ·) #[]⟩ : Str) = r) (hr : r.length ≤ 1000) (ha : PE X a (tC (.str z))) (hb : PE X b (tC (.int n))) : PE X (.BinOp a .Mult b pos) (tC (.str r)) :=
  pe_weak (fun σ H Q q => ⟨z, r, n, rfl, rfl, h1, h2, hz, e, hr, q⟩) (pe_op op_mulT ha hb)
theorem DvAll.rep {K : PySem.W.Frag} {H : Hp} {vs : List V} {ds : List PyData} (h : DvAll K H vs ds) : ∀ n, DvAll K H (List.replicate n vs).flatten (List.replicate n ds).flatten
  | 0 => .nil
  | n + 1 => by
    rw [List.replicate_succ, List.flatten_cons, List.replicate_succ, List.flatten_cons]
    exact h.append (DvAll.rep h n)
theorem pd_rep {n : Int} (h1 : 2 ≤ n) (h2 : n ≤ 100) (hne : ds ≠ []) (hl : ds.length ≤ 100) (ha : PE X a (tD X.K ρ (.tuple ds))) (hb : PE X b (tC (.int n))) : PE X (.BinOp a .Mult b pos) (tD X.K ρ (.tuple (List.replicate n.toNat ds).flatten)) :=
  pe_weak (fun σ H Q q => ⟨q.1, fun v H1 s1 hv => by
    cases hv with
    | @tup l xs _ hq g =>
    have := g.len
    refine ⟨l, n, xs, rfl, rfl, hq, fun e => hne (by rw [e] at this; exact List.eq_nil_of_length_eq_zero this.symm), h1, by omega, by omega, fun r hr => ?_⟩
    exact q.2 _ _ (Same.trans s1 (same_new hr _)) (.tup (.inl (.inl upd_same)) ((g.rep n.toNat).same (same_new hr _)))⟩) (pe_op op_repT ha hb)
theorem pd_cat {es' : List PyData} (hl : ds.length + es'.length ≤ 1000) (ha : PE X a (tD X.K ρ (.tuple ds))) (hb : PE X b (tD X.K ρ (.tuple es'))) : PE X (.BinOp a .Add b pos) (tD X.K ρ (.tuple (ds ++ es'))) :=
  pe_weak (fun σ H Q q => ⟨q.1, fun v H1 s1 hv => ⟨q.1.same s1, fun v2 H2 s2 hv2 => by
    cases hv.same s2 with
    | @tup l xs _ hq g =>
    cases hv2 with
    | @tup l2 ys _ hq2 g2 =>
    have e1 := g.len
    have e2 := g2.len
    refine ⟨l, l2, xs, ys, rfl, rfl, hq, hq2, small (by omega), fun z => ?_, fun _ z => ?_, fun _ _ r hr => ?_⟩
    · have := q.2 (.ref l2) H2 (Same.trans s1 s2) (.tup hq2 (by
        subst z
        cases g
        exact g2))
      exact this
    · subst z
      cases g2
      exact q.2 (.ref l) H2 (Same.trans s1 s2) (.tup hq (by rw [List.append_nil]; exact g))
    · exact q.2 _ _ (Same.trans (Same.trans s1 s2) (same_new hr _)) (.tup (.inl (.inl upd_same)) ((g.append g2).same (same_new hr _)))⟩⟩) (pe_op op_catA ha hb)
end
end Fr
set_option Elab.async false
set_option linter.all false
set_option maxRecDepth 100000
set_option maxHeartbeats 2000000
namespace Fr
open PySem L2
abbrev s__law_edges : Stmt := top 25
abbrev sc__law_edgesN : List Str := ["_law_deep", "_law_turn", "_law_full", "_law_some"]
theorem sc__law_edges : FnScope sc__law_edgesN [] (defScope s__law_edges) := ⟨rfl, rfl, rfl, by decide +kernel, rfl, by decide +kernel, by decide +kernel⟩
def deepD : Nat → PyData
  | 0 => .tuple [.tuple [.str "a", .int 2]]
  | i + 1 => .tuple [.tuple [deepD i, .int 2]]
abbrev i18 : Int := 10 ^ (18 : Int).toNat
abbrev i6 : Int := 10 ^ (6 : Int).toNat
abbrev fullL : List PyData := [.tuple [.tuple [.tuple [.str "a", .int i18]], .int i6]]
abbrev one (z : Str) (t : Int) : PyData := .tuple [.str z, .int t]
abbrev edges1 : List PyData := [deepD 3, .tuple [.tuple [deepD 3, .int 1]], .tuple fullL, .tuple (fullL ++ [one "a" 1]), .tuple [one "a" i18], .tuple [one "a" (i18 + 1)], .tuple [one "zzzzzzzzzzzzzzzzzzzz" 1]]
abbrev edges2 : List PyData := [.tuple [one "zzzzzzzzzzzzzzzzzzzzz" 1], .tuple (List.replicate (6 : Int).toNat [one "ab" 1]).flatten, .tuple (List.replicate (7 : Int).toNat [one "ab" 1]).flatten, .tuple [one "" 1], .tuple [one "a" 0], .tuple [.tuple [.str "a", .bool true]]]
abbrev edges3 : List PyData := [.none, .bool true, .int 0, .str "", .str "a", .str "a*1", .tuple [], .list [], .dict [], .list [one "a" 1], one "a" 1, .tuple [one "a" 1, .none], .tuple [.tuple [one "a" 1]]]
def edges : List PyData := edges1 ++ edges2 ++ edges3
def spEdges (K : PySem.W.Frag) : Sp := fun vs H Q _ => vs = [] ∧ ∀ l xs H', Same H H' → H' l = some (.lst xs) → DvAll K H' xs edges → Q (.ref l) H'
section
variable {P : Program} {w : World} {K : PySem.W.Frag} {mg : Str → Option Value} {base : Heap}
theorem ok_edges {f : Addr} {fd : FuncData} (F : Fun K "_law_edges" "_law_edges" s__law_edges f fd) (T : Bare mg) : FnOk P w K mg base CX0 1 f fd [] (spEdges K) := by
  refine F.ok sc__law_edges (fun vs H Q E h => ?_) (fun cdv A outer s H vs Q E hr h => ?_)
  · obtain ⟨rfl, _⟩ := h
    rfl
  obtain ⟨rfl, q⟩ := h
  have hp18 : (0 : Int) ≤ 18 ∧ (18 : Int) ≤ 1000000 ∧ (10 : Int).natAbs < 2 ^ 64 := ⟨by decide, by decide, by decide⟩
  have hp6 : (0 : Int) ≤ 6 ∧ (6 : Int) ≤ 1000000 ∧ (10 : Int).natAbs < 2 ^ 64 := ⟨by decide, by decide, by decide⟩
  refine ⟨_, (pss_cons (ps_set (i := 0) sc__law_edges.nd rfl (Or.inl rfl) (pd_tup (ρ := []) (pd_cons (pd_tup (pd_cons pd_str (pd_cons pd_int pd_nil))) pd_nil)))
(pss_cons (ps_for PassesOwn.never rfl (pi_range1 (by rfl) T.range (pa_cons pe_int pa_nil)) (pg_name (i := 1) sc__law_edges.nd rfl (Or.inl rfl))
(pss_one (ps_set (i := 0) sc__law_edges.nd rfl (Or.inl rfl) (pe_tup (pa_cons (pe_tup (pa_cons (pv 0) (pa_cons pe_int pa_nil))) pa_nil)))))
(pss_cons (ps_set (i := 2) sc__law_edges.nd rfl (Or.inl rfl) (pd_tup (ρ := []) (pd_cons (pd_tup (pd_cons (pd_tup (pd_cons (pd_tup (pd_cons pd_str (pd_cons (pd_of (fun _ => .int _) (pd_pow hp18 pe_int pe_int)) pd_nil))) pd_nil)) (pd_cons (pd_of (fun _ => .int _) (pd_pow hp6 pe_int pe_int)) pd_nil))) pd_nil)))
(pss_cons (ps_set (i := 3) sc__law_edges.nd rfl (Or.inl rfl) (pe_lst (pd_cons (ρ := [(0, deepD 3), (2, .tuple fullL)]) (pd_var (.head _) (pv 0)) (pd_cons (pd_tup (pd_cons (pd_tup (pd_cons (pd_var (.head _) (pv 0)) (pd_cons pd_int pd_nil))) pd_nil)) (pd_cons (pd_var (.tail _ (.head _)) (pv 2)) (pd_cons (pd_cat (by decide) (pd_var (.tail _ (.head _)) (pv 2)) (pd_tup (pd_cons (pd_tup (pd_cons pd_str (pd_cons pd_int pd_nil))) pd_nil))) (pd_cons (pd_tup (pd_cons (pd_tup (pd_cons pd_str (pd_cons (pd_of (fun _ => .int _) (pd_pow hp18 pe_int pe_int)) pd_nil))) pd_nil)) (pd_cons (pd_tup (pd_cons (pd_tup (pd_cons pd_str (pd_cons (pd_of (fun _ => .int _) (pd_plus (pd_pow hp18 pe_int pe_int) pe_int)) pd_nil))) pd_nil)) (pd_cons (pd_tup (pd_cons (pd_tup (pd_cons (pd_of (fun _ => .str "zzzzzzzzzzzzzzzzzzzz" (by decide)) (pd_mulT (r := "zzzzzzzzzzzzzzzzzzzz") (by decide) (by decide) rfl (by decide +kernel) (by decide) pe_str pe_int)) (pd_cons pd_int pd_nil))) pd_nil)) pd_nil)))))))))
(pss_cons (ps_set (i := 3) sc__law_edges.nd rfl (Or.inl rfl) (pe_op op_cat (pv 3) (pe_lst (pd_cons (ρ := []) (pd_tup (pd_cons (pd_tup (pd_cons (pd_of (fun _ => .str "zzzzzzzzzzzzzzzzzzzzz" (by decide)) (pd_mulT (r := "zzzzzzzzzzzzzzzzzzzzz") (by decide) (by decide) rfl (by decide +kernel) (by decide) pe_str pe_int)) (pd_cons pd_int pd_nil))) pd_nil)) (pd_cons (pd_rep (ds := [one "ab" 1]) (by decide) (by decide) (List.cons_ne_nil _ _) (by decide) (pd_tup (pd_cons (pd_tup (pd_cons pd_str (pd_cons pd_int pd_nil))) pd_nil)) pe_int) (pd_cons (pd_rep (ds := [one "ab" 1]) (by decide) (by decide) (List.cons_ne_nil _ _) (by decide) (pd_tup (pd_cons (pd_tup (pd_cons pd_str (pd_cons pd_int pd_nil))) pd_nil)) pe_int) (pd_cons (pd_tup (pd_cons (pd_tup (pd_cons pd_str (pd_cons pd_int pd_nil))) pd_nil)) (pd_cons (pd_tup (pd_cons (pd_tup (pd_cons pd_str (pd_cons pd_int pd_nil))) pd_nil)) (pd_cons (pd_tup (pd_cons (pd_tup (pd_cons pd_str (pd_cons pd_bl pd_nil))) pd_nil)) pd_nil)))))))))
(pss_one (ps_ret (pe_op op_cat (pv 3) (pe_lst (pd_cons (ρ := []) pd_non (pd_cons pd_bl (pd_cons pd_int (pd_cons pd_str (pd_cons pd_str (pd_cons pd_str (pd_cons (pd_tup pd_nil) (pd_cons (pd_lst pd_nil) (pd_cons pd_dict (pd_cons (pd_lst (pd_cons (pd_tup (pd_cons pd_str (pd_cons pd_int pd_nil))) pd_nil)) (pd_cons (pd_tup (pd_cons pd_str (pd_cons pd_int pd_nil))) (pd_cons (pd_tup (pd_cons (pd_tup (pd_cons pd_str (pd_cons pd_int pd_nil))) (pd_cons pd_non pd_nil))) (pd_cons (pd_tup (pd_cons (pd_tup (pd_cons (pd_tup (pd_cons pd_str (pd_cons pd_int pd_nil))) pd_nil)) pd_nil)) pd_nil)))))))))))))))))))))), ?_⟩
  have nok : ∀ σ H, Knows K [] σ H := fun _ _ _ h => absurd h List.not_mem_nil
  refine ⟨nok _ _, fun v0 H1 sm1 hv0 => ⟨3, rfl, by decide, by decide, for_range (lo := 0) (n := 3) (fun i σ H' => ∃ (x1 : Option V) (v : V), σ = [some v, x1, none, none] ∧ Dv K H' v (deepD i) ∧ Same H H') ?_ ?_ ?_⟩⟩
  · exact ⟨_, _, rfl, hv0, sm1⟩
  · rintro i σ H2 hi ⟨x1, v, rfl, hv, sm2⟩
    refine ⟨v, rfl, small (by show 2 ≤ 1000; decide), fun r hr => ⟨small (by show 1 ≤ 1000; decide), fun r2 hr2 => ?_⟩⟩
    have m1 := same_new hr (.tup [v, .int 2])
    have m2 := same_new hr2 (.tup [.ref r])
    exact ⟨_, _, rfl, .tup (.inl (.inl upd_same)) (.cons (.tup (.inl (.inl (m2 _ _ upd_same))) (.cons (hv.same (Same.trans m1 m2)) (.cons (.int 2) .nil))) .nil), Same.trans sm2 (Same.trans m1 m2)⟩
  · rintro σ H2 ⟨x1, v, rfl, hv, sm2⟩
    refine ⟨nok _ _, fun v2 H3 sm3 hv2 => ⟨?_, fun vs H4 sm4 g4 => ⟨small (by rw [g4.len]; decide), fun r hr => ?_⟩⟩⟩
    · intro r hr
      rcases mem2 hr with rfl | rfl
      · exact ⟨v, rfl, hv.same sm3⟩
      · exact ⟨v2, rfl, hv2⟩
    have m5 := same_new hr (.lst vs)
    refine ⟨_, rfl, nok _ _, fun ws H5 sm5 g5 => ⟨small (by rw [g5.len]; decide), fun r2 hr2 => ?_⟩⟩
    have m6 := same_new hr2 (.lst ws)
    refine ⟨r, r2, vs, ws, rfl, rfl, m6 _ _ (sm5 _ _ upd_same), upd_same, small (by rw [g4.len, g5.len]; decide), fun r3 hr3 => ?_⟩
    have m7 := same_new hr3 (.lst (vs ++ ws))
    refine ⟨_, rfl, nok _ _, fun us H6 sm6 g6 => ⟨small (by rw [g6.len]; decide), fun r4 hr4 => ?_⟩⟩
    have m8 := same_new hr4 (.lst us)
    have l4 := g4.len
    have l5 := g5.len
    have l6 := g6.len
    refine ⟨r3, r4, vs ++ ws, us, rfl, rfl, m8 _ _ (sm6 _ _ upd_same), upd_same, small (by rw [List.length_append, l4, l5, l6]; decide), fun r5 hr5 => ?_⟩
    have m9 := same_new hr5 (.lst (vs ++ ws ++ us))
    have t69 := Same.trans m8 m9
    have t59 := Same.trans m6 (Same.trans m7 (Same.trans sm6 t69))
    have t49 := Same.trans m5 (Same.trans sm5 t59)
    exact q r5 _ _ (Same.trans sm2 (Same.trans sm3 (Same.trans sm4 t49))) upd_same (((g4.same t49).append (g5.same t59)).append (g6.same t69))
end
end Fr
set_option Elab.async false
set_option linter.all false
set_option maxRecDepth 100000
set_option maxHeartbeats 2000000
namespace Fr
open PySem PySem.Spec PyProof.Rows L2
/-! ### promises that hold where no repr is under way -/
structure FnOkG (P : Program) (w : World) (K : PySem.W.Frag) (mg : Str → Option Value)
    (base : Heap) (k : Nat) (f : Addr) (fd : FuncData) (ps : List Str) (sp : Sp) : Prop where
  size : ∀ vs H Q E, sp vs H Q E → vs.length = ps.length
  runs : ∀ (A : Around) (outer : List Env) (s : Shared) (H : Hp) (args : Args) (us : List Value) (vs : List V)
    (Q : VK) (E : XK), A.guards = some [] → Room k A → Env0 P w K mg base A outer s H →
    BindsTo s fd args (ps.zip us) → Vals vs us → sp vs H Q E →
    codeAny (model P w) A (.call (.ref f) args) (CR CX0 outer P w H s Q E) s
theorem Fun.okG {P : Program} {w : World} {K : PySem.W.Frag} {mg : Str → Option Value} {base : Heap}
    {x qual : Str} {st : Stmt} {f : Addr} {fd : FuncData} {N ps : List Str} {k : Nat} {sp : Sp}
    (F : Fun K x qual st f fd) (S : FnScope N ps (defScope st)) (size : ∀ vs H Q E, sp vs H Q E → vs.length = ps.length)
    (body : ∀ (cdv : Value) (A : Around) (outer : List Env) (s : Shared) (H : Hp) (vs : List V) (Q : VK) (E : XK),
      A.guards = some [] → Room k (A.deeper (envOfC qual (defScope st) s.heap.objs.size f cdv)) → sp vs H Q E →
      ∃ t, PSs (cxOf CX0 P w K mg base N qual (defScope st) f cdv A outer s H E).nox (defBody st) t ∧
        t { nx := fun _ H' => Q .non H', rt := Q } (start N vs) H) :
    FnOkG P w K mg base (k + 1) f fd ps sp := by
  obtain ⟨oc, od, kV, doc, pm, an, cdv, ct, osl, rfl, inK, hcd⟩ := F.ex
  refine ⟨size, fun A outer s H args us vs Q E hgu hr e0 hb rv hsp => ?_⟩
  have lenV := size _ _ _ _ hsp
  have KX : K.In s.heap := e0.mod.kin.keeps fun b o e =>
    (e0.bs b o e).1
  have lims : s.heap.NoLimit := e0.mod.nolimit.keeps fun b o e =>
    (e0.bs b o e).1
  refine codeAny_call_function hr.depth (KX _ _ inK) rfl S.co S.gen rfl
    (PySem.W.codeRec_of KX hcd) (hb _ _ _ _ ?_)
  refine wpAny_newFunctionEnv_cells S.kind (fun y hy => ?_) fun env he s1 call => ?_
  · rcases S.par y.1 (List.of_mem_zip (show (y.1, y.2) ∈ ps.zip us from hy)).1 with q | q
    · exact .inl q
    · exact .inr ⟨q, PySem.W.cellsFrom_some _ _ _ (.inl q)⟩
  · subst he
    refine ⟨lims.keeps call.toInCall.keep, codeAny_func ?_⟩
    obtain ⟨t, ht, hq⟩ := body cdv A outer s H vs Q E hgu (hr.deeper _) hsp
    refine wpAny_mono (ht.nox.run [] s1 (start N vs) H _ (inv_start S hr.hd e0 lenV rv call) hq) (fun fl s' ends => ?_)
      fun e s' ends => ends
    match fl, ends with
    | .ret u, ⟨v, σ', H', J, rel, q⟩ => exact ⟨v, H', J.os, J.bare, J.base, J.hok, rel, q⟩
    | .next, ⟨σ', H', J, q⟩ => exact ⟨.non, H', J.os, J.bare, J.base, J.hok, rfl, q⟩
    | .brk, ⟨_, _, _, q⟩ => exact q.elim
    | .cont, ⟨_, _, _, q⟩ => exact q.elim
section
variable {X : Cx}
/-- f(e, ..) of such a def -/
theorem pe_callG {f : Addr} {fd : FuncData} {ps : List Str} {sp : Sp} {k : Nat} {x : Str} {p pos : Pos} {e : Expr} {es : List Expr} {t : TA}
    (F : FnOkG X.prog X.w X.K X.mg X.base k f fd ps sp) (hgu : X.A.guards = some []) (hr : Room k X.A) (hg : Gl X x)
    (hm : X.mg x = some (.ref f)) (hk : PySem.W.keepIn X.K (.ref f) = true) (hb : Binds X.K fd ps [])
    (ha : PA X (e :: es) t) (hdb : (x == ("__debug__" : Str)) = false := by decide)
    (he : starEach (e :: es) X.env = (false, eval e X.env) :: starEach es X.env := by rfl)
    (hpl : (backTo pos (starEach es X.env)).any (·.1) = false := by rfl) :
    PE X (.Call (.Name x p) (e :: es) [] pos) (tCall sp [] (fun _ _ _ => False) t) := by
  refine ⟨fun pins s σ H Q I h => wpAny_Call_Name_kw (ld_glob I hg hm ?_ hdb)⟩
  refine PySem.W.callWith_K (h₀ := X.base) I.ok.mod.kin hk
    (thn (ha.run pos pins s σ H _ I h) fun us s1 ⟨vs, H1, I1, rv, q⟩ => ⟨I1.kIn, ?_⟩) he hpl
  have q' : sp (vs ++ []) H1 Q (fun _ _ _ => False) := q
  rw [List.append_nil] at q'
  have lenU : us.length = ps.length := by
    rw [← rv.length]
    exact F.size _ _ _ _ q'
  have bind := hb s1 us I1.kIn (by simpa using lenU)
  rw [List.append_nil] at bind
  refine wpAny_call (codeAny_mono (F.runs X.A X.stack s1 H1 ⟨us, []⟩ us vs Q _ hgu hr I1.env0 bind rv q') fun r s' ends => ?_)
  match r, ends with
  | .error e, ends => exact ends.elim
  | .ok (.ret u), ends => exact I1.after ends
  | .ok .next, ends => exact ends.elim
  | .ok .brk, ends => exact ends.elim
  | .ok .cont, ends => exact ends.elim
end
end Fr
set_option Elab.async false
set_option linter.all false
set_option maxRecDepth 100000
set_option maxHeartbeats 2000000
namespace Fr
open PySem PySem.Spec PyProof.Rows L2
/-! ### _law_is_right -/
theorem shown_pair (a b : PyData) : (PyData.tuple [a, b]).shown.length ≤ a.shown.length + b.shown.length + 7 := by
  simp only [PyData.shown]
  have h1 := tupleText_len_le (PyData.shownAll [a, b])
  have h2 := lens_shown [a, b]
  rw [lens_cons, lens_cons, lens_nil] at h2
  omega
theorem dok_pair {N M : Nat} {z : Str} {d : PyData} (hz : (PyData.str z).shown.length ≤ 20) (h : Dok N M d) : Dok (N + 30) (M + 1) (.tuple [.str z, d]) := ⟨by
  simp only [PyData.showable, PyData.showableAll, h.sh, Bool.and_self], by
  rcases h.sys with k | k
  · left
    simp only [PyData.hasDict, PyData.hasDictAll, k, Bool.or_self]
  · right
    simp only [noList, noListAll, k, Bool.and_self], by
  have := h.dp
  simp only [PyData.depth, PyData.depthAll]
  omega, by
  have := shown_pair (.str z) d
  have := h.len
  omega⟩
theorem dok_int {n : Nat} (h : n ≤ 1000000000000000000000000) : Dok 26 0 (.int (n : Int)) := ⟨by
  simp only [PyData.showable]
  refine decide_eq_true ?_
  by_cases z : (n : Int).natAbs = 0
  · rw [z]; decide
  · rw [Nat.log2_lt z]
    exact Nat.lt_of_lt_of_le (show (n : Int).natAbs < 2 ^ 80 by
      have : (1000000000000000000000000 : Nat) < 2 ^ 80 := by decide
      omega) (Nat.pow_le_pow_right (by decide) (by decide)), .inl (by simp only [PyData.hasDict]), by simp only [PyData.depth]; omega, by
  simp only [PyData.shown]
  have e := int_text_length_le10 (a := (n : Int)) (k := 25) (by decide) (by
    have : (1000000000000000000000000 : Nat) < 10 ^ 25 := by decide
    omega)
  show (Str.ofString (toString (n : Int))).length ≤ 26
  rw [PySem.ofString_length]
  omega⟩
def dueD (d : PyData) : PyData := if far d = 0 then .tuple [.str "bad", d] else .tuple [.str "told", .int (far d : Nat)]
theorem dok_due {N M : Nat} {d : PyData} (h : Dok N M d) : Dok (N + 60) (M + 1) (dueD d) := by
  unfold dueD
  by_cases z : far d = 0
  · rw [if_pos z]
    exact (dok_pair (by decide +kernel) h).mono (by omega) (Nat.le_refl _)
  · rw [if_neg z]
    have : far d ≤ 1000000000000000000000000 := by
      unfold far
      split <;> omega
    exact (dok_pair (by decide +kernel) (dok_int this)).mono (by omega) (by omega)
abbrev s__law_is_right : Stmt := top 27
abbrev sc__law_is_rightN : List Str := ["_law_thing", "_law_size_here", "_law_kept", "_law_due"]
theorem sc__law_is_right : FnScope sc__law_is_rightN ["_law_thing"] (defScope s__law_is_right) := ⟨rfl, rfl, rfl, by decide +kernel, rfl, by decide +kernel, by decide +kernel⟩
def spIsRight (K : PySem.W.Frag) : Sp := fun vs H Q _ => ∃ (v : V) (d : PyData) (N : Nat), vs = [v] ∧ Dv K H v d ∧ Dok N 39 d ∧ N + 60 ≤ sizeLine ∧ ∀ H', Same H H' → Q (.bl true) H'
theorem short2 : ("bad" : Str).length ≤ 1000000 ∧ ("told" : Str).length ≤ 1000000 := by decide +kernel
theorem Dv.due {K : PySem.W.Frag} {H : Hp} {v : V} {d : PyData} {r : Addr} (hd : Dv K H v d) (h : H r = some (.tup (toldV v d))) : Dv K H (.ref r) (dueD d) := by
  unfold toldV at h
  unfold dueD
  by_cases z : far d = 0
  · rw [if_pos z] at h ⊢
    exact .tup (.inl (.inl h)) (.cons (.str _ short2.1) (.cons hd .nil))
  · rw [if_neg z] at h ⊢
    exact .tup (.inl (.inl h)) (.cons (.str _ short2.2) (.cons (.int _) .nil))
def tFin (K : PySem.W.Frag) : TS := fun D σ H => ∃ (v : V) (d : PyData) (N : Nat) (x1 : Option V) (r : Addr), σ = [some v, x1, some (.str d.shown), some (.ref r)] ∧ Dv K H v d ∧ Dok N 39 d ∧ N + 60 ≤ sizeLine ∧ Dv K H (.ref r) (dueD d) ∧ ∀ H', Same H H' → D.rt (.bl true) H'
section
variable {P : Program} {w : World} {K : PySem.W.Frag} {mg : Str → Option Value} {base : Heap}
theorem ok_is_right {f : Addr} {fd : FuncData} (F : Fun K "_law_is_right" "_law_is_right" s__law_is_right f fd) (T : Bare mg) (C : Con K mg) (CL : Callee P w K mg base 6 "_law_size" ["_law_thing", "_law_deep"] (spSize K 4))
    (CT : Callee P w K mg base 14 "_law_told" ["_law_thing"] (spTold K)) : FnOkG P w K mg base 15 f fd ["_law_thing"] (spIsRight K) := by
  refine Fun.okG F sc__law_is_right (fun vs H Q E h => ?_) (fun cdv A outer s H vs Q E hgu hr h => ?_)
  · obtain ⟨v, d, N, rfl, _⟩ := h
    rfl
  obtain ⟨v, d, N, rfl, hd, ok, hN, q⟩ := h
  refine ⟨_, (pss_cons (ps_par (i := 1) (j := 2) (by rfl) sc__law_is_right.nd rfl rfl (by decide) rfl rfl (pa_cons (pe_call CL.ok (hr.mono (by decide)) rfl CL.mg CL.kp CL.b .nil pass0 (pa_cons (pv 0) (pa_cons pe_int pa_nil))) (pa_cons (pe_callB (call_reprV hgu hr.units) (by rfl) C.repr (by decide +kernel) (pa_cons (pv 0) pa_nil)) pa_nil)) (by rfl))
(pss_cons (ps_set (i := 3) sc__law_is_right.nd rfl (Or.inl rfl) (pe_ifExp (PW.pt (pw_and (pt_cmpR op_notN (pv 1) pe_non (nomark _)) (pw_and1 (pt_cmpR op_le (pv 1) (pe_op op_pow pe_int pe_int) (nomark _))))) (pe_tup (pa_cons pe_str (pa_cons (pv 1) pa_nil))) (pe_tup (pa_cons pe_str (pa_cons (pv 0) pa_nil)))))
(pss_one (ps_weak (t' := tFin K) (ps_ret (pe_and (pe_cmpR op_eq (pe_callB (call_reprV hgu hr.units) (by rfl) C.repr (by decide +kernel) (pa_cons (pe_call CT.ok hr rfl CT.mg CT.kp CT.b .nil pass0 (pa_cons (pv 0) pa_nil)) pa_nil)) (pe_callB (call_reprV hgu hr.units) (by rfl) C.repr (by decide +kernel) (pa_cons (pv 3) pa_nil)) (nomark _)) (pe_one (pe_cmpR op_eq (pe_callB (call_reprV hgu hr.units) (by rfl) C.repr (by decide +kernel) (pa_cons (pv 0) pa_nil)) (pv 2) (nomark _))))) (fun D σ H h => by
    obtain ⟨v, d, N, x1, r, rfl, hd, ok, hN, hdue, q⟩ := h
    have okD : Dok (N + 60) 40 (dueD d) := dok_due ok
    refine ⟨v, rfl, v, d, rfl, hd, fun r' H1 s1 hr' => ⟨.ref r', dueD d, N + 60, rfl, (hd.same s1).due hr', okD, hN, ?_⟩⟩
    refine ⟨.ref r, rfl, .ref r, dueD d, N + 60, rfl, hdue.same s1, okD, hN, rfl, _, rfl, ?_⟩
    rw [decide_eq_true rfl]
    refine iteT ⟨v, rfl, v, d, N, rfl, hd.same s1, ok.mono (Nat.le_refl _) (by decide), by omega, .str d.shown, rfl, rfl, ?_⟩
    have z := q H1 s1
    rw [decide_eq_true rfl]
    exact z))))), ?_⟩
  have ok40 : Dok N 40 d := ok.mono (Nat.le_refl _) (by decide)
  refine ⟨v, rfl, v, d, rfl, hd, fun H1 s1 => ⟨v, rfl, v, d, N, rfl, hd.same s1, ok40, by omega, ?_⟩⟩
  have fin : ∀ (x1 : Option V) (r : Addr) , H1 r = none → Dv K (upd H1 r (.tup (toldV v d))) (.ref r) (dueD d) := fun x1 r hr => ((hd.same s1).same (same_new hr _)).due upd_same
  have hp : (0 : Int) ≤ 24 ∧ (24 : Int) ≤ 1000000 ∧ (10 : Int).natAbs < 2 ^ 64 := ⟨by decide, by decide, by decide⟩
  by_cases z0 : sz 4 d = 0
  · have f0 : far d = 0 := by
      unfold far
      rw [z0]
      rfl
    have e1 : lsV (sz 4 d) = .non := by rw [z0]; rfl
    have e2 : toldV v d = [.str "bad", v] := if_pos f0
    rw [e1]
    rw [e2] at fin
    refine ⟨_, _, rfl, _, rfl, rfl, _, rfl, iteF ⟨v, rfl, small (by show 2 ≤ 1000; decide), fun r hr => ?_⟩⟩
    exact ⟨v, d, N, _, r, rfl, (hd.same s1).same (same_new hr _), ok, hN, fin none r hr, fun H' s' => q H' (Same.trans s1 (Same.trans (same_new hr _) s'))⟩
  · have e1 : lsV (sz 4 d) = .int (sz 4 d : Nat) := if_neg z0
    rw [e1]
    refine ⟨_, _, rfl, _, rfl, rfl, _, rfl, iteT ⟨_, rfl, 10, 24, rfl, rfl, hp, _, _, rfl, rfl, _, rfl, ite2 (fun h => ?_) (fun h => ?_)⟩⟩
    · have h := of_decide_eq_true h
      have h' : sz 4 d ≤ 1000000000000000000000000 := by
        have : ((10 : Int) ^ (24 : Int).toNat) = 1000000000000000000000000 := by decide
        omega
      have f0 : far d = sz 4 d := if_pos h'
      have e2 : toldV v d = [.str "told", .int (sz 4 d : Nat)] := by
        unfold toldV
        rw [f0, if_neg z0]
      rw [e2] at fin
      refine ⟨_, rfl, small (by show 2 ≤ 1000; decide), fun r hr => ?_⟩
      exact ⟨v, d, N, _, r, rfl, (hd.same s1).same (same_new hr _), ok, hN, fin none r hr, fun H' s' => q H' (Same.trans s1 (Same.trans (same_new hr _) s'))⟩
    · have h' : ¬ sz 4 d ≤ 1000000000000000000000000 := fun e => h (decide_eq_true (by
        have : ((10 : Int) ^ (24 : Int).toNat) = 1000000000000000000000000 := by decide
        omega))
      have f0 : far d = 0 := if_neg h'
      have e2 : toldV v d = [.str "bad", v] := if_pos f0
      rw [e2] at fin
      refine ⟨v, rfl, small (by show 2 ≤ 1000; decide), fun r hr => ?_⟩
      exact ⟨v, d, N, _, r, rfl, (hd.same s1).same (same_new hr _), ok, hN, fin none r hr, fun H' s' => q H' (Same.trans s1 (Same.trans (same_new hr _) s'))⟩
end
end Fr
set_option Elab.async false
set_option linter.all false
set_option maxRecDepth 100000
set_option maxHeartbeats 2000000
namespace Fr
open PySem L2
/-! ### _law_right -/
abbrev s__law_right : Stmt := top 28
abbrev sc__law_rightN : List Str := ["_law_pot", "_law_turn", "_law_tale", "_law_thing"]
theorem sc__law_right : FnScope sc__law_rightN ["_law_pot"] (defScope s__law_right) := ⟨rfl, rfl, rfl, by decide +kernel, rfl, by decide +kernel, by decide +kernel⟩
def spRight : Sp := fun vs H Q _ => ∃ (p : Addr), vs = [.ref p] ∧ Pot H p 0 ∧ ∀ H', But p H H' → Q (.bl true) H'
theorem dk4 : dk 4 = 37555 := by decide
theorem nb4 : nb 4 + 60 ≤ sizeLine := by
  have e : nb 4 + 60 = 10108174 := by decide
  rw [e]
  decide +kernel
section
variable {P : Program} {w : World} {K : PySem.W.Frag} {mg : Str → Option Value} {base : Heap}
theorem ok_right {f fI : Addr} {fd fdI : FuncData} (F : Fun K "_law_right" "_law_right" s__law_right f fd) (T : Bare mg) (C : Con K mg) (CD : Callee P w K mg base 6 "_law_drawn" ["_law_pot", "_law_deep"] (spDrawn K 4))
    (CS : Callee P w K mg base 6 "_law_spoilt" ["_law_pot", "_law_thing"] (spSpoilt K 4)) (OI : FnOkG P w K mg base 15 fI fdI ["_law_thing"] (spIsRight K)) (mI : mg "_law_is_right" = some (.ref fI)) (kI : PySem.W.keepIn K (.ref fI) = true) (bI : Binds K fdI ["_law_thing"] []) :
    FnOkG P w K mg base 16 f fd ["_law_pot"] spRight := by
  refine Fun.okG F sc__law_right (fun vs H Q E h => ?_) (fun cdv A outer s H vs Q E hgu hr h => ?_)
  · obtain ⟨p, rfl, _⟩ := h
    rfl
  obtain ⟨p, rfl, hp, q⟩ := h
  refine ⟨_, (pss_cons (ps_for PassesOwn.never rfl (pi_range1 (by rfl) T.range (pa_cons pe_int pa_nil)) (pg_name (i := 1) sc__law_right.nd rfl (Or.inl rfl))
(pss_cons (ps_set (i := 2) sc__law_right.nd rfl (Or.inl rfl) (pe_call CD.ok (hr.mono (by decide)) rfl CD.mg CD.kp CD.b .nil pass0 (pa_cons (pv 0) (pa_cons pe_int pa_nil))))
(pss_one (ps_if (pt_not (pt_val (pe_callB (cr_all rfl) (by rfl) C.all (by decide +kernel) (pa_cons (pe_lc (own := [("_law_thing", 3)]) (g := gName 3) rfl sc__law_right.nd (pi_tup (pe_tup (pa_cons (pv 2) (pa_cons (pe_call CS.ok (hr.mono (by decide)) rfl CS.mg CS.kp CS.b .nil pass0 (pa_cons (pv 0) (pa_cons (pv 2) pa_nil))) (pa_cons (pe_call CS.ok (hr.mono (by decide)) rfl CS.mg CS.kp CS.b .nil pass0 (pa_cons (pv 0) (pa_cons (pv 2) pa_nil))) pa_nil))))) (blkOk_by (N := sc__law_rightN) (sc := defScope s__law_right) (by decide +kernel)) (fun _ _ _ _ _ => pg_name (i := 3) sc__law_right.nd rfl (Or.inl rfl)) (fun _ _ _ _ _ => pts_nil) (fun _ _ _ _ _ => (pe_callG OI hgu hr rfl mI kI bI (pa_cons (pv 3) pa_nil)))) pa_nil))))
(pss_one (ps_ret pe_bl))
pss_nil))))
(pss_one (ps_ret pe_bl))), ?_⟩
  refine ⟨12, rfl, by decide, by decide, for_range (lo := 0) (n := 12) (fun i σ H' => ∃ (x1 x2 : Option V), σ = [some (.ref p), x1, x2, none] ∧ Pot H' p (i * (dk 4 + 24)) ∧ But p H H') ?_ ?_ ?_⟩
  · exact ⟨none, none, rfl, by rw [Nat.zero_mul]; exact hp, But.refl _ _⟩
  · rintro i σ H1 hi ⟨x1, x2, rfl, hp1, b1⟩
    have e4 := dk4
    have hi4 : i * (dk 4 + 24) + dk 4 + 24 ≤ 12 * (dk 4 + 24) := by
      rw [Nat.add_assoc, ← Nat.succ_mul]
      exact Nat.mul_le_mul_right _ hi
    have lim : 12 * (dk 4 + 24) < 1000000 := by rw [e4]; decide
    refine ⟨.ref p, rfl, p, i * (dk 4 + 24), rfl, hp1, by omega, fun a d H2 hp2 b2 hd ht => ?_⟩
    have nl := tale_nl ht
    have hd2 := Dv.hidP hp2 nl hd
    refine ⟨.ref a, rfl, _, rfl, _, rfl, p, a, _, d, rfl, hp2, by omega, hd2, ht, fun v1 d1 H3 hp3 b3 hv1 ok1 => ?_⟩
    have hd3 := hd2.same (b3.hid (List.mem_singleton.mpr rfl))
    refine ⟨_, rfl, _, rfl, p, a, _, d, rfl, hp3, by omega, hd3, ht, fun v2 d2 H4 hp4 b4 hv2 ok2 => ?_⟩
    have s34 := b4.hid (l := [p]) (List.mem_singleton.mpr rfl)
    have e0 := (hd3.same s34).same hid_same
    have e1 := (hv1.same s34).same hid_same
    have e2 := hv2.same hid_same
    refine ⟨small (by show 3 ≤ 1000; decide), fun r hr => ⟨r, rfl, ⟨_, .inl (.inl upd_same)⟩, ?_⟩⟩
    have s5 := same_new hr (.tup [.ref a, v1, v2])
    have hr5 : (upd H4 r (.tup [.ref a, v1, v2])) r = some (.tup [.ref a, v1, v2]) := upd_same
    have hp5 := hp4.same s5
    have b5 := b4.trans (But.of_same s5)
    have e0 := e0.same s5
    have e1 := e1.same s5
    have e2 := e2.same s5
    generalize upd H4 r (.tup [.ref a, v1, v2]) = H5 at s5 hr5 hp5 b5 e0 e1 e2 ⊢
    have okT : Ok (nb 4) 10 d := (tale_ok ht).mono (tn_nb 4) (by decide)
    have all3 : ∀ v ∈ ([.ref a, v1, v2] : List V), ∃ d', Dv K H5 v d' ∧ Ok (nb 4) 10 d' := fun v hv => by
      rcases mem3 hv with rfl | rfl | rfl
      · exact ⟨d, e0, okT⟩
      · exact ⟨d1, e1, ok1⟩
      · exact ⟨d2, e2, ok2⟩
    refine fun D hD => lc_it (walk_tup (xs := [.ref a, v1, v2])) (fun j H' => H' D = some (.lst ((List.replicate j true).map V.bl)) ∧ Same H5 H') ⟨upd_same, same_new hD _⟩ (fun j H' hj pv => .inl (.inl (pv.2 _ _ hr5))) (fun j v H' H6 hj pv y => ?_) (fun H6 pv => ?_)
    · obtain ⟨f1, f2⟩ := pv
      obtain ⟨rfl, hv⟩ := y
      obtain ⟨d', g1, g2⟩ := all3 v (List.mem_of_getElem? hv)
      refine ⟨rfl, ?_⟩
      simp only [tYes, ↓reduceIte]
      refine ⟨v, rfl, v, d', nb 4, rfl, g1.same f2, g2.dok.mono (Nat.le_refl _) (by decide), nb4, fun H7 s7 => ⟨_, s7 _ _ f1, ?_, ?_, ?_⟩⟩
      · rw [List.length_map, List.length_replicate]
        exact Nat.lt_of_lt_of_le (Nat.lt_of_lt_of_le hj (by show 3 ≤ 1000; decide)) (small (Nat.le_refl _))
      · rw [upd_same, List.replicate_succ', List.map_append]
        rfl
      · intro b o hbo
        have w1 := s7 _ _ (f2 b o hbo)
        rw [upd_ne (ne_of_none hbo hD)]
        exact w1
    · obtain ⟨f1, f2⟩ := pv
      refine ⟨D, List.replicate 3 true, rfl, .inl (.inl f1), ?_⟩
      refine ⟨true, rfl, iteF ?_⟩
      refine ⟨_, _, rfl, (hp5.same f2).more ?_, ?_⟩
      · show i * (dk 4 + 24) + dk 4 + 3 * 4 + 3 * 4 ≤ (i + 1) * (dk 4 + 24)
        have e := Nat.succ_mul i (dk 4 + 24)
        have e' : (i + 1) * (dk 4 + 24) = i * (dk 4 + 24) + (dk 4 + 24) := e
        omega
      · exact (((b1.trans b2).trans b3).trans b5).trans (But.of_same f2)
  · rintro σ H1 ⟨x1, x2, rfl, hp1, b1⟩
    exact q H1 b1
end
end Fr
set_option Elab.async false
set_option linter.all false
set_option maxRecDepth 100000
set_option maxHeartbeats 2000000
namespace Fr
open PySem L2
/-! ### the law -/
theorem edges_all : (edges.all fun d => d.showable && (!d.hasDict || noList d) && decide (d.depth ≤ 10) && decide (d.shown.length ≤ 3000)) = true := by decide +kernel
theorem edge_ok {d : PyData} (h : d ∈ edges) : Dok 3000 10 d := by
  have z := List.all_eq_true.mp edges_all d h
  simp only [Bool.and_eq_true, Bool.or_eq_true, Bool.not_eq_true', decide_eq_true_eq] at z
  exact ⟨z.1.1.1, z.1.1.2, z.1.2, z.2⟩
abbrev s_law : Stmt := top 29
abbrev sc_lawN : List Str := ["_law_script", "_law_k", "_law_thing"]
theorem sc_law : FnScope sc_lawN ["_law_script"] (defScope s_law) := ⟨rfl, rfl, rfl, by decide +kernel, rfl, by decide +kernel, by decide +kernel⟩
def spLaw (K : PySem.W.Frag) : Sp := fun vs H Q _ => ∃ (a : Addr) (ns : List Int), vs = [.ref a] ∧ SqL K H a (ns.map V.int) ∧ ns.length ≤ 63 ∧ ∀ H', Q (.bl true) H'
theorem n3000 : 3000 + 60 ≤ sizeLine := by decide +kernel
section
variable {P : Program} {w : World} {K : PySem.W.Frag} {mg : Str → Option Value} {base : Heap}
theorem ok_law {f fR fI : Addr} {fd fdR fdI : FuncData} (F : Fun K "law" "law" s_law f fd) (T : Bare mg) (C : Con K mg) (CP : Callee P w K mg base 1 "_law_pot_of" ["_law_script", "_law_k"] (spPotOf K)) (CE : Callee P w K mg base 1 "_law_edges" [] (spEdges K))
    (OI : FnOkG P w K mg base 15 fI fdI ["_law_thing"] (spIsRight K)) (mI : mg "_law_is_right" = some (.ref fI)) (kI : PySem.W.keepIn K (.ref fI) = true) (bI : Binds K fdI ["_law_thing"] [])
    (OR : FnOkG P w K mg base 16 fR fdR ["_law_pot"] spRight) (mR : mg "_law_right" = some (.ref fR)) (kR : PySem.W.keepIn K (.ref fR) = true) (bR : Binds K fdR ["_law_pot"] []) :
    FnOkG P w K mg base 17 f fd ["_law_script"] (spLaw K) := by
  refine Fun.okG F sc_law (fun vs H Q E h => ?_) (fun cdv A outer st H vs Q E hgu hr h => ?_)
  · obtain ⟨a, ns, rfl, _⟩ := h
    rfl
  obtain ⟨a, ns, rfl, hS, hl, q⟩ := h
  refine ⟨_, (pss_cons (ps_for PassesOwn.never rfl (pi_range1 (by rfl) T.range (pa_cons (pe_callB (call_max2 rfl) (by rfl) C.max (by decide +kernel) (pa_cons pe_int (pa_cons (pe_callB (call_min2 rfl) (by rfl) C.min (by decide +kernel) (pa_cons pe_int (pa_cons (pe_callB call_len_seq (by rfl) T.len PySem.boot_len (pa_cons (pv 0) pa_nil)) pa_nil))) pa_nil))) pa_nil)) (pg_name (i := 1) sc_law.nd rfl (Or.inl rfl))
(pss_one (ps_if (pt_not (pt_val (pe_callG OR hgu hr rfl mR kR bR (pa_cons (pe_call CP.ok (hr.mono (by decide)) rfl CP.mg CP.kp CP.b .nil pass0 (pa_cons (pv 0) (pa_cons (pv 1) pa_nil))) pa_nil))))
(pss_one (ps_ret pe_bl))
pss_nil)))
(pss_one (ps_ret (pe_callB (cr_all rfl) (by rfl) C.all (by decide +kernel) (pa_cons (pe_lc (own := [("_law_thing", 2)]) (g := gName 2) rfl sc_law.nd (pi_list (pe_call0 CE.ok (hr.mono (by decide)) rfl CE.mg CE.kp CE.b .nil pass0)) (blkOk_by (N := sc_lawN) (sc := defScope s_law) (by decide +kernel)) (fun _ _ _ _ _ => pg_name (i := 2) sc_law.nd rfl (Or.inl rfl)) (fun _ _ _ _ _ => pts_nil) (fun _ _ _ _ _ => (pe_callG OI hgu (hr.mono (by decide)) rfl mI kI bI (pa_cons (pv 2) pa_nil)))) pa_nil))))), ?_⟩
  refine ⟨.ref a, rfl, a, _, rfl, .inl hS, 4, _, rfl, 1, _, rfl, ?_⟩
  generalize hm : (if (if ((ns.map V.int).length : Int) < 4 then ((ns.map V.int).length : Int) else 4) > 1 then (if ((ns.map V.int).length : Int) < 4 then ((ns.map V.int).length : Int) else 4) else 1) = m
  have m0 : 0 ≤ m ∧ m ≤ 4 := by
    rw [← hm]
    split <;> split <;> omega
  refine ⟨m, rfl, by omega, by omega, for_range (lo := 0) (n := m.toNat) (fun i σ H' => ∃ (x1 : Option V), σ = [some (.ref a), x1, none] ∧ SqL K H' a (ns.map V.int)) ?_ ?_ ?_⟩
  · exact ⟨none, rfl, hS⟩
  · rintro i σ H1 hi ⟨x1, rfl, hS1⟩
    refine ⟨.ref a, rfl, _, rfl, a, ns, i, (by show [V.ref a, V.int (0 + (i : Int))] = _; rw [Int.zero_add]), hS1, by omega, fun p H2 hp0 s2 hp => ?_⟩
    refine ⟨p, rfl, hp, fun H3 b3 => ⟨true, rfl, iteF ?_⟩⟩
    refine ⟨_, rfl, ?_⟩
    rcases hS1 with (z | ⟨o, z⟩) | z
    · exact .inl (.inl (b3 _ _ (s2 _ _ z) (ne_of_none z hp0)))
    · exact .inl (.inr ⟨o, b3 _ _ (s2 _ _ z) (ne_of_none z hp0)⟩)
    · exact .inr z
  · rintro σ H1 ⟨x1, rfl, hS1⟩
    refine ⟨rfl, fun l xs H2 s2 hl2 hd => ⟨l, rfl, ⟨_, .inl (.inl hl2)⟩, ?_⟩⟩
    have len : xs.length = 26 := hd.len
    refine fun D hD => lc_it (walk_list (xs := xs)) (fun j H' => H' D = some (.lst ((List.replicate j true).map V.bl)) ∧ Same H2 H') ⟨upd_same, same_new hD _⟩ (fun j H' hj pv => .inl (.inl (pv.2 _ _ hl2))) (fun j v H' H6 hj pv y => ?_) (fun H6 pv => ?_)
    · obtain ⟨f1, f2⟩ := pv
      obtain ⟨rfl, hv⟩ := y
      obtain ⟨d', g0, g1⟩ := hd.get hv
      refine ⟨rfl, ?_⟩
      simp only [tYes, ↓reduceIte]
      refine ⟨v, rfl, v, d', 3000, rfl, g1.same f2, (edge_ok (List.mem_of_getElem? g0)).mono (Nat.le_refl _) (by decide), n3000, fun H7 s7 => ⟨_, s7 _ _ f1, ?_, ?_, ?_⟩⟩
      · rw [List.length_map, List.length_replicate]
        exact Nat.lt_of_lt_of_le (Nat.lt_of_lt_of_le hj (by omega : xs.length ≤ 1000)) (small (Nat.le_refl _))
      · rw [upd_same, List.replicate_succ', List.map_append]
        rfl
      · intro b o hbo
        have w1 := s7 _ _ (f2 b o hbo)
        rw [upd_ne (ne_of_none hbo hD)]
        exact w1
    · obtain ⟨f1, f2⟩ := pv
      rw [len] at f1
      refine ⟨D, List.replicate 26 true, rfl, .inl (.inl f1), ?_⟩
      exact q H6
end
end Fr
set_option Elab.async false
set_option linter.all false
set_option maxRecDepth 100000
set_option maxHeartbeats 4000000
namespace Fr
open PySem PySem.Spec PyProof.Rows L2
/-! ### the head of a law whose promise holds where no repr is under way -/
/-- how the law's call has to end -/
def LawEnds (s : Shared) : Result → Shared → Prop := fun r s' =>
  r = .ok (.ret (.bool true)) ∧ OldK s.heap s'.heap ∧ s'.os = s.os ∧ AllBare s'.gens
section
variable {P : Program} {w : World} {K : PySem.W.Frag} {mg mb : Str → Option Value} {k : Nat} {fa a : Addr}
  {fd : FuncData} {x : Str} {sp : Sp} {s : Shared} {vs : List Value} {ns : List Int}
/-- from a heap in which at most the script is tracked -/
theorem call_from (H : Hp) (KX : K.In s.heap) (hns : s.heap.Ns mainGlobals mg) (hb : s.heap.Ns builtinsNs mb)
    (hbb : ∀ x : Str, x ≠ "__name__" → mb x = bootBuiltins x) (hlim : s.heap.NoLimit) (hg : s.gens = #[])
    (ha : s.heap.get? a = some { cls := .type "list", data := .seq vs.toArray }) (hr : Room k callerA)
    (F : ∀ base : Heap, K.In base → base.Ns mainGlobals mg → FnOkG P w K mg base k fa fd [x] sp)
    (hbind : ∀ (s : Shared) (u : Value), BindsTo s fd ⟨[u], []⟩ [(x, u)]) (only : Only H) (hok : HOk P w H s.heap)
    (one : ∀ b, H b ≠ none → b = a) (notK : H a ≠ none → K.lookup a = none)
    (hsp : sp [.ref a] H (fun v _ => v = .bl true) fun _ _ _ => False) :
    codeAny (model P w) callerA (.call (.ref fa) ⟨[.ref a], []⟩) (LawEnds s) s := by
  have stays : ∀ {b : Addr} {o : Obj}, s.heap.get? b = some o → (b = a → False) → (hidT s.heap H).get? b = some o :=
    fun {b o} e n => hidT_get e (Classical.byContradiction fun z => n (one b z))
  have dicts : ∀ {b : Addr} {m : Str → Option Value}, s.heap.Ns b m → (hidT s.heap H).Ns b m := fun {b m} n => by
    obtain ⟨o, es, ep, e, d, r⟩ := n
    refine ⟨o, es, ep, stays e fun z => ?_, d, r⟩
    rw [z, ha] at e
    cases e
    cases (show Data.seq vs.toArray _ = Data.dict es ep from d)
  have inK : K.In (hidT s.heap H) := fun b o e => hidT_get (KX b o e) (Classical.byContradiction fun z => by
    have eb := one b z
    subst eb
    rw [notK z] at e
    cases e)
  have hM : Mod K mg (hidT s.heap H) := by
    obtain ⟨mc, h1, h2⟩ := hlim
    exact ⟨inK, dicts hns, ⟨mb, dicts hb, hbb⟩, ⟨mc, dicts h1, h2⟩⟩
  have e0 : Env0 P w K mg (hidT s.heap H) callerA [] s H := by
    refine ⟨rfl, hM, fun b o e => of_hidT e, ?_, trivial, fun b hb => ?_, hok, .of_eq hg⟩
    · exact Nat.le_of_eq (hidT_size _ _)
    · cases (show b ∈ ([] : List Addr) from hb)
  have run := (F _ inK (dicts hns)).runs callerA [] s H ⟨[.ref a], []⟩ [.ref a] [.ref a] _ _ rfl hr e0
    (hbind s (.ref a)) (.cons rfl .nil) hsp
  refine codeAny_mono run fun r s' ends => ?_
  match r, ends with
  | .error e, ends => exact ends.elim
  | .ok .next, ends => exact ends.elim
  | .ok .brk, ends => exact ends.elim
  | .ok .cont, ends => exact ends.elim
  | .ok (.ret u), ⟨v, H', os, bare, un, hok', rel, ev⟩ =>
    have ev : v = .bl true := ev
    subst ev
    have eu : u = Value.bool true := rel
    subst eu
    refine ⟨rfl, OldK.of_keep fun b o e => ?_, os, bare⟩
    rcases only b with z | ⟨ob, xs, z⟩
    · refine un.keep b o e z (fun h => ?_) (by simp)
      cases (show b ∈ ([] : List Addr) from h)
    · have was := (hok b _ z).1
      have is := (hok' b _ (un.frzs b ob _ z)).1
      rw [e] at was
      cases was
      exact is
theorem law_callG (KX : K.In s.heap) (hns : s.heap.Ns mainGlobals mg) (hb : s.heap.Ns builtinsNs mb)
    (hbb : ∀ x : Str, x ≠ "__name__" → mb x = bootBuiltins x) (hlim : s.heap.NoLimit) (hg : s.gens = #[])
    (ha : s.heap.get? a = some { cls := .type "list", data := .seq vs.toArray }) (hi : IntsAre vs ns) (hl : ns.length ≤ sizeLine) (hr : Room k callerA)
    (F : ∀ base : Heap, K.In base → base.Ns mainGlobals mg → FnOkG P w K mg base k fa fd [x] sp)
    (hbind : ∀ (s : Shared) (u : Value), BindsTo s fd ⟨[u], []⟩ [(x, u)])
    (hsp : ∀ H : Hp, Only H → SqL K H a (ns.map V.int) → sp [.ref a] H (fun v _ => v = .bl true) fun _ _ _ => False) :
    codeAny (model P w) callerA (.call (.ref fa) ⟨[.ref a], []⟩) (LawEnds s) s := by
  have rv := vals_ints hi
  have lenV := hi.length
  by_cases hk : K.lookup a = none
  · have atA : ∀ b, (if b = a then some (HO.frz { cls := .type "list", data := .seq vs.toArray } (.lst (ns.map V.int))) else none) ≠ none → b = a :=
      fun b z => Classical.byContradiction fun n => z (if_neg n)
    refine call_from (fun b => if b = a then some (.frz { cls := .type "list", data := .seq vs.toArray } (.lst (ns.map V.int))) else none)
      KX hns hb hbb hlim hg ha hr F hbind (fun b => ?_) (fun b u z => ?_) atA (fun _ => hk) (hsp _ (fun b => ?_) (.inl (.inr ⟨_, if_pos rfl⟩)))
    · by_cases e : b = a
      · exact .inr ⟨_, _, if_pos e⟩
      · exact .inl (if_neg e)
    · have e : b = a := atA b fun y => by (have z := z.symm.trans y; cases z)
      subst e
      have z := (if_pos rfl).symm.trans z
      cases z
      exact ⟨ha, by rw [List.length_map]; exact hl, vs, _, rv, ha⟩
    · by_cases e : b = a
      · exact .inr ⟨_, _, if_pos e⟩
      · exact .inl (if_neg e)
  · obtain ⟨o, ho⟩ := Option.ne_none_iff_exists'.mp hk
    have same := KX a o ho
    rw [ha] at same
    cases same
    have none_ : ∀ b : Addr, (fun _ => none : Hp) b = none := fun _ => rfl
    refine call_from (fun _ => none) KX hns hb hbb hlim hg ha hr F hbind (fun b => .inl rfl) (fun b u z => by cases z) (fun b z => absurd rfl z) (fun z => absurd rfl z)
      (hsp _ (fun b => .inl rfl) (.inr ⟨_, vs.toArray, _, ho, rfl, rfl, rfl, ?_, by simpa using rv⟩))
    rw [List.size_toArray, lenV]
    exact hl
end
/-- the goal that the head leaves, from the law's promise -/
theorem walk_G {l : PySem.W.OpenLaw} {n k : Nat} {q : Program} {loose : List Str} {XP : (Str → Option Value) → Heap → Prop}
    {YP : World → Heap → Prop} {d : DefRec} {K : Params → PySem.W.Frag} {sp : PySem.W.Frag → Sp} {x : Str}
    (hn : l.most = some n) (hn2 : n ≤ sizeLine) (hdf : d.params.defaults = []) (hr : Room k callerA) (hY : ∀ (w : World) (h : Heap), YP w h → (K w.params).In h)
    (F : ∀ (w : World) (mg : Str → Option Value) (fa : Addr) (h : Heap), (K w.params).In h → h.Ns mainGlobals mg → mg d.name = some (.ref fa) → ∃ fd : FuncData,
      (∀ (s : Shared) (u : Value), BindsTo s fd ⟨[u], []⟩ [(x, u)]) ∧ ∀ base : Heap, (K w.params).In base → base.Ns mainGlobals mg → FnOkG l.prog w (K w.params) mg base k fa fd [x] (sp (K w.params)))
    (hsp : ∀ (K : PySem.W.Frag) (H : Hp) (a : Addr) (ns : List Int), ns.length ≤ n → Only H → SqL K H a (ns.map V.int) → sp K [.ref a] H (fun v _ => v = .bl true) fun _ _ _ => False) :
    PySem.W.WalkO q loose XP YP l.row.toRowW d [] (fun f vs => PySem.call f vs) := by
  refine Att.attach_call hn hdf fun w s₀ s₁ mg mb fa o pm cd doc a vs ns G Y ho hd hcd hmg hobj hints hlen hg => ?_
  have KX := hY w _ Y
  obtain ⟨fd, hbind, hF⟩ := F w mg fa _ KX G.T.g hmg
  exact law_callG KX G.T.g G.T.b G.T.builtins G.T.nolimit hg hobj hints (Nat.le_trans hlen hn2) hr hF hbind fun H only sq => hsp _ H a ns hlen only sq
end Fr
set_option Elab.async false
set_option linter.all false
set_option maxRecDepth 100000
set_option maxHeartbeats 4000000
namespace Fr
open PySem L2
/-! ### what the top has written -/
theorem exm_mk {K : PySem.W.Frag} {S C : Addr} (h1 : PySem.W.subIn K (.ref C) (.type "BaseException") = some true) (h2 : PySem.W.isClsIn K C = true) (h3 : PySem.W.typeIn K (.ref C) = some (.type "type")) (h4 : PySem.W.subIn K (.ref S) (.ref C) = some true) :
    PySem.W.exmOne K (.ref S) (.ref C) = some true := by
  have e1 : (PySem.W.subIn K (.ref C) (.type "BaseException") == some true) = true := by rw [h1] <;> rfl
  have e2 : ((PySem.W.clsIn K C).isSome && PySem.W.typeIn K (.ref C) == some (.type "type")) = true := by
    have h2' : (PySem.W.clsIn K C).isSome = true := h2
    rw [h2', h3] <;> rfl
  show (if (PySem.W.subIn K (.ref C) (.type "BaseException") == some true) = true then (if ((PySem.W.clsIn K C).isSome && PySem.W.typeIn K (.ref C) == some (.type "type")) = true then PySem.W.subIn K (.ref S) (.ref C) else none) else none) = some true
  rw [if_pos e1, if_pos e2]
  exact h4
theorem kit_self {K : PySem.W.Frag} {S : Addr} : PySem.W.kitOne K (.ref S) (.ref S) = some true := by
  unfold PySem.W.kitOne
  simp
theorem kit_base {K : PySem.W.Frag} {S : Addr} (h : PySem.W.subIn K (.ref S) (.type "ValueError") = some true) : PySem.W.kitOne K (.ref S) (.type "ValueError") = some true := by
  have e : PySem.W.kitMeta "ValueError" = true := by decide +kernel
  show (if ((Value.ref S) == (Value.type "ValueError")) = true then some true else (if PySem.W.kitMeta "ValueError" = true then PySem.W.subIn K (.ref S) (.type "ValueError") else none)) = some true
  rw [if_pos e, h]
  exact ite_self _
theorem all_mk {l : PySem.W.OpenLaw} {w : World} {K : PySem.W.Frag} {h : Heap} {mg : Str → Option Value} {fa : Addr} (X : K.In h) (G : h.Ns mainGlobals mg) (hfa : mg "law" = some (.ref fa))
    {CB CP f_num f_far f_at f_pair f_check f_len f_pot f_take f_of f_drawn f_size f_spoilt f_edges f_told f_isr f_right f_law f_ini : Addr}
    {od_num an_num od_far an_far od_at an_at od_pair an_pair od_check an_check od_len an_len od_pot an_pot od_take an_take od_of an_of od_drawn an_drawn od_size an_size od_spoilt an_spoilt od_edges an_edges od_told an_told od_isr an_isr od_right an_right od_law an_law od_ini an_ini : Option Addr}
    {sl_num sl_far sl_at sl_pair sl_check sl_len sl_pot sl_take sl_of sl_drawn sl_size sl_spoilt sl_edges sl_told sl_isr sl_right sl_law sl_ini : Array (Option Value)}
    {oc_num kV_num dc_num pm_num cd_num ct_num oc_far kV_far dc_far pm_far cd_far ct_far oc_at kV_at dc_at pm_at cd_at ct_at oc_pair kV_pair dc_pair pm_pair cd_pair ct_pair oc_check kV_check dc_check pm_check cd_check ct_check oc_len kV_len dc_len pm_len cd_len ct_len oc_pot kV_pot dc_pot pm_pot cd_pot ct_pot oc_take kV_take dc_take pm_take cd_take ct_take oc_of kV_of dc_of pm_of cd_of ct_of oc_drawn kV_drawn dc_drawn pm_drawn cd_drawn ct_drawn oc_size kV_size dc_size pm_size cd_size ct_size oc_spoilt kV_spoilt dc_spoilt pm_spoilt cd_spoilt ct_spoilt oc_edges kV_edges dc_edges pm_edges cd_edges ct_edges oc_told kV_told dc_told pm_told cd_told ct_told oc_isr kV_isr dc_isr pm_isr cd_isr ct_isr oc_right kV_right dc_right pm_right cd_right ct_right oc_law kV_law dc_law pm_law cd_law ct_law oc_ini kV_ini dc_ini pm_ini cd_ini ct_ini : Value}
    {t1 t2 t3 t4 t5 t6 : Tok}
    {nm q : Str} {N : Addr} {bs : List Value} {sn : List Str} {sub : List Value} {ab : Bool} {col : Option Bool} {dd : Option Addr} {m0 m1 m2 m3 m5 : Option Value}
    (a_CB : PySem.W.nsIn K mainGlobals "BadFar" = some (some (.ref CB)))
    (a_CP : PySem.W.nsIn K mainGlobals "PassError" = some (some (.ref CP)))
    (l_CB : K.lookup CB = some (excClassObj nm q CB N bs [.ref CP, .type "ValueError", .type "Exception", .type "BaseException", .type "object"] true sn sub ab col dd m0 m1 m2 m3 m5 "ValueError.__new__"))
    (sa_CB : PySem.W.findIn K (.ref CB) "__setattr__" = some (some (.builtin "object.__setattr__")))
    (ex_CB : PySem.W.subIn K (.ref CB) (.type "BaseException") = some true)
    (ty_CB : PySem.W.typeIn K (.ref CB) = some (.type "type"))
    (k_CB : PySem.W.keepIn K (.ref CB) = true)
    (n_CB : PySem.W.findIn K (.ref CB) "value" = some none)
    (ga_CB : PySem.W.findIn K (.ref CB) "__getattribute__" = some (some (.builtin "BaseException.__getattribute__")))
    (gg_CB : PySem.W.findIn K (.ref CB) "__getattr__" = some none)
    (hd_CB : PySem.W.hasDictIn K CB = true)
    (is1 : PySem.W.findIn K (.ref CB) "__class__" = some (some (.builtin "object.__class__")))
    (is2 : PySem.W.specialIn K (.builtin "object.__class__") "__get__" = some (some (.builtin "getset_descriptor.__get__")))
    (is3 : PySem.W.takesIn K (.builtin "object.__class__") = some true)
    (is4 : PySem.W.mroIn K CB (.type "object") = some true)
    (e1 : PySem.W.subIn K (.ref CP) (.type "BaseException") = some true)
    (e2 : PySem.W.isClsIn K CP = true)
    (e3 : PySem.W.typeIn K (.ref CP) = some (.type "type"))
    (e4 : PySem.W.subIn K (.ref CB) (.ref CP) = some true)
    (e5 : PySem.W.subIn K (.ref CB) (.type "ValueError") = some true)
    (a_num : PySem.W.nsIn K mainGlobals "is_number" = some (some (.ref f_num)))
    (l_num : K.lookup f_num = some ⟨oc_num, od_num, .func (PySem.W.fnOf "is_number" "is_number" (defArgs s_is_number) (defBody s_is_number) (defScope s_is_number) .none kV_num dc_num pm_num an_num cd_num ct_num), sl_num⟩)
    (c_num : PySem.W.codeIn K cd_num "is_number" = true)
    (k_num : PySem.W.keepIn K (.ref f_num) = true)
    (a_far : PySem.W.nsIn K mainGlobals "size_of_far" = some (some (.ref f_far)))
    (l_far : K.lookup f_far = some ⟨oc_far, od_far, .func (PySem.W.fnOf "size_of_far" "size_of_far" (defArgs s_size_of_far) (defBody s_size_of_far) (defScope s_size_of_far) .none kV_far dc_far pm_far an_far cd_far ct_far), sl_far⟩)
    (c_far : PySem.W.codeIn K cd_far "size_of_far" = true)
    (k_far : PySem.W.keepIn K (.ref f_far) = true)
    (a_at : PySem.W.nsIn K mainGlobals "size_at" = some (some (.ref f_at)))
    (l_at : K.lookup f_at = some ⟨oc_at, od_at, .func (PySem.W.fnOf "size_at" "size_at" (defArgs s_size_at) (defBody s_size_at) (defScope s_size_at) .none kV_at dc_at pm_at an_at cd_at ct_at), sl_at⟩)
    (c_at : PySem.W.codeIn K cd_at "size_at" = true)
    (k_at : PySem.W.keepIn K (.ref f_at) = true)
    (a_pair : PySem.W.nsIn K mainGlobals "size_of_pair" = some (some (.ref f_pair)))
    (l_pair : K.lookup f_pair = some ⟨oc_pair, od_pair, .func (PySem.W.fnOf "size_of_pair" "size_of_pair" (defArgs s_size_of_pair) (defBody s_size_of_pair) (defScope s_size_of_pair) .none kV_pair dc_pair pm_pair an_pair cd_pair ct_pair), sl_pair⟩)
    (c_pair : PySem.W.codeIn K cd_pair "size_of_pair" = true)
    (k_pair : PySem.W.keepIn K (.ref f_pair) = true)
    (a_check : PySem.W.nsIn K mainGlobals "check_far" = some (some (.ref f_check)))
    (l_check : K.lookup f_check = some ⟨oc_check, od_check, .func (PySem.W.fnOf "check_far" "check_far" (defArgs s_check_far) (defBody s_check_far) (defScope s_check_far) .none kV_check dc_check pm_check an_check cd_check ct_check), sl_check⟩)
    (c_check : PySem.W.codeIn K cd_check "check_far" = true)
    (k_check : PySem.W.keepIn K (.ref f_check) = true)
    (a_len : PySem.W.nsIn K mainGlobals "far_length" = some (some (.ref f_len)))
    (l_len : K.lookup f_len = some ⟨oc_len, od_len, .func (PySem.W.fnOf "far_length" "far_length" (defArgs s_far_length) (defBody s_far_length) (defScope s_far_length) .none kV_len dc_len pm_len an_len cd_len ct_len), sl_len⟩)
    (c_len : PySem.W.codeIn K cd_len "far_length" = true)
    (k_len : PySem.W.keepIn K (.ref f_len) = true)
    (a_pot : PySem.W.nsIn K mainGlobals "_law_pot_of" = some (some (.ref f_pot)))
    (l_pot : K.lookup f_pot = some ⟨oc_pot, od_pot, .func (PySem.W.fnOf "_law_pot_of" "_law_pot_of" (defArgs s__law_pot_of) (defBody s__law_pot_of) (defScope s__law_pot_of) .none kV_pot dc_pot pm_pot an_pot cd_pot ct_pot), sl_pot⟩)
    (c_pot : PySem.W.codeIn K cd_pot "_law_pot_of" = true)
    (k_pot : PySem.W.keepIn K (.ref f_pot) = true)
    (a_take : PySem.W.nsIn K mainGlobals "_law_take" = some (some (.ref f_take)))
    (l_take : K.lookup f_take = some ⟨oc_take, od_take, .func (PySem.W.fnOf "_law_take" "_law_take" (defArgs s__law_take) (defBody s__law_take) (defScope s__law_take) .none kV_take dc_take pm_take an_take cd_take ct_take), sl_take⟩)
    (c_take : PySem.W.codeIn K cd_take "_law_take" = true)
    (k_take : PySem.W.keepIn K (.ref f_take) = true)
    (a_of : PySem.W.nsIn K mainGlobals "_law_of" = some (some (.ref f_of)))
    (l_of : K.lookup f_of = some ⟨oc_of, od_of, .func (PySem.W.fnOf "_law_of" "_law_of" (defArgs s__law_of) (defBody s__law_of) (defScope s__law_of) .none kV_of dc_of pm_of an_of cd_of ct_of), sl_of⟩)
    (c_of : PySem.W.codeIn K cd_of "_law_of" = true)
    (k_of : PySem.W.keepIn K (.ref f_of) = true)
    (a_drawn : PySem.W.nsIn K mainGlobals "_law_drawn" = some (some (.ref f_drawn)))
    (l_drawn : K.lookup f_drawn = some ⟨oc_drawn, od_drawn, .func (PySem.W.fnOf "_law_drawn" "_law_drawn" (defArgs s__law_drawn) (defBody s__law_drawn) (defScope s__law_drawn) .none kV_drawn dc_drawn pm_drawn an_drawn cd_drawn ct_drawn), sl_drawn⟩)
    (c_drawn : PySem.W.codeIn K cd_drawn "_law_drawn" = true)
    (k_drawn : PySem.W.keepIn K (.ref f_drawn) = true)
    (a_size : PySem.W.nsIn K mainGlobals "_law_size" = some (some (.ref f_size)))
    (l_size : K.lookup f_size = some ⟨oc_size, od_size, .func (PySem.W.fnOf "_law_size" "_law_size" (defArgs s__law_size) (defBody s__law_size) (defScope s__law_size) .none kV_size dc_size pm_size an_size cd_size ct_size), sl_size⟩)
    (c_size : PySem.W.codeIn K cd_size "_law_size" = true)
    (k_size : PySem.W.keepIn K (.ref f_size) = true)
    (a_spoilt : PySem.W.nsIn K mainGlobals "_law_spoilt" = some (some (.ref f_spoilt)))
    (l_spoilt : K.lookup f_spoilt = some ⟨oc_spoilt, od_spoilt, .func (PySem.W.fnOf "_law_spoilt" "_law_spoilt" (defArgs s__law_spoilt) (defBody s__law_spoilt) (defScope s__law_spoilt) .none kV_spoilt dc_spoilt pm_spoilt an_spoilt cd_spoilt ct_spoilt), sl_spoilt⟩)
    (c_spoilt : PySem.W.codeIn K cd_spoilt "_law_spoilt" = true)
    (k_spoilt : PySem.W.keepIn K (.ref f_spoilt) = true)
    (a_edges : PySem.W.nsIn K mainGlobals "_law_edges" = some (some (.ref f_edges)))
    (l_edges : K.lookup f_edges = some ⟨oc_edges, od_edges, .func (PySem.W.fnOf "_law_edges" "_law_edges" (defArgs s__law_edges) (defBody s__law_edges) (defScope s__law_edges) .none kV_edges dc_edges pm_edges an_edges cd_edges ct_edges), sl_edges⟩)
    (c_edges : PySem.W.codeIn K cd_edges "_law_edges" = true)
    (k_edges : PySem.W.keepIn K (.ref f_edges) = true)
    (a_told : PySem.W.nsIn K mainGlobals "_law_told" = some (some (.ref f_told)))
    (l_told : K.lookup f_told = some ⟨oc_told, od_told, .func (PySem.W.fnOf "_law_told" "_law_told" (defArgs s__law_told) (defBody s__law_told) (defScope s__law_told) .none kV_told dc_told pm_told an_told cd_told ct_told), sl_told⟩)
    (c_told : PySem.W.codeIn K cd_told "_law_told" = true)
    (k_told : PySem.W.keepIn K (.ref f_told) = true)
    (a_isr : PySem.W.nsIn K mainGlobals "_law_is_right" = some (some (.ref f_isr)))
    (l_isr : K.lookup f_isr = some ⟨oc_isr, od_isr, .func (PySem.W.fnOf "_law_is_right" "_law_is_right" (defArgs s__law_is_right) (defBody s__law_is_right) (defScope s__law_is_right) .none kV_isr dc_isr pm_isr an_isr cd_isr ct_isr), sl_isr⟩)
    (c_isr : PySem.W.codeIn K cd_isr "_law_is_right" = true)
    (k_isr : PySem.W.keepIn K (.ref f_isr) = true)
    (a_right : PySem.W.nsIn K mainGlobals "_law_right" = some (some (.ref f_right)))
    (l_right : K.lookup f_right = some ⟨oc_right, od_right, .func (PySem.W.fnOf "_law_right" "_law_right" (defArgs s__law_right) (defBody s__law_right) (defScope s__law_right) .none kV_right dc_right pm_right an_right cd_right ct_right), sl_right⟩)
    (c_right : PySem.W.codeIn K cd_right "_law_right" = true)
    (k_right : PySem.W.keepIn K (.ref f_right) = true)
    (a_law : PySem.W.nsIn K mainGlobals "law" = some (some (.ref f_law)))
    (l_law : K.lookup f_law = some ⟨oc_law, od_law, .func (PySem.W.fnOf "law" "law" (defArgs s_law) (defBody s_law) (defScope s_law) .none kV_law dc_law pm_law an_law cd_law ct_law), sl_law⟩)
    (c_law : PySem.W.codeIn K cd_law "law" = true)
    (k_law : PySem.W.keepIn K (.ref f_law) = true)
    (a_ini : PySem.W.findIn K (.ref CB) "__init__" = some (some (.ref f_ini)))
    (i_ini : PySem.W.typeIn K (.ref f_ini) = some (.type "function"))
    (l_ini : K.lookup f_ini = some ⟨oc_ini, od_ini, .func (PySem.W.fnOf "__init__" "PassError.__init__" (defArgs s_PassError_init) (defBody s_PassError_init) (defScope s_PassError_init) .none kV_ini dc_ini pm_ini an_ini cd_ini ct_ini), sl_ini⟩)
    (c_ini : PySem.W.codeIn K cd_ini "PassError.__init__" = true)
    (k_ini : PySem.W.keepIn K (.ref f_ini) = true)
    (z_len : PySem.W.nsIn K mainGlobals "len" = some none)
    (z_int : PySem.W.nsIn K mainGlobals "int" = some none)
    (z_abs : PySem.W.nsIn K mainGlobals "abs" = some none)
    (z_str : PySem.W.nsIn K mainGlobals "str" = some none)
    (z_list : PySem.W.nsIn K mainGlobals "list" = some none)
    (z_tuple : PySem.W.nsIn K mainGlobals "tuple" = some none)
    (z_range : PySem.W.nsIn K mainGlobals "range" = some none)
    (z_isinstance : PySem.W.nsIn K mainGlobals "isinstance" = some none)
    (z_bool : PySem.W.nsIn K mainGlobals "bool" = some none)
    (z_all : PySem.W.nsIn K mainGlobals "all" = some none)
    (z_sum : PySem.W.nsIn K mainGlobals "sum" = some none)
    (z_repr : PySem.W.nsIn K mainGlobals "repr" = some none)
    (z_max : PySem.W.nsIn K mainGlobals "max" = some none)
    (z_min : PySem.W.nsIn K mainGlobals "min" = some none)
    (z_ValueError : PySem.W.nsIn K mainGlobals "ValueError" = some none)
    (v_ALPHABET : PySem.W.nsIn K mainGlobals "ALPHABET" = some (some (.str alpha t1)))
    (v_MOST_PAIRS : PySem.W.nsIn K mainGlobals "MOST_PAIRS" = some (some (.int 6 t2)))
    (v_LONGEST_PIECE : PySem.W.nsIn K mainGlobals "LONGEST_PIECE" = some (some (.int 20 t3)))
    (v_MOST_TIMES : PySem.W.nsIn K mainGlobals "MOST_TIMES" = some (some (.int 1000000000000000000 t4)))
    (v_DEEPEST : PySem.W.nsIn K mainGlobals "DEEPEST" = some (some (.int 4 t5)))
    (v_MOST_SYMBOLS : PySem.W.nsIn K mainGlobals "MOST_SYMBOLS" = some (some (.int 1000000000000000000000000 t6))) :
    ∃ fd : FuncData, (∀ (s : Shared) (v : Value), BindsTo s fd ⟨[v], []⟩ [("_law_script", v)]) ∧ ∀ base : Heap, K.In base → base.Ns mainGlobals mg → FnOkG l.prog w K mg base 17 fa fd ["_law_script"] (spLaw K) := by
  have e := hfa.symm.trans (PySem.W.mg_of X G a_law)
  cases e
  have F_num := fun_mk (st := s_is_number) l_num c_num k_num
  have b_num := F_num.binds (ps := ["value"]) fun _ _ _ _ _ _ us hl => match us, hl with | [_], _ => rfl
  have m_num := PySem.W.mg_of X G a_num
  have F_far := fun_mk (st := s_size_of_far) l_far c_far k_far
  have b_far := F_far.binds (ps := ["symbols", "value"]) fun _ _ _ _ _ _ us hl => match us, hl with | [_, _], _ => rfl
  have m_far := PySem.W.mg_of X G a_far
  have F_at := fun_mk (st := s_size_at) l_at c_at k_at
  have b_at := F_at.binds (ps := ["symbols", "value", "depth"]) fun _ _ _ _ _ _ us hl => match us, hl with | [_, _, _], _ => rfl
  have m_at := PySem.W.mg_of X G a_at
  have F_pair := fun_mk (st := s_size_of_pair) l_pair c_pair k_pair
  have b_pair := F_pair.binds (ps := ["symbols", "pair", "depth"]) fun _ _ _ _ _ _ us hl => match us, hl with | [_, _, _], _ => rfl
  have m_pair := PySem.W.mg_of X G a_pair
  have F_check := fun_mk (st := s_check_far) l_check c_check k_check
  have b_check := F_check.binds (ps := ["symbols", "value"]) fun _ _ _ _ _ _ us hl => match us, hl with | [_, _], _ => rfl
  have m_check := PySem.W.mg_of X G a_check
  have F_len := fun_mk (st := s_far_length) l_len c_len k_len
  have b_len := F_len.binds (ps := ["far"]) fun _ _ _ _ _ _ us hl => match us, hl with | [_], _ => rfl
  have m_len := PySem.W.mg_of X G a_len
  have F_pot := fun_mk (st := s__law_pot_of) l_pot c_pot k_pot
  have b_pot := F_pot.binds (ps := ["_law_script", "_law_k"]) fun _ _ _ _ _ _ us hl => match us, hl with | [_, _], _ => rfl
  have m_pot := PySem.W.mg_of X G a_pot
  have F_take := fun_mk (st := s__law_take) l_take c_take k_take
  have b_take := F_take.binds (ps := ["_law_pot", "_law_upto"]) fun _ _ _ _ _ _ us hl => match us, hl with | [_, _], _ => rfl
  have m_take := PySem.W.mg_of X G a_take
  have F_of := fun_mk (st := s__law_of) l_of c_of k_of
  have b_of := F_of.binds (ps := ["_law_pot", "_law_some"]) fun _ _ _ _ _ _ us hl => match us, hl with | [_, _], _ => rfl
  have m_of := PySem.W.mg_of X G a_of
  have F_drawn := fun_mk (st := s__law_drawn) l_drawn c_drawn k_drawn
  have b_drawn := F_drawn.binds (ps := ["_law_pot", "_law_deep"]) fun _ _ _ _ _ _ us hl => match us, hl with | [_, _], _ => rfl
  have m_drawn := PySem.W.mg_of X G a_drawn
  have F_size := fun_mk (st := s__law_size) l_size c_size k_size
  have b_size := F_size.binds (ps := ["_law_thing", "_law_deep"]) fun _ _ _ _ _ _ us hl => match us, hl with | [_, _], _ => rfl
  have m_size := PySem.W.mg_of X G a_size
  have F_spoilt := fun_mk (st := s__law_spoilt) l_spoilt c_spoilt k_spoilt
  have b_spoilt := F_spoilt.binds (ps := ["_law_pot", "_law_thing"]) fun _ _ _ _ _ _ us hl => match us, hl with | [_, _], _ => rfl
  have m_spoilt := PySem.W.mg_of X G a_spoilt
  have F_edges := fun_mk (st := s__law_edges) l_edges c_edges k_edges
  have b_edges := F_edges.binds (ps := []) fun _ _ _ _ _ _ us hl => match us, hl with | [], _ => rfl
  have m_edges := PySem.W.mg_of X G a_edges
  have F_told := fun_mk (st := s__law_told) l_told c_told k_told
  have b_told := F_told.binds (ps := ["_law_thing"]) fun _ _ _ _ _ _ us hl => match us, hl with | [_], _ => rfl
  have m_told := PySem.W.mg_of X G a_told
  have F_isr := fun_mk (st := s__law_is_right) l_isr c_isr k_isr
  have b_isr := F_isr.binds (ps := ["_law_thing"]) fun _ _ _ _ _ _ us hl => match us, hl with | [_], _ => rfl
  have m_isr := PySem.W.mg_of X G a_isr
  have F_right := fun_mk (st := s__law_right) l_right c_right k_right
  have b_right := F_right.binds (ps := ["_law_pot"]) fun _ _ _ _ _ _ us hl => match us, hl with | [_], _ => rfl
  have m_right := PySem.W.mg_of X G a_right
  have F_law := fun_mk (st := s_law) l_law c_law k_law
  have b_law := F_law.binds (ps := ["_law_script"]) fun _ _ _ _ _ _ us hl => match us, hl with | [_], _ => rfl
  have m_law := PySem.W.mg_of X G a_law
  have F_ini := fun_mk (st := s_PassError_init) l_ini c_ini k_ini
  have b_ini := F_ini.binds (ps := ["self", "value"]) fun _ _ _ _ _ _ us hl => match us, hl with | [_, _], _ => rfl
  have g_CB := PySem.W.mg_of X G a_CB
  have g_CP := PySem.W.mg_of X G a_CP
  have y_len := PySem.W.mg_none_of X G z_len
  have y_int := PySem.W.mg_none_of X G z_int
  have y_abs := PySem.W.mg_none_of X G z_abs
  have y_str := PySem.W.mg_none_of X G z_str
  have y_list := PySem.W.mg_none_of X G z_list
  have y_tuple := PySem.W.mg_none_of X G z_tuple
  have y_range := PySem.W.mg_none_of X G z_range
  have y_isinstance := PySem.W.mg_none_of X G z_isinstance
  have y_bool := PySem.W.mg_none_of X G z_bool
  have y_all := PySem.W.mg_none_of X G z_all
  have y_sum := PySem.W.mg_none_of X G z_sum
  have y_repr := PySem.W.mg_none_of X G z_repr
  have y_max := PySem.W.mg_none_of X G z_max
  have y_min := PySem.W.mg_none_of X G z_min
  have y_ValueError := PySem.W.mg_none_of X G z_ValueError
  have T : Bare mg := ⟨y_len, y_int, y_abs, y_str, y_list, y_tuple, y_range⟩
  have C : Con K mg := ⟨⟨_, PySem.W.mg_of X G v_ALPHABET⟩, ⟨_, PySem.W.mg_of X G v_MOST_PAIRS⟩, ⟨_, PySem.W.mg_of X G v_LONGEST_PIECE⟩, ⟨_, PySem.W.mg_of X G v_MOST_TIMES⟩, ⟨_, PySem.W.mg_of X G v_DEEPEST⟩, ⟨_, PySem.W.mg_of X G v_MOST_SYMBOLS⟩, y_isinstance, y_bool, y_all, y_sum, y_repr, y_max, y_min, y_ValueError⟩
  have OX : OexC K CB := ⟨⟨nm, q, N, bs, _, sn, sub, ab, col, dd, m0, m1, m2, m3, m5, l_CB, rfl⟩, sa_CB, ex_CB, ty_CB, k_CB⟩
  refine ⟨PySem.W.fnOf "law" "law" (defArgs s_law) (defBody s_law) (defScope s_law) .none kV_law dc_law pm_law an_law cd_law ct_law, fun s v => .of_eq rfl, fun base _ _ => ?_⟩
  have TB : BadTxt l.prog w K mg base CB f_ini := ⟨OX, a_ini, i_ini, n_CB, g_CB⟩
  have TK : KeptTxt K mg CB CP := ⟨⟨ga_CB, gg_CB, ex_CB, hd_CB, is1, is2, is3, is4⟩, n_CB, g_CP, g_CB, exm_mk e1 e2 e3 e4, kit_self, kit_base e5⟩
  have CT : Callee l.prog w K mg base 1 "_law_take" ["_law_pot", "_law_upto"] spTake := ⟨f_take, _, ok_take F_take T, m_take, k_take, b_take⟩
  have CO : Callee l.prog w K mg base 2 "_law_of" ["_law_pot", "_law_some"] (spOf K) := ⟨f_of, _, ok_of F_of T CT, m_of, k_of, b_of⟩
  have CPot : Callee l.prog w K mg base 1 "_law_pot_of" ["_law_script", "_law_k"] (spPotOf K) := ⟨f_pot, _, ok_pot_of F_pot T, m_pot, k_pot, b_pot⟩
  have CE : Callee l.prog w K mg base 1 "_law_edges" [] (spEdges K) := ⟨f_edges, _, ok_edges F_edges T, m_edges, k_edges, b_edges⟩
  have CN : Callee l.prog w K mg base 1 "is_number" ["value"] (spNum K) := ⟨f_num, _, ok_num F_num T C, m_num, k_num, b_num⟩
  have CA : Callee l.prog w K mg base 10 "size_at" ["symbols", "value", "depth"] (spAt K 4) := ⟨f_at, _, ok_tower F_at F_pair T C m_at k_at b_at m_pair k_pair b_pair CN, m_at, k_at, b_at⟩
  have CF : Callee l.prog w K mg base 11 "size_of_far" ["symbols", "value"] (spFar K) := ⟨f_far, _, ok_far F_far C CA, m_far, k_far, b_far⟩
  have OI0 := ok_pass_init (P := l.prog) (w := w) (K := K) (mg := mg) (base := base) F_ini
  have OC := ok_check F_check TB OI0 b_ini CF
  have OL := ok_length F_len C OC m_check k_check b_check CF
  have CTo : Callee l.prog w K mg base 14 "_law_told" ["_law_thing"] (spTold K) := ⟨f_told, _, ok_told F_told T C TK OL m_len k_len b_len, m_told, k_told, b_told⟩
  have CS_ : Callee l.prog w K mg base 1 "_law_size" ["_law_thing", "_law_deep"] spNo := ⟨f_size, _, never_ok, m_size, k_size, b_size⟩
  have CS0 : Callee l.prog w K mg base 2 "_law_size" ["_law_thing", "_law_deep"] (spSize K 0) := ⟨f_size, _, ok_lsize (k := 0) (lev := 1) F_size T C (fun j e => by cases e) CS_, m_size, k_size, b_size⟩
  have CS1 : Callee l.prog w K mg base 3 "_law_size" ["_law_thing", "_law_deep"] (spSize K 1) := ⟨f_size, _, ok_lsize (k := 1) (lev := 2) F_size T C (fun j e => by cases e; rfl) CS0, m_size, k_size, b_size⟩
  have CS2 : Callee l.prog w K mg base 4 "_law_size" ["_law_thing", "_law_deep"] (spSize K 2) := ⟨f_size, _, ok_lsize (k := 2) (lev := 3) F_size T C (fun j e => by cases e; rfl) CS1, m_size, k_size, b_size⟩
  have CS3 : Callee l.prog w K mg base 5 "_law_size" ["_law_thing", "_law_deep"] (spSize K 3) := ⟨f_size, _, ok_lsize (k := 3) (lev := 4) F_size T C (fun j e => by cases e; rfl) CS2, m_size, k_size, b_size⟩
  have CS4 : Callee l.prog w K mg base 6 "_law_size" ["_law_thing", "_law_deep"] (spSize K 4) := ⟨f_size, _, ok_lsize (k := 4) (lev := 5) F_size T C (fun j e => by cases e; rfl) CS3, m_size, k_size, b_size⟩
  have CD_ : Callee l.prog w K mg base 2 "_law_drawn" ["_law_pot", "_law_deep"] spNo := ⟨f_drawn, _, never_ok, m_drawn, k_drawn, b_drawn⟩
  have CD1 : Callee l.prog w K mg base 3 "_law_drawn" ["_law_pot", "_law_deep"] (spDrawn K 1) := ⟨f_drawn, _, ok_drawn (k := 1) (lev := 2) F_drawn T (by decide) (by decide) (fun j e => by cases e) CT CO CD_, m_drawn, k_drawn, b_drawn⟩
  have CD2 : Callee l.prog w K mg base 4 "_law_drawn" ["_law_pot", "_law_deep"] (spDrawn K 2) := ⟨f_drawn, _, ok_drawn (k := 2) (lev := 3) F_drawn T (by decide) (by decide) (fun j e => by cases e; rfl) CT CO CD1, m_drawn, k_drawn, b_drawn⟩
  have CD3 : Callee l.prog w K mg base 5 "_law_drawn" ["_law_pot", "_law_deep"] (spDrawn K 3) := ⟨f_drawn, _, ok_drawn (k := 3) (lev := 4) F_drawn T (by decide) (by decide) (fun j e => by cases e; rfl) CT CO CD2, m_drawn, k_drawn, b_drawn⟩
  have CD4 : Callee l.prog w K mg base 6 "_law_drawn" ["_law_pot", "_law_deep"] (spDrawn K 4) := ⟨f_drawn, _, ok_drawn (k := 4) (lev := 5) F_drawn T (by decide) (by decide) (fun j e => by cases e; rfl) CT CO CD3, m_drawn, k_drawn, b_drawn⟩
  have CW_ : Callee l.prog w K mg base 2 "_law_spoilt" ["_law_pot", "_law_thing"] spNo := ⟨f_spoilt, _, never_ok, m_spoilt, k_spoilt, b_spoilt⟩
  have CW1 : Callee l.prog w K mg base 3 "_law_spoilt" ["_law_pot", "_law_thing"] (spSpoilt K 1) := ⟨f_spoilt, _, ok_spoilt (k := 1) (lev := 2) F_spoilt T C (by decide) (by decide) (by decide) (fun j e => by cases e) CT CO CW_, m_spoilt, k_spoilt, b_spoilt⟩
  have CW2 : Callee l.prog w K mg base 4 "_law_spoilt" ["_law_pot", "_law_thing"] (spSpoilt K 2) := ⟨f_spoilt, _, ok_spoilt (k := 2) (lev := 3) F_spoilt T C (by decide) (by decide) (by decide) (fun j e => by cases e; rfl) CT CO CW1, m_spoilt, k_spoilt, b_spoilt⟩
  have CW3 : Callee l.prog w K mg base 5 "_law_spoilt" ["_law_pot", "_law_thing"] (spSpoilt K 3) := ⟨f_spoilt, _, ok_spoilt (k := 3) (lev := 4) F_spoilt T C (by decide) (by decide) (by decide) (fun j e => by cases e; rfl) CT CO CW2, m_spoilt, k_spoilt, b_spoilt⟩
  have CW4 : Callee l.prog w K mg base 6 "_law_spoilt" ["_law_pot", "_law_thing"] (spSpoilt K 4) := ⟨f_spoilt, _, ok_spoilt (k := 4) (lev := 5) F_spoilt T C (by decide) (by decide) (by decide) (fun j e => by cases e; rfl) CT CO CW3, m_spoilt, k_spoilt, b_spoilt⟩
  have OI := ok_is_right F_isr T C CS4 CTo
  have OR := ok_right F_right T C CD4 CW4 OI m_isr k_isr b_isr
  exact ok_law F_law T C CPot CE OI m_isr k_isr b_isr OR m_right k_right b_right
end Fr
open PySem PySem.W PyProof.Rows L2
set_option maxRecDepth 100000 in
set_option maxHeartbeats 0 in
theorem PySem.Challenge.cw_fewgoings_k71_far_texts_and_what_are_non_holds : PySem.Challenge.rw_fewgoings_k71_far_texts_and_what_are_non.Holds := by
  w_on; o_law; k_head; (case hw => w_witness2)
  k_fill
  refine Fr.walk_G (l := PySem.Challenge.rw_fewgoings_k71_far_texts_and_what_are_non) (n := 63) (k := 17) (x := "_law_script") (sp := Fr.spLaw) rfl (by decide) rfl ⟨rfl, by decide, by decide⟩ (fun w h Y => PySem.W.kIn_of Y) ?F (fun _ _ a ns hl _ hS => ⟨a, ns, rfl, hS, hl, fun _ => rfl⟩)
  case F =>
    intro w mg fa h KX G hmg
    refine' Fr.all_mk KX G hmg ?a_CB ?a_CP ?l_CB ?sa_CB ?ex_CB ?ty_CB ?k_CB ?n_CB ?ga_CB ?gg_CB ?hd_CB ?is1 ?is2 ?is3 ?is4 ?e1 ?e2 ?e3 ?e4 ?e5 ?a_num ?l_num ?c_num ?k_num ?a_far ?l_far ?c_far ?k_far ?a_at ?l_at ?c_at ?k_at ?a_pair ?l_pair ?c_pair ?k_pair ?a_check ?l_check ?c_check ?k_check ?a_len ?l_len ?c_len ?k_len ?a_pot ?l_pot ?c_pot ?k_pot ?a_take ?l_take ?c_take ?k_take ?a_of ?l_of ?c_of ?k_of ?a_drawn ?l_drawn ?c_drawn ?k_drawn ?a_size ?l_size ?c_size ?k_size ?a_spoilt ?l_spoilt ?c_spoilt ?k_spoilt ?a_edges ?l_edges ?c_edges ?k_edges ?a_told ?l_told ?c_told ?k_told ?a_isr ?l_isr ?c_isr ?k_isr ?a_right ?l_right ?c_right ?k_right ?a_law ?l_law ?c_law ?k_law ?a_ini ?i_ini ?l_ini ?c_ini ?k_ini ?z_len ?z_int ?z_abs ?z_str ?z_list ?z_tuple ?z_range ?z_isinstance ?z_bool ?z_all ?z_sum ?z_repr ?z_max ?z_min ?z_ValueError ?v_ALPHABET ?v_MOST_PAIRS ?v_LONGEST_PIECE ?v_MOST_TIMES ?v_DEEPEST ?v_MOST_SYMBOLS
    (case a_CB => k_is)
    (case a_CP => k_is)
    (case l_CB => k_is)
    (case sa_CB => k_is)
    (case ex_CB => k_is)
    (case ty_CB => k_is)
    (case k_CB => k_is)
    (case n_CB => k_is)
    (case ga_CB => k_is)
    (case gg_CB => k_is)
    (case hd_CB => k_is)
    (case is1 => k_is)
    (case is2 => k_is)
    (case is3 => k_is)
    (case is4 => k_is)
    (case e1 => k_is)
    (case e2 => k_is)
    (case e3 => k_is)
    (case e4 => k_is)
    (case e5 => k_is)
    (case a_num => k_is)
    (case l_num => k_is)
    (case c_num => k_is)
    (case k_num => k_is)
    (case a_far => k_is)
    (case l_far => k_is)
    (case c_far => k_is)
    (case k_far => k_is)
    (case a_at => k_is)
    (case l_at => k_is)
    (case c_at => k_is)
    (case k_at => k_is)
    (case a_pair => k_is)
    (case l_pair => k_is)
    (case c_pair => k_is)
    (case k_pair => k_is)
    (case a_check => k_is)
    (case l_check => k_is)
    (case c_check => k_is)
    (case k_check => k_is)
    (case a_len => k_is)
    (case l_len => k_is)
    (case c_len => k_is)
    (case k_len => k_is)
    (case a_pot => k_is)
    (case l_pot => k_is)
    (case c_pot => k_is)
    (case k_pot => k_is)
    (case a_take => k_is)
    (case l_take => k_is)
    (case c_take => k_is)
    (case k_take => k_is)
    (case a_of => k_is)
    (case l_of => k_is)
    (case c_of => k_is)
    (case k_of => k_is)
    (case a_drawn => k_is)
    (case l_drawn => k_is)
    (case c_drawn => k_is)
    (case k_drawn => k_is)
    (case a_size => k_is)
    (case l_size => k_is)
    (case c_size => k_is)
    (case k_size => k_is)
    (case a_spoilt => k_is)
    (case l_spoilt => k_is)
    (case c_spoilt => k_is)
    (case k_spoilt => k_is)
    (case a_edges => k_is)
    (case l_edges => k_is)
    (case c_edges => k_is)
    (case k_edges => k_is)
    (case a_told => k_is)
    (case l_told => k_is)
    (case c_told => k_is)
    (case k_told => k_is)
    (case a_isr => k_is)
    (case l_isr => k_is)
    (case c_isr => k_is)
    (case k_isr => k_is)
    (case a_right => k_is)
    (case l_right => k_is)
    (case c_right => k_is)
    (case k_right => k_is)
    (case a_law => k_is)
    (case l_law => k_is)
    (case c_law => k_is)
    (case k_law => k_is)
    (case a_ini => k_is)
    (case i_ini => k_is)
    (case l_ini => k_is)
    (case c_ini => k_is)
    (case k_ini => k_is)
    (case z_len => k_is)
    (case z_int => k_is)
    (case z_abs => k_is)
    (case z_str => k_is)
    (case z_list => k_is)
    (case z_tuple => k_is)
    (case z_range => k_is)
    (case z_isinstance => k_is)
    (case z_bool => k_is)
    (case z_all => k_is)
    (case z_sum => k_is)
    (case z_repr => k_is)
    (case z_max => k_is)
    (case z_min => k_is)
    (case z_ValueError => k_is)
    (case v_ALPHABET => k_is)
    (case v_MOST_PAIRS => k_is)
    (case v_LONGEST_PIECE => k_is)
    (case v_MOST_TIMES => k_is)
    (case v_DEEPEST => k_is)
    (case v_MOST_SYMBOLS => k_is)
