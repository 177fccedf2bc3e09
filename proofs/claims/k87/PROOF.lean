import PyProof.Rows.All
import Wide.All
import OpenK.AllK
import Wide.FinOn
import HandS.ForMost
import HandS.IsInst
import HandS.TupAny
import HandS.TupMul
import PyProof.ReprRoads
import PyProof.ReprLen
import PyProof.StrLawsRepr
import PyProof.FitsInt
import HandS.ForExc
import HandS.ExcInit
import HandS.ExcIs
import HandS.ExcField
import HandS.ExcValue
import KE.KIsAll
import KE.KTryMore
import HandS.Walk
import KE.KIntText
import PyProof.Rows.StrIntSpec
import HandS.FStr
import HandS.CallLocal
import PySem.Challenge.RW_fewgoings_k87_texts_of_far_texts
set_option Elab.async false
set_option linter.all false
set_option maxRecDepth 100000
namespace Fs
open PySem L2
def top (i : Nat) : Stmt := PySem.Challenge.pw_fewgoings_k87_texts_of_far_texts.main.body.getD i (.Pass ⟨0, 0, 0, 0⟩)
/-- a def of the text that stands ready to be called -/
structure Callee (P : Program) (w : World) (K : PySem.W.Frag) (mg : Str → Option Value) (base : Heap) (k : Nat) (x : Str) (ps : List Str) (sp : Sp) where
  f : Addr
  fd : FuncData
  ok : FnOk P w K mg base CX0 k f fd ps sp
  mg : mg x = some (.ref f)
  kp : PySem.W.keepIn K (.ref f) = true
  b : Binds K fd ps []
/-- the built-in names that are nobody's -/
structure Bare (mg : Str → Option Value) : Prop where
  len : mg "len" = none
  int : mg "int" = none
  abs : mg "abs" = none
  str : mg "str" = none
  list : mg "list" = none
  tuple : mg "tuple" = none
  range : mg "range" = none
theorem same_new {H : Hp} {p : Addr} (h : H p = none) (o : HO) : Same H (upd H p o) := fun b u q => by rw [upd_ne (ne_of_none q h)]; exact q
/-- all but what stands at p is as it was -/
def But (p : Addr) (H H' : Hp) : Prop := ∀ b o, H b = some o → b ≠ p → H' b = some o
theorem But.refl (p : Addr) (H : Hp) : But p H H := fun _ _ h _ => h
theorem But.trans {p : Addr} {H H1 H2 : Hp} (a : But p H H1) (b : But p H1 H2) : But p H H2 := fun c o h n => b c o (a c o h n) n
theorem But.of_same {p : Addr} {H H' : Hp} (s : Same H H') : But p H H' := fun b o h _ => s b o h
theorem But.upd {p : Addr} {H : Hp} {o : HO} : But p H (L2.upd H p o) := fun b u q n => by rw [upd_ne n]; exact q
theorem small {n : Nat} (h : n ≤ 1000) : n ≤ sizeLine := Nat.le_of_lt (small1000 h)
end Fs
set_option Elab.async false
set_option linter.all false
set_option maxRecDepth 100000
set_option maxHeartbeats 2000000
namespace Fs
open PySem PySem.Spec PyProof.Rows L2
/-! ### data of any kind: what a value is, all through -/
mutual
inductive Dv (K : PySem.W.Frag) (H : Hp) : V → PyData → Prop
  | non : Dv K H .non .none
  | bl (b : Bool) : Dv K H (.bl b) (.bool b)
  | int (i : Int) : Dv K H (.int i) (.int i)
  | str (x : Str) (h : x.length ≤ 1000000) : Dv K H (.str x) (.str x)
  | lst {a : Addr} {xs : List V} {ds : List PyData} (h : SqL K H a xs) (g : DvAll K H xs ds) : Dv K H (.ref a) (.list ds)
  | tup {a : Addr} {xs : List V} {ds : List PyData} (h : SqT K H a xs) (g : DvAll K H xs ds) : Dv K H (.ref a) (.tuple ds)
  | dct {a : Addr} (h : H a = some (.dK [])) : Dv K H (.ref a) (.dict [])
inductive DvAll (K : PySem.W.Frag) (H : Hp) : List V → List PyData → Prop
  | nil : DvAll K H [] []
  | cons {v : V} {vs : List V} {d : PyData} {ds : List PyData} (h : Dv K H v d) (g : DvAll K H vs ds) : DvAll K H (v :: vs) (d :: ds)
end
mutual
def noList : PyData → Bool
  | .list _ => false
  | .tuple xs => noListAll xs
  | .dict kvs => kvs.isEmpty
  | _ => true
def noListAll : List PyData → Bool
  | [] => true
  | x :: xs => noList x && noListAll xs
end
theorem same_sqL {K : PySem.W.Frag} {H H' : Hp} {a : Addr} {xs : List V} (s : Same H H') (h : SqL K H a xs) : SqL K H' a xs := by
  rcases h with (h | ⟨o, h⟩) | h
  · exact .inl (.inl (s _ _ h))
  · exact .inl (.inr ⟨o, s _ _ h⟩)
  · exact .inr h
theorem same_sqT {K : PySem.W.Frag} {H H' : Hp} {a : Addr} {xs : List V} (s : Same H H') (h : SqT K H a xs) : SqT K H' a xs := by
  rcases h with (h | ⟨o, h⟩) | h
  · exact .inl (.inl (s _ _ h))
  · exact .inl (.inr ⟨o, s _ _ h⟩)
  · exact .inr h
mutual
theorem Dv.same {K : PySem.W.Frag} {H H' : Hp} (s : Same H H') : ∀ {d : PyData} {v : V}, Dv K H v d → Dv K H' v d
  | _, _, .non => .non
  | _, _, .bl b => .bl b
  | _, _, .int i => .int i
  | _, _, .str x h => .str x h
  | _, _, .lst h g => .lst (same_sqL s h) (DvAll.same s g)
  | _, _, .tup h g => .tup (same_sqT s h) (DvAll.same s g)
  | _, _, .dct h => .dct (s _ _ h)
theorem DvAll.same {K : PySem.W.Frag} {H H' : Hp} (s : Same H H') : ∀ {ds : List PyData} {vs : List V}, DvAll K H vs ds → DvAll K H' vs ds
  | _, _, .nil => .nil
  | _, _, .cons h g => .cons (Dv.same s h) (DvAll.same s g)
end
theorem DvAll.len {K : PySem.W.Frag} {H : Hp} : ∀ {vs : List V} {ds : List PyData}, DvAll K H vs ds → vs.length = ds.length
  | _, _, .nil => rfl
  | _, _, .cons _ g => congrArg (· + 1) (DvAll.len g)
theorem DvAll.get {K : PySem.W.Frag} {H : Hp} : ∀ {vs : List V} {ds : List PyData}, DvAll K H vs ds → ∀ {i : Nat} {v : V}, vs[i]? = some v → ∃ d, ds[i]? = some d ∧ Dv K H v d
  | _, _, .nil, i, v, h => by cases i <;> cases h
  | _, _, .cons h g, 0, v, e => by
    cases e
    exact ⟨_, rfl, h⟩
  | _, _, .cons h g, i + 1, v, e => DvAll.get g (i := i) e
theorem DvAll.append {K : PySem.W.Frag} {H : Hp} : ∀ {vs ws : List V} {ds es : List PyData}, DvAll K H vs ds → DvAll K H ws es → DvAll K H (vs ++ ws) (ds ++ es)
  | _, _, _, _, .nil, g => g
  | _, _, _, _, .cons h t, g => .cons h (DvAll.append t g)
theorem DvAll.take {K : PySem.W.Frag} {H : Hp} : ∀ {vs : List V} {ds : List PyData}, DvAll K H vs ds → ∀ n, DvAll K H (vs.take n) (ds.take n)
  | _, _, _, 0 => .nil
  | _, _, .nil, n + 1 => .nil
  | _, _, .cons h t, n + 1 => .cons h (DvAll.take t n)
theorem DvAll.drop {K : PySem.W.Frag} {H : Hp} : ∀ {vs : List V} {ds : List PyData}, DvAll K H vs ds → ∀ n, DvAll K H (vs.drop n) (ds.drop n)
  | _, _, g, 0 => g
  | _, _, .nil, n + 1 => .nil
  | _, _, .cons h t, n + 1 => DvAll.drop t n
/-- a value's type by its name -/
def tyN : PyData → String
  | .none => "NoneType"
  | .bool _ => "bool"
  | .int _ => "int"
  | .str _ => "str"
  | .list _ => "list"
  | .tuple _ => "tuple"
  | .dict _ => "dict"
theorem Dv.ty {K : PySem.W.Frag} {H : Hp} {v : V} {d : PyData} (h : Dv K H v d) : TyX K H v (.type (tyN d)) := by
  cases h with
  | non => exact .base .non
  | bl b => exact .base (.bl b)
  | int i => exact .base (.int i)
  | str x h => exact .base (.str x)
  | lst h g =>
    rcases h with (h | ⟨o, h⟩) | ⟨o, _, _, e, c, _⟩
    · exact .base (.lst h)
    · exact .base (.frz h)
    · exact .kList e c
  | tup h g =>
    rcases h with (h | ⟨o, h⟩) | ⟨o, _, _, e, c, _⟩
    · exact .base (.tup h)
    · exact .fTuple h
    · exact .kTuple e c
  | dct h => exact .base (.dK h)
def isT (T : String) (d : PyData) : Bool := match kitB (tyN d) T with
  | some b => b
  | none => false
theorem kit_isT {K : PySem.W.Frag} {T : String} (hT : T = "tuple" ∨ T = "str" ∨ T = "int" ∨ T = "bool") (d : PyData) : PySem.W.kitOne K (.type (tyN d)) (.type T) = some (isT T d) := by
  refine kit_ty ?_
  unfold isT
  have : (kitB (tyN d) T).isSome = true := by
    rcases hT with rfl | rfl | rfl | rfl <;> cases d <;> (simp only [tyN]; decide +kernel)
  obtain ⟨b, hb⟩ := Option.isSome_iff_exists.mp this
  rw [hb]
theorem isT_tuple (d : PyData) : isT "tuple" d = true ↔ ∃ xs, d = .tuple xs := by
  cases d with
  | tuple xs => exact ⟨fun _ => ⟨xs, rfl⟩, fun _ => by show isT "tuple" (.tuple []) = true; decide +kernel⟩
  | none => exact ⟨fun h => absurd h (by decide +kernel), fun ⟨_, e⟩ => by cases e⟩
  | bool b => exact ⟨fun h => absurd h (by show ¬ isT "tuple" (.bool true) = true; decide +kernel), fun ⟨_, e⟩ => by cases e⟩
  | int b => exact ⟨fun h => absurd h (by show ¬ isT "tuple" (.int 0) = true; decide +kernel), fun ⟨_, e⟩ => by cases e⟩
  | str b => exact ⟨fun h => absurd h (by show ¬ isT "tuple" (.str Str.empty) = true; decide +kernel), fun ⟨_, e⟩ => by cases e⟩
  | list b => exact ⟨fun h => absurd h (by show ¬ isT "tuple" (.list []) = true; decide +kernel), fun ⟨_, e⟩ => by cases e⟩
  | dict b => exact ⟨fun h => absurd h (by show ¬ isT "tuple" (.dict []) = true; decide +kernel), fun ⟨_, e⟩ => by cases e⟩
theorem isT_str (d : PyData) : isT "str" d = true ↔ ∃ x, d = .str x := by
  cases d with
  | str x => exact ⟨fun _ => ⟨x, rfl⟩, fun _ => by show isT "str" (.str Str.empty) = true; decide +kernel⟩
  | none => exact ⟨fun h => absurd h (by decide +kernel), fun ⟨_, e⟩ => by cases e⟩
  | bool b => exact ⟨fun h => absurd h (by show ¬ isT "str" (.bool true) = true; decide +kernel), fun ⟨_, e⟩ => by cases e⟩
  | int b => exact ⟨fun h => absurd h (by show ¬ isT "str" (.int 0) = true; decide +kernel), fun ⟨_, e⟩ => by cases e⟩
  | tuple b => exact ⟨fun h => absurd h (by show ¬ isT "str" (.tuple []) = true; decide +kernel), fun ⟨_, e⟩ => by cases e⟩
  | list b => exact ⟨fun h => absurd h (by show ¬ isT "str" (.list []) = true; decide +kernel), fun ⟨_, e⟩ => by cases e⟩
  | dict b => exact ⟨fun h => absurd h (by show ¬ isT "str" (.dict []) = true; decide +kernel), fun ⟨_, e⟩ => by cases e⟩
/-- a whole number that is no bool -/
theorem isT_num (d : PyData) : (isT "int" d = true ∧ isT "bool" d = false) ↔ ∃ i, d = .int i := by
  cases d with
  | int x => exact ⟨fun _ => ⟨x, rfl⟩, fun _ => by show isT "int" (.int 0) = true ∧ isT "bool" (.int 0) = false; decide +kernel⟩
  | none => exact ⟨fun h => absurd h.1 (by decide +kernel), fun ⟨_, e⟩ => by cases e⟩
  | bool b => exact ⟨fun h => absurd h.2 (by show ¬ isT "bool" (.bool true) = false; decide +kernel), fun ⟨_, e⟩ => by cases e⟩
  | str b => exact ⟨fun h => absurd h.1 (by show ¬ isT "int" (.str Str.empty) = true; decide +kernel), fun ⟨_, e⟩ => by cases e⟩
  | tuple b => exact ⟨fun h => absurd h.1 (by show ¬ isT "int" (.tuple []) = true; decide +kernel), fun ⟨_, e⟩ => by cases e⟩
  | list b => exact ⟨fun h => absurd h.1 (by show ¬ isT "int" (.list []) = true; decide +kernel), fun ⟨_, e⟩ => by cases e⟩
  | dict b => exact ⟨fun h => absurd h.1 (by show ¬ isT "int" (.dict []) = true; decide +kernel), fun ⟨_, e⟩ => by cases e⟩
section
variable {X : Cx} {pins : List (Addr × Obj)} {σ : L2.St} {H : Hp} {s : Shared}
/-- isinstance of data -/
theorem call_isD : CallR X (.builtin "isinstance") (fun xs H Q => ∃ (v : V) (d : PyData) (T : String), xs = [v, .ty T] ∧ Dv X.K H v d ∧ (T = "tuple" ∨ T = "str" ∨ T = "int" ∨ T = "bool") ∧ Q (.bl (isT T d)) H) := by
  intro pins s σ H xs us Q I r h
  obtain ⟨v, d, T, rfl, hd, hT, q⟩ := h
  exact call_isi pins s σ H _ us Q I r ⟨v, .ty T, _, .type T, isT T d, rfl, .ty T, hd.ty, kit_isT hT d, q⟩
mutual
theorem Dv.reads (I : Inv X pins σ H s) : ∀ (d : PyData) (v : V) (u : Value), Dv X.K H v d → RelV v u → ∃ as, Reads s.heap u d as ∧ (noList d = true → sysModules ∉ as)
  | .none, _, _, h, r => by
    cases h
    cases r
    exact ⟨[], Reads.none, fun _ z => nomatch z⟩
  | .bool b, _, _, h, r => by
    cases h
    cases r
    exact ⟨[], Reads.bool b, fun _ z => nomatch z⟩
  | .int i, _, _, h, r => by
    cases h
    obtain ⟨t, e⟩ := r
    subst e
    exact ⟨[], Reads.int i t, fun _ z => nomatch z⟩
  | .str x, _, _, h, r => by
    cases h
    obtain ⟨t, e⟩ := r
    subst e
    exact ⟨[], Reads.str x t, fun _ z => nomatch z⟩
  | .list ds, _, _, h, r => by
    cases h with
    | lst hq ga =>
      cases r
      obtain ⟨its, rv, ⟨o, n, ho, hc, _, hd⟩, _⟩ := I.list hq
      obtain ⟨as, hr, _⟩ := Dv.readsAll I ds _ its ga rv
      exact ⟨_, Reads.list ho hc hd hr, fun z => by cases z⟩
  | .tuple ds, _, _, h, r => by
    cases h with
    | tup hq ga =>
      cases r
      obtain ⟨its, rv, ⟨o, ho, hc, n, hd⟩, _⟩ := I.tuple hq
      obtain ⟨as, hr, hn⟩ := Dv.readsAll I ds _ its ga rv
      exact ⟨_, Reads.tuple ho hc hd hr, fun z => hn (by simpa only [noList] using z)⟩
  | .dict kvs, _, _, h, r => by
    cases h with
    | dct ha =>
      cases r
      obtain ⟨_, hsm, vs, kv, o, es, ep, e1, e2, e3, _, e4, _⟩ := dk_of I.hok ha
      cases kv
      have ee : es = #[] := by
        have : es.toList = [] := by cases e4' : es.toList with
          | nil => rfl
          | cons x l =>
            rw [e4'] at e4
            cases e4
        exact Array.toList_eq_nil_iff.mp this
      subst ee
      refine ⟨_, Reads.dict (kvs := []) e1 e2.1 e3 .nil .nil, fun _ z => ?_⟩
      rcases List.mem_cons.mp z with z | z
      · rw [← z] at hsm
        simp at hsm
      · cases z
theorem Dv.readsAll (I : Inv X pins σ H s) : ∀ (ds : List PyData) (vs : List V) (us : List Value), DvAll X.K H vs ds → Vals vs us → ∃ as, ReadsAll s.heap us ds as ∧ (noListAll ds = true → sysModules ∉ as)
  | [], _, _, h, r => by
    cases h
    cases r
    exact ⟨_, ReadsAll.nil, fun _ z => nomatch z⟩
  | d :: ds, _, _, h, r => by
    cases h with
    | cons k1 k2 =>
      cases r with
      | cons r1 r2 =>
        obtain ⟨as, q1, n1⟩ := Dv.reads I d _ _ k1 r1
        obtain ⟨bs, q2, n2⟩ := Dv.readsAll I ds _ _ k2 r2
        exact ⟨_, ReadsAll.cons q1 q2, fun z m => by
          have z' : (noList d && noListAll ds) = true := by simpa only [noListAll] using z
          obtain ⟨z1, z2⟩ := Bool.and_eq_true_iff.mp z'
          rcases List.mem_append.mp m with m | m
          · exact n1 z1 m
          · exact n2 z2 m⟩
end
/-- data that can be shown -/
structure Dok (n m : Nat) (d : PyData) : Prop where
  sh : d.showable = true
  sys : d.hasDict = false ∨ noList d = true
  dp : d.depth ≤ m
  len : d.shown.length ≤ n
theorem Dok.mono {n m n' m' : Nat} {d : PyData} (h : Dok n m d) (a : n ≤ n') (b : m ≤ m') : Dok n' m' d := ⟨h.sh, h.sys, Nat.le_trans h.dp b, Nat.le_trans h.len a⟩
/-- repr of such, where no repr is under way -/
theorem call_reprV (hgu : X.A.guards = some []) (hu : X.A.units + 64 < cLine) : CallR X (.builtin "repr") (fun xs H Q => ∃ (v : V) (d : PyData) (n : Nat), xs = [v] ∧ Dv X.K H v d ∧ Dok n 40 d ∧ n ≤ sizeLine ∧ Q (.str d.shown) H) := by
  intro pins s σ H xs us Q I rv h
  obtain ⟨v, d, n, rfl, hd, ok, hn, q⟩ := h
  obtain ⟨u, rfl, ru⟩ := rv.one
  have hz := Nat.le_trans ok.len hn
  have obj : ∀ a, u = .ref a → wpAny (model X.prog X.w) X.A (call (.builtin "repr") [u]) (EP X pins σ Q) X.xe s := fun a e => by
    obtain ⟨as, rd, hs⟩ := Dv.reads I d v u hd ru
    subst e
    refine repr_of_reads' rd ok.sh (fun e => ?_) hgu (by have := ok.dp; omega) (fun _ _ e => e) (fun h' u tk kp => ?_) hz
    · rcases ok.sys with z | z
      · rw [z] at e
        cases e
      · exact hs z
    · exact ⟨.str d.shown, H, I.kept (t' := tk) kp, ⟨u, rfl⟩, q⟩
  cases hd with
  | non =>
    cases ru
    exact P.repr_of_none ⟨.str "None", H, I.tok _, ⟨_, rfl⟩, by simpa only [PyData.shown] using q⟩
  | bl b =>
    cases ru
    exact P.repr_of_bool ⟨.str (if b then "True" else "False"), H, I.tok _, ⟨_, by cases b <;> rfl⟩, by simpa only [PyData.shown] using q⟩
  | int i =>
    obtain ⟨t, rfl⟩ := ru
    have hi : i.natAbs.log2 < 1920 := by simpa [PyData.showable] using ok.sh
    exact P.repr_of_int hi ⟨.str (toString i), H, I.tok _, ⟨_, rfl⟩, by simpa only [PyData.shown] using q⟩
  | str x _ =>
    obtain ⟨t, rfl⟩ := ru
    exact P.repr_of_str ⟨.str (reprText x), H, I.tok _, ⟨_, rfl⟩, by simpa only [PyData.shown] using q⟩ (by simpa only [PyData.shown] using hz)
  | @lst a xs ds hq g => cases ru; exact obj a rfl
  | @tup a xs ds hq g => cases ru; exact obj a rfl
  | @dct a hq => cases ru; exact obj a rfl
end
end Fs
set_option Elab.async false
set_option linter.all false
set_option maxRecDepth 100000
set_option maxHeartbeats 2000000
namespace Fs
open PySem PySem.Spec PyProof.Rows L2
/-! ### a caught exception that is kept as a value -/
def ExD (cls : Value) (d : Option Addr) (a : Addr) : HO := .ext fun h => ∃ (oe : Obj) (vs : Array Value), h.get? a = some oe ∧ Zc cls d oe ∧ oe.data = .fields vs
theorem exD_ok {P : Program} {w : World} {H : Hp} {h : Heap} {a : Addr} {cls : Value} {d : Option Addr} {oe : Obj} {vs : Array Value} (e : h.get? a = some oe) (z : Zc cls d oe) (q : oe.data = .fields vs) : ObjOk P w H h a (ExD cls d a) :=
  ⟨⟨oe, vs, e, z, q⟩, ⟨oe, e⟩, fun _ _ ⟨o, v, e1, z1⟩ k => ⟨o, v, k o e1, z1⟩⟩
section
variable {X : Cx} {pins : List (Addr × Obj)} {σ : L2.St} {H : Hp} {s : Shared}
/-- what stands at a already, new since the def was entered, is tracked from now on -/
theorem hold {a : Addr} {o : HO} (I : Inv X pins σ H s) (n0 : X.s_0.heap.get? a = none) (na : H a = none) (nL : a ≠ X.env.locals) (nC : ∀ x c, X.env.cells.lookup x = some c → c ≠ a) (nP : ∀ p ∈ X.pn ++ pins, p.1 ≠ a)
    (new : ObjOk X.prog X.w (upd H a o) s.heap a o) : Inv X pins σ (upd H a o) s := by
  have neB : ∀ {b : Addr} {u : Obj}, X.s_0.heap.get? b = some u → b ≠ a := fun {b u} e z => by
    rw [z, n0] at e
    cases e
  refine ⟨I.ok, I.os, I.bare, ⟨I.base.keep, I.base.slot, fun b u e n q => ?_, I.base.there, fun b xs e => ?_, fun b u xs e => ?_, fun b ps e => ?_⟩, I.loc, I.cell, ?_, fun x c e => ?_, fun p hp => ?_, I.hok.laidN (fun _ _ e => e) na new, I.len⟩
  · rw [upd_ne (neB e)]
    exact I.base.free b u e n q
  · have z := I.base.tups b xs e
    rw [upd_ne (ne_of_none z na)]
    exact z
  · have z := I.base.frzs b u xs e
    rw [upd_ne (ne_of_none z na)]
    exact z
  · obtain ⟨m, z⟩ := I.base.tbls b ps e
    exact ⟨m, by rw [upd_ne (ne_of_none z na)]; exact z⟩
  · rw [upd_ne (Ne.symm nL)]
    exact I.free
  · rw [upd_ne (nC x c e)]
    exact I.freeC x c e
  · obtain ⟨e, n, r⟩ := I.pin p hp
    exact ⟨e, by rw [upd_ne (nP p hp)]; exact n, r⟩
end
/-- what «except x as n: suite» wishes of what its body raises, the exception being kept behind it -/
def wKept (K : PySem.W.Frag) (c : Value) (i : Nat) (ts : Addr → Value → Option Addr → TS) (Wout : WX) (D : Ends) : WX := fun cls d σ H =>
  ∃ b, PySem.W.exmOne K cls c = some b ∧
    (b = true → ∀ a, H a = none → ts a cls d { nx := fun σ' H' => H' a = none → D.nx (σ'.set i none) (upd H' a (ExD cls d a)), rt := fun _ _ => False, bk := fun _ _ => False, ct := fun _ _ => False } (σ.set i (some (.ref a))) H) ∧
    (b = false → Wout cls d σ H)
section
variable {X : Cx} {x n : Str} {c : Value} {i : Nat} {body suite : List Stmt} {b1 : Stmt} {np p1 p2 : Pos} {tb : WX → TS} {ts : Addr → Value → Option Addr → TS} {Wout : WX}
theorem ps_try_kept (hs : X.stack = X.env :: X.outer) (hf : X.env.frame = some X.env.locals) (hx : X.ex = []) (hN : X.N.Nodup) (hi : X.N[i]? = some n) (hl : X.env.kindOf n = some .local) (hc : Names X x c) (tk : Takes X Wout)
    (hb : ∀ (W : WX) (pn : List (Addr × Obj)) (xe : Value → Shared → Prop), Takes (X.tr pn xe) W → PassesOwn (model X.prog X.w) X.A X.env xe → PSs (X.tr pn xe) body (tb W))
    (hsu : ∀ (a : Addr) (oe : Obj) (cls : Value) (d : Option Addr) (pn : List (Addr × Obj)), Zc cls d oe → (∃ vs, oe.data = .fields vs) → PSs (X.suite a ((a, oe) :: pn)) (b1 :: suite) (ts a cls d)) :
    PS X (.Try body [.ExceptHandler (some (.Name x np)) (some n) (b1 :: suite) p1] [] [] p2) (fun D σ H => tb (wKept X.K c i ts Wout D) D σ H) := by
  refine ⟨fun pins s σ H D I h => wpAny_Try_except ?_⟩
  have frX : X.A.frames = some (X.env :: X.outer) := I.ok.frames.trans (congrArg some hs)
  refine wpAny_mono ((hb (wKept X.K c i ts Wout D) (X.pn ++ pins) _ (fun u s' air => ?air) PassesOwn.looking).run [] s σ H D (I.toTry _) h) (fun f s1 q => ?fin) fun e s1 q => q
  case fin =>
    cases f with
    | next =>
      obtain ⟨σ1, H1, J, q⟩ := q
      exact wpAny_execs_nil ⟨σ1, H1, J.ofTry I.ok, q⟩
    | brk =>
      obtain ⟨σ1, H1, J, q⟩ := q
      exact ⟨σ1, H1, J.ofTry I.ok, q⟩
    | cont =>
      obtain ⟨σ1, H1, J, q⟩ := q
      exact ⟨σ1, H1, J.ofTry I.ok, q⟩
    | ret u =>
      obtain ⟨v, σ1, H1, J, r, q⟩ := q
      exact ⟨v, σ1, H1, J.ofTry I.ok, r, q⟩
  case air =>
    obtain ⟨a, B, sI, pins1, σ1, H1, cls, d, rfl, JT, nb, up, sky, na, os, ag, b, hb1, yes, no⟩ := air
    have J : Inv X pins σ1 H1 sI := JT.ofTry I.ok
    refine Sky.land Zc.steady frX hf (show Sky B (X.env :: X.outer) a (Zc cls d) X.env.locals s'.heap from hs ▸ sky) fun h3 fl3 up3 => ?_
    have J3 : Inv X pins σ1 H1 { s' with heap := h3 } := J.landed nb fl3.1 (up.trans up3) os ag
    obtain ⟨oe3, vs3, he3, hz3, hd3⟩ := fl3.there
    have nst : a ∉ frs (X.env :: X.outer) := fun hm => by
      obtain ⟨_, o1, e1, hnf⟩ := fl3.2.2.1.mem hm
      rw [he3] at e1
      cases e1
      exact hnf _ hd3
    have nL : a ≠ X.env.locals := fun z => nst (List.mem_filterMap.mpr ⟨X.env, List.mem_cons_self, hf.trans (congrArg some z.symm)⟩)
    have nF : a ∉ X.fs := fun hm => by
      obtain ⟨e, he, q⟩ := List.mem_filterMap.mp hm
      exact nst (List.mem_filterMap.mpr ⟨e, List.mem_cons_of_mem _ he, q⟩)
    have gone : ∀ o, sI.heap.get? a ≠ some o := fun o e => by
      have z := nb a o e (by rw [hs]; exact nst)
      rw [fl3.2.1] at z
      cases z
    have n0 : X.s_0.heap.get? a = none := by
      cases e : X.s_0.heap.get? a with
      | none => rfl
      | some o =>
        obtain ⟨o1, z⟩ := J.base.there a o e (by rw [hx]; exact fun z => nomatch z)
        exact absurd z (gone o1)
    have nC : ∀ y c1, X.env.cells.lookup y = some c1 → c1 ≠ a := fun y c1 e z => by
      obtain ⟨v, o, ho, _⟩ := J.cell y c1 e
      rw [z] at ho
      exact gone o ho
    have nP : ∀ p ∈ X.pn ++ pins, p.1 ≠ a := fun p hp z => by
      have e := (J.pin p hp).1
      rw [z] at e
      exact gone _ e
    have S3 := J3.suite he3 hd3 na nL nF
    refine wpAny_handleBy_cons (codeAny_handlers_test ?_) nofun
    have LT : PySem.W.Looks (model X.prog X.w) h3 (typeOf (.ref a)) cls := fun A Q E s1 k q => wpAny_typeOf_ref (k a _ he3) (hz3.1.symm ▸ q)
    have LM := PySem.W.exm_one (M := model X.prog X.w) J3.kIn LT hb1
    have ask : ∀ {Q : Value → Shared → Prop} {E : Value → Shared → Prop}, Q c { s' with heap := h3 } → wpAny (model X.prog X.w) (X.A.mark (some (.ref a))) (eval (.Name x np) X.env) Q E { s' with heap := h3 } := fun {Q E} q => by
      obtain ⟨g1, g2, g3 | ⟨g3, g4, g5⟩⟩ := hc
      · exact ld_glob (X := X.suite a ((a, oe3) :: (X.pn ++ pins))) S3 g1 g3 q g2
      · exact ld_blt (X := X.suite a ((a, oe3) :: (X.pn ++ pins))) S3 g1 g3 g4 q g5 g2
    refine ask (LM.here ?_)
    cases b with
    | true =>
      refine codeAny_handlers_suite_as (HandSPX.lands_againZ fl3 fun h4 fl4 up4 => ?_)
      have J4 : Inv X pins σ1 H1 { s' with heap := h4 } := J.landed nb fl4.1 ((up.trans up3).trans up4) os ag
      obtain ⟨oe4, vs4, he4, hz4, hd4⟩ := fl4.there
      refine store_ok (X := X.suite a ((a, oe4) :: (X.pn ++ pins))) (v := .ref a) (J4.suite he4 hd4 na nL nF) hN hi (.inl hl) rfl (fun s5 S5 => ?_) (.inr hl)
      refine wpAny_mono ((hsu a oe4 cls d (X.pn ++ pins) hz4 ⟨vs4, hd4⟩).run [] s5 _ H1 _ S5 (yes rfl a na)) (fun f s6 q => ?_) fun _ _ z => False.elim z
      cases f with
      | next =>
        obtain ⟨σ6, H6, S6, q6⟩ := q
        obtain ⟨e6, n6, _⟩ := S6.pin (a, oe4) (List.mem_append_left _ List.mem_cons_self)
        have U6 := S6.unsuite I.ok
        exact gone_ok (hold U6 n0 n6 nL nC nP (exD_ok e6 hz4 hd4)) hN hi hl fun s7 J7 => ⟨_, _, J7, q6 n6⟩
      | brk =>
        obtain ⟨_, _, _, z⟩ := q
        exact False.elim z
      | cont =>
        obtain ⟨_, _, _, z⟩ := q
        exact False.elim z
      | ret u =>
        obtain ⟨_, _, _, _, _, z⟩ := q
        exact False.elim z
    | false =>
      refine wpAny_handleBy_nil ?_
      obtain ⟨_, _, _, oe, vs, T, oT, ts1, he, hz, hd, h1, hr⟩ := id fl3
      unfold PySem.passOn
      refine wpAny_bind (wpAny_field he hd h1 ?_)
      rw [if_neg (by simp)]
      have fly : wpAny (model X.prog X.w) X.A (setFlight (.ref a) X.env.frame) (fun _ s4 => wpAny (model X.prog X.w) X.A (throw (.ref a) : Sem Flow) (SP X pins D) X.xe s4) X.xe { s' with heap := h3 } := by
        rw [hf]
        refine HandSPX.setFlight_upZ fl3 fun h4 hh up4 => wpAny_throw (tk _ _ ⟨a, B, sI, pins, σ1, H1, cls, d, rfl, J, nb, (up.trans up3).trans up4, .inr (.inr (by rw [hs]; exact hh)), na, os, ag, no rfl⟩)
      first
        | exact wpAny_bind (wpAny_pure (wpAny_bind fly))
        | exact wpAny_bind fly
end
end Fs
set_option Elab.async false
set_option linter.all false
set_option maxRecDepth 100000
set_option maxHeartbeats 4000000
namespace PySem.W
open PySem PySem.Spec PySem.Calls PyProof.Rows
/-- what a class of exceptions says of itself -/
structure FrC (K : Frag) (D : Addr) : Prop where
  hg : findIn K (.ref D) "__getattribute__" = some (some (.builtin "BaseException.__getattribute__"))
  hk : findIn K (.ref D) "__getattr__" = some none
  hs : subIn K (.ref D) (.type "BaseException") = some true
  hd : hasDictIn K D = true
  ha : findIn K (.ref D) "__class__" = some (some (.builtin "object.__class__"))
  hn : specialIn K (.builtin "object.__class__") "__get__" = some (some (.builtin "getset_descriptor.__get__"))
  ht : takesIn K (.builtin "object.__class__") = some true
  hm : mroIn K D (.type "object") = some true
section
variable {prog : Program} {w : World} {A : Around} {E : Value → Shared → Prop} {K : Frag} {x D : Addr} {ox od : Obj}
theorem fr_class {s : Shared} {Q : Option Value → Shared → Prop} (C : FrC K D) (X : K.In s.heap) (I : InstAt s.heap x ox D (some od)) (h : Q (some (.ref D)) { s with toks := s.toks + 1 }) : wpAny (model prog w) A (getAttr? (.ref x) "__class__") Q E s := by
  have found : findObj K D (some od) "__class__" = some (.bind (.builtin "getset_descriptor.__get__") (.builtin "object.__class__")) :=
    findObj_data (by obtain ⟨cd, hc, _⟩ := any_some C.hd; rw [hc]; rfl) C.ha C.hn C.ht
  obtain ⟨hp, g, d, t, os⟩ := s
  have l0 := I.type (M := model prog w)
  have l1 := looks_findIn (M := model prog w) X C.hg
  have l2 := looks_findIn (M := model prog w) X C.hk
  have l3 := looks_find (M := model prog w) X I found
  have isExc : Looks (model prog w) hp (isInstance (.ref x) (.type "BaseException")) true := l0.andThen (looks_subIn X C.hs)
  have unlike : (Value.builtin "BaseException.__getattribute__" == Value.builtin "object.__getattribute__") = false := by decide +kernel
  have c1 : (onTheHeap (Value.ref D) && Value.builtin "BaseException.__getattribute__" == Value.builtin "object.__getattribute__") = false := (congrArg (onTheHeap (Value.ref D) && ·) unlike).trans (Bool.and_false _)
  have c0 : (false && onTheHeap (Value.builtin "BaseException.__getattribute__")) = false := Bool.false_and _
  unfold getAttr? getAttrBy? getAttrBy
  refine wpAny_bind (wpAny_mkText (wpAny_bind (wpAny_attempt (wpAny_holding (wpAny_bind (l0.at (wpAny_bind (l1.at ?_))))))))
  show wpAny (model prog w) A (if (onTheHeap (Value.ref D) && Value.builtin "BaseException.__getattribute__" == Value.builtin "object.__getattribute__") = true then _ else _) _ _ _
  rw [c1, if_neg Bool.false_ne_true]
  unfold getAttrByItsOwn hookBefore
  refine wpAny_bind ?_
  rw [if_pos (c := onTheHeap (Value.ref D) = true) rfl]
  refine l2.at ?_
  refine wpAny_bind (wpAny_attempt (wpAny_holding ?_))
  unfold callGetattribute
  rw [c0, if_neg Bool.false_ne_true]
  unfold boundAndCalled
  rw [PySem.F.excAttr_ValueError.ga.bind (.ref x)]
  refine wpAny_bind (wpAny_pure ?_)
  show wpAny (model prog w) A (call (.builtin "BaseException.__getattribute__") [.ref x, .str "__class__" t]) _ _ _
  refine wpAny_call (codeAny_call_builtin PySem.F.excAttr_ValueError.ga.plain PySem.F.entry_bexc_ga ?_)
  refine @check_slot (model prog w) _ _ ⟨hp, g, d, t + 1, os⟩ "BaseException.__getattribute__" "BaseException" "__getattribute__" (.ref x) [.str "__class__" t] [] _ (by decide +kernel) (by decide +kernel) isExc (PySem.F.args_bexc_ga (.ref x) (.str "__class__" t)) ?_
  unfold Builtin.«object.__getattribute__»
  have sa : slotArgs "__getattribute__" 1 { pos := [Value.ref x, Value.str "__class__" t] } = pure ((Value.ref x : Value), [Value.str "__class__" t]) := by first | rfl | (simp only [slotArgs]; rfl)
  refine wpAny_bind (wpAny_of_eq sa ?_)
  refine wpAny_bind (wpAny_pure (wpAny_bind (l0.at (wpAny_bind (l3.at ?_)))))
  show wpAny (model prog w) _ (holding [Value.builtin "object.__class__"] (call (.builtin "getset_descriptor.__get__") [.builtin "object.__class__", .ref x, .ref D]) >>= ret) _ _ _
  refine wpAny_bind (wpAny_holding (wpAny_call (class_get (s := ⟨hp, g, d, t + 1, os⟩) (ox := ox) (od := some od) X I C.hm ?_)))
  refine wpAny_pure ?_
  show wpAny (model prog w) _ (handedOut (.ref D)) _ _ _
  rw [handedOut_of (v := .ref D) rfl]
  first
    | exact wpAny_pure (wpAny_pure h)
    | exact wpAny_pure h
    | exact wpAny_pure (wpAny_bind (wpAny_pure (wpAny_pure h)))
theorem fr_kit (C : FrC K D) : KitX K (.ref x) (.ref D) (fun h => ∃ od, InstAt h x ox D (some od)) where
  ty := fun _ _ _ ⟨_, I⟩ => I.type
  it := fun _ _ X _ => by
    obtain ⟨cd, hc, _⟩ := any_some C.hd
    unfold clsIn at hc
    split at hc
    · rename_i o1 o2 o3 o4 ho
      exact fun {A' Q' E' s'} k q => by
        unfold isType loadHead
        exact wpAny_bind (wpAny_loadPart (k _ _ (X _ _ ho)) (wpAny_pure q))
    · cases hc
  ne := fun h tp dd its n sl X htp => by
    obtain ⟨cd, hc, _⟩ := any_some C.hd
    unfold clsIn at hc
    split at hc
    · rename_i o1 o2 o3 o4 ho
      refine Bool.eq_false_iff.mpr fun q => ?_
      obtain rfl : D = tp := Value.ref.inj (beq_iff_eq.mp q)
      cases (X _ _ ho).symm.trans htp
    · cases hc
  ca := fun X ⟨_, I⟩ k => fr_class C X I k
end
end PySem.W
namespace Fs
open PySem PySem.Spec PyProof.Rows L2
section
variable {X : Cx}
theorem exd_get {pins : List (Addr × Obj)} {σ : L2.St} {H : Hp} {s : Shared} {a dd D : Addr} {fs : List (Str × V)} (I : Inv X pins σ H s) (e : H a = some (ExD (.ref D) (some dd) a)) (ed : H dd = some (.xd fs)) :
    ∃ (oe od : Obj) (mA : Str → Option Value), PySem.W.InstAt s.heap a oe D (some od) ∧ (∀ f, PySem.W.lookIn f od = some (mA f)) ∧ ∀ f, RelO (fs.lookup f) (mA f) := by
  obtain ⟨⟨oe, vs, ho, hz, hv⟩, _, _⟩ := (show ObjOk X.prog X.w H s.heap a (ExD (.ref D) (some dd) a) from I.hok a _ e)
  obtain ⟨mA, hns, hr⟩ := (show ObjOk X.prog X.w H s.heap dd (.xd fs) from I.hok dd _ ed)
  obtain ⟨od, hd, hl⟩ := lookIn_ns hns
  exact ⟨oe, od, mA, ⟨ho, hz.1, by unfold PySem.W.notCls; rw [hv] <;> rfl, by rw [hz.2]; exact hd⟩, hl, hr⟩
/-- isinstance of a kept exception -/
theorem call_isK : CallR X (.builtin "isinstance") (fun xs H Q => ∃ (a D dd : Addr) (fs : List (Str × V)) (c : V) (u : Value) (b : Bool), xs = [.ref a, c] ∧ H a = some (ExD (.ref D) (some dd) a) ∧ H dd = some (.xd fs) ∧ PySem.W.FrC X.K D ∧ ClsV c u ∧ PySem.W.kitOne X.K (.ref D) u = some b ∧ Q (.bl b) H) := by
  intro pins s σ H xs us Q I r h
  obtain ⟨a, D, dd, fs, c, u, b, rfl, e, ed, C, k, hb, q⟩ := h
  obtain ⟨u1, u2, rfl, r1, r2⟩ := vals2 r
  have e2 := k.eq r2
  subst e2
  cases r1
  obtain ⟨oe, od, mA, J, _, _⟩ := exd_get I e ed
  exact PySem.W.kia_one (PySem.W.fr_kit (ox := oe) C) I.kIn ⟨od, J⟩ hb nofun fun tk => ⟨.bl b, H, I.tok tk, rfl, q⟩
/-- e.f, e a kept exception -/
def tKept (K : PySem.W.Frag) (f : Str) (te : TE) : TE := fun σ H Q => te σ H fun x H1 => ∃ (a D dd : Addr) (fs : List (Str × V)) (v : V), x = .ref a ∧ H1 a = some (ExD (.ref D) (some dd) a) ∧ H1 dd = some (.xd fs) ∧ PySem.W.FrC K D ∧ PySem.W.findIn K (.ref D) f = some none ∧ fs.lookup f = some v ∧ Q v H1
theorem pe_kept {e : Expr} {te : TE} {pos : Pos} {f : Str} (he : PE X e te) (hb : attributeBase e f X.env (eval e X.env) = eval e X.env := by rfl) : PE X (.Attribute e f pos) (tKept X.K f te) := by
  refine ⟨fun pins s σ H Q I h => attr_of hb (thn (he.run pins s σ H _ I h) fun u s1 hh => ?_)⟩
  obtain ⟨x, H1, I1, rx, a, D, dd, fs, v, rfl, ea, ed, C, hno, hl, q⟩ := hh
  obtain rfl : u = Value.ref a := rx
  obtain ⟨oe, od, mA, J, hlk, hr⟩ := exd_get I1 ea ed
  obtain ⟨u, hu, ru⟩ := RelO.some_of (v := v) (o := mA f) (by rw [← hl]; exact hr f)
  exact HandSPX.exc_get I1.kIn J C.hg C.hk C.hs (PySem.W.findObj_own C.hd hno rfl (by rw [hlk, hu])) (handed_of ru) ⟨v, H1, I1.tok _, ru, q⟩
end
end Fs
set_option Elab.async false
set_option linter.all false
set_option maxRecDepth 100000
set_option maxHeartbeats 2000000
namespace Fs
open PySem L2
/-! ### the sizes of far texts, as numbers -/
abbrev alpha : Str := "abcdefghijklmnopqrstuvwxyz"
abbrev tl (z : Str) : List Nat := z.cps.toList
def ofL (z : Str) : Bool := (tl z).all fun c => decide (c ∈ tl alpha)
def szQ (f : PyData → Nat) (t : Int) : PyData → Nat
  | .str z => if z.length ≤ 20 ∧ ofL z = true then t.toNat * z.length else 0
  | p => t.toNat * f p
def szT (f : PyData → Nat) (p : PyData) : PyData → Nat
  | .int t => if 1 ≤ t ∧ t ≤ 1000000000000000000 then szQ f t p else 0
  | _ => 0
def szP (f : PyData → Nat) : PyData → Nat
  | .tuple [p, t] => szT f p t
  | _ => 0
def sz : Nat → PyData → Nat
  | k + 1, .tuple xs => if 1 ≤ xs.length ∧ xs.length ≤ 6 then (if 0 ∈ xs.map (szP (sz k)) then 0 else (xs.map (szP (sz k))).sum) else 0
  | _, _ => 0
theorem sz_zero (d : PyData) : sz 0 d = 0 := by
  unfold sz
  rfl
/-! ### the constants -/
structure Con (K : PySem.W.Frag) (mg : Str → Option Value) : Prop where
  alpha : ∃ t, mg "ALPHABET" = some (.str alpha t)
  pairs : ∃ t, mg "MOST_PAIRS" = some (.int 6 t)
  longest : ∃ t, mg "LONGEST_PIECE" = some (.int 20 t)
  times : ∃ t, mg "MOST_TIMES" = some (.int 1000000000000000000 t)
  deep : ∃ t, mg "DEEPEST" = some (.int 4 t)
  symbols : ∃ t, mg "MOST_SYMBOLS" = some (.int 1000000000000000000000000 t)
  digits : ∃ t, mg "DIGITS" = some (.str "0123456789" t)
  mdig : ∃ t, mg "MOST_DIGITS" = some (.int 25 t)
  isi : mg "isinstance" = none
  bool : mg "bool" = none
  all : mg "all" = none
  sum : mg "sum" = none
  repr : mg "repr" = none
  max : mg "max" = none
  min : mg "min" = none
  verr : mg "ValueError" = none
theorem boot_isi : bootBuiltins "isinstance" = some (.builtin "isinstance") := by decide +kernel
abbrev s_is_number : Stmt := top 5
abbrev sc_is_numberN : List Str := ["value"]
theorem sc_is_number : FnScope sc_is_numberN ["value"] (defScope s_is_number) := ⟨rfl, rfl, rfl, by decide +kernel, rfl, by decide +kernel, by decide +kernel⟩
def isNum (d : PyData) : Bool := isT "int" d && !isT "bool" d
theorem isNum_iff (d : PyData) : isNum d = true ↔ ∃ i, d = .int i := by
  rw [← isT_num]
  unfold isNum
  cases isT "int" d <;> cases isT "bool" d <;> simp
def spNum (K : PySem.W.Frag) : Sp := fun vs H Q _ => ∃ (v : V) (d : PyData), vs = [v] ∧ Dv K H v d ∧ Q (.bl (isNum d)) H
abbrev s_size_at : Stmt := top 15
abbrev sc_size_atN : List Str := ["symbols", "value", "depth", "sizes", "pair"]
theorem sc_size_at : FnScope sc_size_atN ["symbols", "value", "depth"] (defScope s_size_at) := ⟨rfl, rfl, rfl, by decide +kernel, rfl, by decide +kernel, by decide +kernel⟩
abbrev s_size_of_pair : Stmt := top 16
abbrev sc_size_of_pairN : List Str := ["symbols", "pair", "depth", "piece", "times", "is_piece", "sign"]
theorem sc_size_of_pair : FnScope sc_size_of_pairN ["symbols", "pair", "depth"] (defScope s_size_of_pair) := ⟨rfl, rfl, rfl, by decide +kernel, rfl, by decide +kernel, by decide +kernel⟩
def spAt (K : PySem.W.Frag) (k : Nat) : Sp := fun vs H Q _ => ∃ (v : V) (d : PyData), vs = [.str alpha, v, .int (5 - (k : Int))] ∧ Dv K H v d ∧ ∀ H', Same H H' → Q (.int (sz k d : Nat)) H'
def spPair (K : PySem.W.Frag) (k : Nat) : Sp := fun vs H Q _ => ∃ (v : V) (d : PyData), vs = [.str alpha, v, .int (4 - (k : Int))] ∧ Dv K H v d ∧ ∀ H', Same H H' → Q (.int (szP (sz k) d : Nat)) H'
def spNo : Sp := fun _ _ _ _ => False
theorem inV_ints (ns : List Int) : inV (.int 0) (ns.map V.int) = decide (0 ∈ ns) := by
  induction ns with
  | nil => rfl
  | cons n ns ih =>
    show (eqV (.int n) (.int 0) || inV (.int 0) (ns.map V.int)) = _
    rw [ih]
    by_cases h : n = 0
    · subst h
      simp [eqV]
    · have : ¬ (0 : Int) = n := fun e => h e.symm
      simp [eqV, h, this]
theorem flat_ints (ns : List Int) : (ns.map V.int).all flatV = true := by
  rw [List.all_map]
  exact List.all_eq_true.mpr fun _ _ => rfl
theorem take_more {α : Type} : ∀ {l : List α} {i : Nat} {x : α}, l[i]? = some x → l.take (i + 1) = l.take i ++ [x]
  | [], i, x, h => by cases i <;> cases h
  | a :: l, 0, x, h => by
    cases h
    rfl
  | a :: l, i + 1, x, h => by
    have ih := take_more (l := l) (i := i) (x := x) h
    show a :: l.take (i + 1) = a :: (l.take i ++ [x])
    rw [ih]
section
variable {P : Program} {w : World} {K : PySem.W.Frag} {mg : Str → Option Value} {base : Heap}
theorem never_ok {f : Addr} {fd : FuncData} {ps : List Str} {k : Nat} {CX : CXT} : FnOk P w K mg base CX k f fd ps spNo :=
  ⟨fun _ _ _ _ h => h.elim, fun _ _ _ _ _ _ _ _ _ _ _ _ _ h => h.elim⟩
theorem ok_num {f : Addr} {fd : FuncData} (F : Fun K "is_number" "is_number" s_is_number f fd) (T : Bare mg) (C : Con K mg) : FnOk P w K mg base CX0 1 f fd ["value"] (spNum K) := by
  refine F.ok sc_is_number (fun vs H Q E h => ?_) (fun cdv A outer st H vs Q E hr h => ?_)
  · obtain ⟨v, d, rfl, _⟩ := h
    rfl
  obtain ⟨v, d, rfl, hd, q⟩ := h
  refine ⟨_, (pss_one (ps_ret (pe_and (pe_callB call_isD (by rfl) C.isi boot_isi (pa_cons (pv 0) (pa_cons (pe_bltn (v := .ty "int") (u := .type "int") (by rfl) T.int (by decide +kernel) rfl) pa_nil))) (pe_one (pe_not (pe_callB call_isD (by rfl) C.isi boot_isi (pa_cons (pv 0) (pa_cons (pe_bltn (v := .ty "bool") (u := .type "bool") (by rfl) C.bool (by decide +kernel) rfl) pa_nil)))))))), ?_⟩
  refine ⟨v, rfl, v, d, "int", rfl, hd, .inr (.inr (.inl rfl)), _, rfl, ?_⟩
  unfold isNum at q
  cases e : isT "int" d with
  | false =>
    rw [e] at q
    exact iteF q
  | true =>
    rw [e] at q
    exact iteT ⟨v, rfl, v, d, "bool", rfl, hd, .inr (.inr (.inr rfl)), _, rfl, q⟩
theorem ok_at {f : Addr} {fd : FuncData} {k lev : Nat} {spP : Sp} (F : Fun K "size_at" "size_at" s_size_at f fd) (T : Bare mg) (C : Con K mg) (hk : k ≤ 4) (hP : ∀ j, k = j + 1 → spP = spPair K j)
    (CP : Callee P w K mg base lev "size_of_pair" ["symbols", "pair", "depth"] spP) : FnOk P w K mg base CX0 (lev + 1) f fd ["symbols", "value", "depth"] (spAt K k) := by
  refine F.ok sc_size_at (fun vs H Q E h => ?_) (fun cdv A outer st H vs Q E hr h => ?_)
  · obtain ⟨v, d, rfl, _⟩ := h
    rfl
  obtain ⟨v, d, rfl, hd, q⟩ := h
  obtain ⟨t1, hdeep⟩ := C.deep
  obtain ⟨t2, hpairs⟩ := C.pairs
  refine ⟨_, (pss_cons (ps_if (PW.pt (pw_or (pt_cmpR op_gt (pv 2) (pe_glob (v := .int 4) (by rfl) hdeep ⟨_, rfl⟩) (nomark _)) (pw_or (pt_not (pt_val (pe_callB call_isD (by rfl) C.isi boot_isi (pa_cons (pv 1) (pa_cons (pe_bltn (v := .ty "tuple") (u := .type "tuple") (by rfl) T.tuple (by decide +kernel) rfl) pa_nil))))) (pw_or1 (pt_not (pt_chain op_le op_le pe_int (pe_callB call_len_seq (by rfl) T.len PySem.boot_len (pa_cons (pv 1) pa_nil)) (pe_glob (v := .int 6) (by rfl) hpairs ⟨_, rfl⟩)))))))
(pss_one (ps_ret pe_int))
pss_nil)
(pss_cons (ps_setLc (i := 3) (own := [("pair", 4)]) (g := gName 4) rfl sc_size_at.nd rfl rfl (sw_true rfl rfl rfl (by decide +kernel)) (pi_tup (pv 1)) (blkOk_by (N := sc_size_atN) (sc := defScope s_size_at) (by decide +kernel)) (fun _ _ _ _ _ => pg_name (i := 4) sc_size_at.nd rfl (Or.inl rfl)) (fun _ _ _ _ _ => pts_nil) (fun _ _ _ _ _ => (pe_call CP.ok hr rfl CP.mg CP.kp CP.b .nil pass0 (pa_cons (pv 0) (pa_cons (pv 4) (pa_cons (pv 2) pa_nil))))))
(pss_one (ps_ret (pe_ifExp (pt_cmpR op_in_seq pe_int (pv 3) (by rfl)) pe_int (pe_callB (cr_sum rfl) (by rfl) C.sum (by decide +kernel) (pa_cons (pv 3) pa_nil))))))), ?_⟩
  refine ⟨_, rfl, _, _, rfl, rfl, _, rfl, ?_⟩
  cases k with
  | zero =>
    refine ite2 (fun _ => iteT ?_) (fun h => absurd (decide_eq_true (by decide)) h)
    have z := q H (fun _ _ e => e)
    rw [sz_zero] at z
    exact z
  | succ j =>
    refine ite2 (fun h => absurd (of_decide_eq_true h) (by omega)) (fun _ => ?_)
    refine ⟨v, rfl, v, d, "tuple", rfl, hd, .inl rfl, _, rfl, ?_⟩
    have zero : sz (j + 1) d = 0 → Q (.int 0) H := fun e => by
      have z := q H (fun _ _ e => e)
      rw [e] at z
      exact z
    by_cases ht : isT "tuple" d = true
    rotate_left
    · rw [Bool.eq_false_iff.mpr ht]
      refine iteT (iteT (zero ?_))
      cases d with
      | tuple xs => exact absurd ((isT_tuple _).mpr ⟨xs, rfl⟩) ht
      | _ => rfl
    obtain ⟨ds, rfl⟩ := (isT_tuple d).mp ht
    rw [ht]
    refine iteF ?_
    cases hd with
    | @tup a xs _ hq g =>
    have hlen := g.len
    refine ⟨.ref a, rfl, a, xs, rfl, .inr hq, 1, (xs.length : Int), rfl, rfl, _, rfl, ?_⟩
    have short : ¬ (1 ≤ ds.length ∧ ds.length ≤ 6) → Q (.int 0) H := fun h => zero (by show (if _ then _ else _) = 0; rw [if_neg h])
    refine ite2 (fun h1 => ?_) (fun h1 => ?_)
    rotate_left
    · refine ⟨_, rfl, iteT (short fun h => h1 (decide_eq_true ?_))⟩
      omega
    have h1 := of_decide_eq_true h1
    refine ⟨(xs.length : Int), 6, rfl, rfl, _, rfl, ?_⟩
    refine ite2 (fun h2 => short fun h => ?_) (fun h2 => ?_)
    · have h2 : decide ((xs.length : Int) ≤ 6) = false := by simpa using h2
      exact absurd (of_decide_eq_false h2) (by omega)
    have h2 : (xs.length : Int) ≤ 6 := by simpa using h2
    have hsP := hP j rfl
    subst hsP
    have sz1 : sz (j + 1) (.tuple ds) = if 0 ∈ ds.map (szP (sz j)) then 0 else (ds.map (szP (sz j))).sum := by
      show (if _ then _ else _) = _
      rw [if_pos ⟨by omega, by omega⟩]
    rw [sz1] at q
    have hd4 : (5 : Int) - ((j + 1 : Nat) : Int) = 4 - (j : Int) := by omega
    refine ⟨.ref a, rfl, a, rfl, ⟨_, hq⟩, fun D hD => lc_it (walk_tup (xs := xs)) (fun i H' => H' D = some (.lst (((ds.take i).map fun d => ((szP (sz j) d : Nat) : Int)).map V.int)) ∧ Same H H') ?_ ?_ ?_ ?_⟩
    · exact ⟨upd_same, same_new hD _⟩
    · exact fun i H' _ p => same_sqT p.2 hq
    · rintro i x H1 H2 hi ⟨hl, hs⟩ ⟨rfl, hx⟩
      obtain ⟨d, hdi, hdx⟩ := g.get hx
      refine ⟨rfl, ?_⟩
      simp only [tYes, ↓reduceIte]
      refine ⟨_, rfl, x, rfl, _, rfl, x, d, by rw [hd4] <;> rfl, hdx.same hs, fun H3 s3 => ⟨_, s3 _ _ hl, ?_, ?_, ?_⟩⟩
      · rw [List.length_map, List.length_map, List.length_take]
        exact Nat.lt_of_lt_of_le (by omega : _ < 1000) (small (Nat.le_refl _))
      · rw [upd_same, take_more hdi, List.map_append, List.map_append]
        rfl
      · intro b o e
        have nb : b ≠ D := ne_of_none e hD
        rw [upd_ne nb]
        exact s3 _ _ (hs _ _ e)
    · rintro H1 ⟨hl, hs⟩
      rw [hlen, List.take_length] at hl
      refine ⟨.ref D, rfl, D, _, rfl, .inl (.inl (.inl hl)), rfl, flat_ints _, _, rfl, ?_⟩
      rw [if_neg (by decide), inV_ints]
      have cast : ∀ (l : List PyData) (f : PyData → Nat), (0 : Int) ∈ (l.map fun d => ((f d : Nat) : Int)) ↔ 0 ∈ l.map f := fun l f => by
        constructor
        · intro h
          obtain ⟨d, hd, e⟩ := List.mem_map.mp h
          exact List.mem_map.mpr ⟨d, hd, by omega⟩
        · intro h
          obtain ⟨d, hd, e⟩ := List.mem_map.mp h
          exact List.mem_map.mpr ⟨d, hd, by omega⟩
      have sums : ∀ (l : List PyData) (f : PyData → Nat), (l.map fun d => ((f d : Nat) : Int)).sum = (((l.map f).sum : Nat) : Int) := fun l f => by
        induction l with
        | nil => rfl
        | cons d l ih => rw [List.map_cons, List.map_cons, List.sum_cons, List.sum_cons, ih, Int.natCast_add]
      refine ite2 (fun h => ?_) (fun h => ?_)
      · have h0 := (cast ds (szP (sz j))).mp (of_decide_eq_true h)
        have z := q H1 hs
        rw [if_pos h0] at z
        exact z
      · have h0 : ¬ 0 ∈ ds.map (szP (sz j)) := fun z => h (decide_eq_true ((cast ds (szP (sz j))).mpr z))
        refine ⟨.ref D, rfl, D, _, rfl, .inl (.inl hl), ?_⟩
        have z := q H1 hs
        rw [if_neg h0] at z
        rw [sums]
        exact z
theorem len_k {z : Str} (h : z.length ≤ 1000000) : z.length ≤ sizeLine := by
  rw [sizeLine_eq]
  omega
/-- a comprehension over a text whose element is a test of the sign -/
theorem lc_signs {s : Nat} {te : TE} {vs : List Nat} {σ : L2.St} {H1 : Hp} {D : Addr} {Qd : Hp → Prop} (z : Str) (f : Nat → Bool) (hw : ∀ v, wipe ((wipe σ vs).set s (some v)) vs = wipe σ vs) (hn : z.length ≤ 10000)
    (he : ∀ (c : Nat) (H : Hp) (Q : VK), Q (.bl (f c)) H → te ((wipe σ vs).set s (some (.str ⟨#[c]⟩))) H Q)
    (hd : Qd (upd H1 D (.lst (((tl z).map f).map V.bl)))) :
    ∃ W : Nat → Nat → Hp → Prop, (∃ m, W 0 m (upd H1 D (.lst []))) ∧ ∀ i m H, W i m H →
      ((Its z).stop i H ∧ Qd H) ∨ ((Its z).go i H ∧ ∃ Nx : Hp → Prop, (∀ H', Nx H' → ∃ m', m' < m ∧ W (i + 1) m' H') ∧ ∀ x H', (Its z).yld i H x H' → gName s x (wipe σ vs) H' fun σ2 H2 => wipe σ2 vs = wipe σ vs ∧ tYes σ2 H2 fun b H3 =>
        if b = true then te σ2 H3 fun y H4 => ∃ acc, H4 D = some (.lst acc) ∧ acc.length < sizeLine ∧ Nx (upd H4 D (.lst (acc ++ [y]))) else Nx H3) := by
  have hz : (tl z).length = z.cps.size := Array.length_toList
  refine lc_it walk_str (fun i H => H = upd H1 D (.lst ((((tl z).take i).map f).map V.bl))) rfl (fun _ _ _ _ => trivial) (fun i v H H' hi p y => ?_) (fun H p => ?_)
  · obtain ⟨rfl, c, hc, rfl⟩ := y
    subst p
    refine ⟨hw _, ?_⟩
    simp only [tYes, ↓reduceIte]
    refine he c _ _ ⟨_, upd_same, ?_, ?_⟩
    · rw [List.length_map, List.length_map, List.length_take]
      have hl : z.cps.size = z.length := rfl
      exact Nat.lt_of_lt_of_le (by omega : _ < 10001) (by rw [sizeLine_eq]; decide)
    · have hc' : (tl z)[i]? = some c := by rw [Array.getElem?_toList]; exact hc
      rw [upd_upd, take_more hc', List.map_append, List.map_append]
      rfl
  · rw [p, ← hz, List.take_length]
    exact hd
theorem all_id (l : List Nat) (f : Nat → Bool) : (l.map f).all id = l.all f := by
  rw [List.all_map]
  rfl
end
end Fs
set_option Elab.async false
set_option linter.all false
set_option maxRecDepth 100000
set_option maxHeartbeats 1000000
namespace Fs
open PySem L2
theorem szP_other (f : PyData → Nat) : ∀ {ds : List PyData}, ds.length ≠ 2 → szP f (.tuple ds) = 0
  | [], _ => rfl
  | [_], _ => rfl
  | [_, _], h => absurd rfl h
  | _ :: _ :: _ :: _, _ => rfl
theorem two_of {α : Type} : ∀ {l : List α}, l.length = 2 → ∃ x y, l = [x, y]
  | [x, y], _ => ⟨x, y, rfl⟩
theorem szT_in (f : PyData → Nat) (p : PyData) {t : Int} (h : 1 ≤ t ∧ t ≤ 1000000000000000000) : szP f (.tuple [p, .int t]) = szQ f t p := by
  show (if _ then _ else _) = _
  rw [if_pos h]
theorem szT_out (f : PyData → Nat) (p : PyData) {t : Int} (h : ¬ (1 ≤ t ∧ t ≤ 1000000000000000000)) : szP f (.tuple [p, .int t]) = 0 := by
  show (if _ then _ else _) = _
  rw [if_neg h]
section
variable {P : Program} {w : World} {K : PySem.W.Frag} {mg : Str → Option Value} {base : Heap}
theorem ok_pair {f : Addr} {fd : FuncData} {j lev : Nat} (F : Fun K "size_of_pair" "size_of_pair" s_size_of_pair f fd) (T : Bare mg) (C : Con K mg) (hl : 1 ≤ lev)
    (CN : Callee P w K mg base 1 "is_number" ["value"] (spNum K)) (CA : Callee P w K mg base lev "size_at" ["symbols", "value", "depth"] (spAt K j)) : FnOk P w K mg base CX0 (lev + 1) f fd ["symbols", "pair", "depth"] (spPair K j) := by
  refine F.ok sc_size_of_pair (fun vs H Q E h => ?_) (fun cdv A outer st H vs Q E hr h => ?_)
  · obtain ⟨v, d, rfl, _⟩ := h
    rfl
  obtain ⟨v, d, rfl, hd, q⟩ := h
  obtain ⟨t1, htimes⟩ := C.times
  obtain ⟨t2, hlong⟩ := C.longest
  refine ⟨_, (pss_cons (ps_if (PW.pt (pw_or (pt_not (pt_val (pe_callB call_isD (by rfl) C.isi boot_isi (pa_cons (pv 1) (pa_cons (pe_bltn (v := .ty "tuple") (u := .type "tuple") (by rfl) T.tuple (by decide +kernel) rfl) pa_nil))))) (pw_or1 (pt_cmpR op_ne (pe_callB call_len_seq (by rfl) T.len PySem.boot_len (pa_cons (pv 1) pa_nil)) pe_int (nomark _)))))
(pss_one (ps_ret pe_int))
pss_nil)
(pss_cons (ps_asg (pv 1) (pg_tup (by rfl) (pgs_cons (pg_name (i := 3) sc_size_of_pair.nd rfl (Or.inl rfl)) (pgs_cons (pg_name (i := 4) sc_size_of_pair.nd rfl (Or.inl rfl)) pgs_nil))))
(pss_cons (ps_if (PW.pt (pw_or (pt_not (pt_val (pe_call CN.ok (hr.mono hl) rfl CN.mg CN.kp CN.b .nil pass0 (pa_cons (pv 4) pa_nil)))) (pw_or1 (pt_not (pt_chain op_le op_le pe_int (pv 4) (pe_glob (v := .int 1000000000000000000) (by rfl) htimes ⟨_, rfl⟩))))))
(pss_one (ps_ret pe_int))
pss_nil)
(pss_cons (ps_if (pt_not (pt_val (pe_callB call_isD (by rfl) C.isi boot_isi (pa_cons (pv 3) (pa_cons (pe_bltn (v := .ty "str") (u := .type "str") (by rfl) T.str (by decide +kernel) rfl) pa_nil)))))
(pss_one (ps_ret (pe_op op_mul (pv 4) (pe_call CA.ok hr rfl CA.mg CA.kp CA.b .nil pass0 (pa_cons (pv 0) (pa_cons (pv 3) (pa_cons (pe_op op_add (pv 2) pe_int) pa_nil)))))))
pss_nil)
(pss_cons (ps_set (i := 5) sc_size_of_pair.nd rfl (Or.inl rfl) (pe_and (pe_cmpR op_le (pe_callB call_len (by rfl) T.len PySem.boot_len (pa_cons (pv 3) pa_nil)) (pe_glob (v := .int 20) (by rfl) hlong ⟨_, rfl⟩) (nomark _)) (pe_one (pe_callB (cr_all rfl) (by rfl) C.all (by decide +kernel) (pa_cons (pe_lc (own := [("sign", 6)]) (g := gName 6) rfl sc_size_of_pair.nd (pi_str (pv 3)) (blkOk_by (N := sc_size_of_pairN) (sc := defScope s_size_of_pair) (by decide +kernel)) (fun _ _ _ _ _ => pg_name (i := 6) sc_size_of_pair.nd rfl (Or.inl rfl)) (fun _ _ _ _ _ => pts_nil) (fun _ _ _ _ _ => (pe_cmpR op_in_sign (pv 6) (pv 0) (by rfl)))) pa_nil)))))
(pss_one (ps_ret (pe_ifExp (pt_val (pv 5)) (pe_op op_mul (pv 4) (pe_callB call_len (by rfl) T.len PySem.boot_len (pa_cons (pv 3) pa_nil))) pe_int)))))))), ?_⟩
  have zero : ∀ H', Same H H' → szP (sz j) d = 0 → Q (.int 0) H' := fun H' s e => by
    have z := q H' s
    rw [e] at z
    exact z
  refine ⟨v, rfl, v, d, "tuple", rfl, hd, .inl rfl, _, rfl, ?_⟩
  by_cases ht : isT "tuple" d = true
  rotate_left
  · rw [Bool.eq_false_iff.mpr ht]
    refine iteT (iteT (zero H (fun _ _ e => e) ?_))
    cases d with
    | tuple xs => exact absurd ((isT_tuple _).mpr ⟨xs, rfl⟩) ht
    | _ => rfl
  obtain ⟨ds, rfl⟩ := (isT_tuple d).mp ht
  rw [ht]
  refine iteF ?_
  cases hd with
  | @tup a xs _ hq g =>
  have hlen := g.len
  refine ⟨.ref a, rfl, a, xs, rfl, .inr hq, rfl, _, rfl, ?_⟩
  refine ite2 (fun h => zero H (fun _ _ e => e) ?_) (fun h => ?_)
  · have n2 : ds.length ≠ 2 := fun e => by
      have e' : (xs.length : Int) = 2 := by omega
      rw [e'] at h
      exact absurd h (by decide)
    exact szP_other (sz j) n2
  have hL : xs.length = 2 := by
    have : ¬ (V.int (xs.length : Int) ≠ V.int 2) := by simpa using h
    have : V.int (xs.length : Int) = V.int 2 := Classical.not_not.mp this
    have := V.int.inj this
    omega
  obtain ⟨vp, vt, rfl⟩ := two_of hL
  cases g with
  | @cons _ _ dp ds1 gp g1 =>
  cases g1 with
  | @cons _ _ dt ds2 gt g2 =>
  cases g2
  refine ⟨.ref a, rfl, a, _, rfl, hq, rfl, vp, _, rfl, vt, _, rfl, rfl, ?_⟩
  refine ⟨vt, rfl, vt, dt, rfl, gt, _, rfl, ?_⟩
  by_cases hn : isNum dt = true
  rotate_left
  · rw [Bool.eq_false_iff.mpr hn]
    refine iteT (iteT (zero H (fun _ _ e => e) ?_))
    cases dt with
    | int t => exact absurd ((isNum_iff _).mpr ⟨t, rfl⟩) hn
    | _ => rfl
  obtain ⟨t, rfl⟩ := (isNum_iff dt).mp hn
  rw [hn]
  refine iteF ?_
  cases gt
  have range : ¬ (1 ≤ t ∧ t ≤ 1000000000000000000) → Q (.int 0) H := fun h => zero H (fun _ _ e => e) (szT_out (sz j) dp h)
  refine ⟨.int t, rfl, 1, t, rfl, rfl, _, rfl, ?_⟩
  refine ite2 (fun h1 => ?_) (fun h1 => ⟨_, rfl, iteT (range fun h => h1 (decide_eq_true h.1))⟩)
  have h1 := of_decide_eq_true h1
  refine ⟨t, 1000000000000000000, rfl, rfl, _, rfl, ?_⟩
  refine ite2 (fun h2 => range fun h => ?_) (fun h2 => ?_)
  · have h2 : decide (t ≤ 1000000000000000000) = false := by simpa using h2
    exact absurd h.2 (of_decide_eq_false h2)
  have h2 : t ≤ 1000000000000000000 := by simpa using h2
  refine ⟨vp, rfl, vp, dp, "str", rfl, gp, .inr (.inl rfl), _, rfl, ?_⟩
  by_cases hs : isT "str" dp = true
  rotate_left
  · rw [Bool.eq_false_iff.mpr hs]
    refine iteT ?_
    have e : szP (sz j) (.tuple [dp, .int t]) = t.toNat * sz j dp := by
      refine (szT_in (sz j) dp ⟨h1, h2⟩).trans ?_
      cases dp with
      | str z => exact absurd ((isT_str _).mpr ⟨z, rfl⟩) hs
      | _ => rfl
    rw [e] at q
    refine ⟨.int t, rfl, .str alpha, rfl, vp, rfl, _, rfl, _, 1, rfl, rfl, vp, dp, ?_, gp, fun H' s => ?_⟩
    · show [V.str alpha, vp, V.int (4 - (j : Int) + 1)] = _
      rw [show (4 - (j : Int) + 1) = 5 - (j : Int) by omega]
    · refine ⟨t, (sz j dp : Int), rfl, rfl, .inl ⟨by omega, by omega⟩, ?_⟩
      have z := q H' s
      have e2 : ((t.toNat * sz j dp : Nat) : Int) = t * (sz j dp : Int) := by
        rw [Int.natCast_mul, Int.toNat_of_nonneg (by omega)]
      rw [e2] at z
      exact z
  obtain ⟨z, rfl⟩ := (isT_str dp).mp hs
  rw [hs]
  refine iteF ?_
  cases gp with
  | str _ hzl =>
  have e : szP (sz j) (.tuple [.str z, .int t]) = if z.length ≤ 20 ∧ ofL z = true then t.toNat * z.length else 0 := szT_in (sz j) (.str z) ⟨h1, h2⟩
  refine ⟨.str z, rfl, .str z, z.length, rfl, ⟨len_k hzl, rfl⟩, (z.length : Int), 20, rfl, rfl, _, rfl, ?_⟩
  have fin : ∀ H', Same H H' → ∀ b : Bool, (b = true ↔ (z.length ≤ 20 ∧ ofL z = true)) → Q (if b = true then .int (t * (z.length : Int)) else .int 0) H' := fun H' s b hb => by
    have k := q H' s
    rw [e] at k
    cases b with
    | true =>
      rw [if_pos (hb.mp rfl)] at k
      rw [if_pos rfl]
      have e2 : ((t.toNat * z.length : Nat) : Int) = t * (z.length : Int) := by
        rw [Int.natCast_mul, Int.toNat_of_nonneg (by omega)]
      rw [e2] at k
      exact k
    | false =>
      rw [if_neg (fun h => by cases hb.mpr h)] at k
      rw [if_neg (by decide)]
      exact k
  refine ite2 (fun h3 => ?_) (fun h3 => ?_)
  · have h3 := of_decide_eq_true h3
    refine ⟨.str z, rfl, z, rfl, fun D hD => lc_signs z (fun c => decide (c ∈ tl alpha)) (fun _ => rfl) (by omega) (fun c H' Q' k => ?_) ?_⟩
    · exact ⟨_, rfl, _, rfl, c, alpha, rfl, rfl, k⟩
    · refine ⟨D, _, rfl, .inl (.inl upd_same), ?_⟩
      rw [all_id, show ((tl z).all fun c => decide (c ∈ tl alpha)) = ofL z from rfl]
      refine ⟨_, rfl, _, rfl, ?_⟩
      have k := fin _ (same_new hD (.lst (((tl z).map fun c => decide (c ∈ tl alpha)).map V.bl))) (ofL z) ⟨fun h => ⟨by omega, h⟩, fun h => h.2⟩
      refine ite2 (fun h4 => ?_) (fun h4 => ?_)
      · refine ⟨.int t, rfl, .str z, rfl, .str z, z.length, rfl, ⟨len_k hzl, rfl⟩, t, (z.length : Int), rfl, rfl, .inl ⟨by omega, by omega⟩, ?_⟩
        rw [if_pos h4] at k
        exact k
      · rw [if_neg h4] at k
        exact k
  · refine ⟨_, rfl, _, rfl, iteF ?_⟩
    have k := fin H (fun _ _ e => e) false ⟨fun h => (by cases h), fun h => absurd (decide_eq_true (by omega)) h3⟩
    rw [if_neg (by decide)] at k
    exact k
end
end Fs
set_option Elab.async false
set_option linter.all false
set_option maxRecDepth 100000
set_option maxHeartbeats 1000000
namespace Fs
open PySem L2
/-! ### the whole size; check_far, far_length -/
def far (d : PyData) : Nat := if sz 4 d ≤ 1000000000000000000000000 then sz 4 d else 0
abbrev s_size_of_far : Stmt := top 14
abbrev sc_size_of_farN : List Str := ["symbols", "value", "size"]
theorem sc_size_of_far : FnScope sc_size_of_farN ["symbols", "value"] (defScope s_size_of_far) := ⟨rfl, rfl, rfl, by decide +kernel, rfl, by decide +kernel, by decide +kernel⟩
abbrev s_PassError_init : Stmt := inClass (top 1) 0
abbrev sc_PassError_initN : List Str := ["self", "value"]
theorem sc_PassError_init : FnScope sc_PassError_initN ["self", "value"] (defScope s_PassError_init) := ⟨rfl, rfl, rfl, by decide +kernel, rfl, by decide +kernel, by decide +kernel⟩
abbrev s_check_far : Stmt := top 17
abbrev sc_check_farN : List Str := ["symbols", "value"]
theorem sc_check_far : FnScope sc_check_farN ["symbols", "value"] (defScope s_check_far) := ⟨rfl, rfl, rfl, by decide +kernel, rfl, by decide +kernel, by decide +kernel⟩
abbrev s_far_length : Stmt := top 29
abbrev sc_far_lengthN : List Str := ["far"]
theorem sc_far_length : FnScope sc_far_lengthN ["far"] (defScope s_far_length) := ⟨rfl, rfl, rfl, by decide +kernel, rfl, by decide +kernel, by decide +kernel⟩
def spFar (K : PySem.W.Frag) : Sp := fun vs H Q _ => ∃ (v : V) (d : PyData), vs = [.str alpha, v] ∧ Dv K H v d ∧ ∀ H', Same H H' → Q (.int (far d : Nat)) H'
/-- the facts of the class BadFar -/
structure BadTxt (P : Program) (w : World) (K : PySem.W.Frag) (mg : Str → Option Value) (base : Heap) (CB fI : Addr) : Prop where
  ox : OexC K CB
  iC : PySem.W.findIn K (.ref CB) "__init__" = some (some (.ref fI))
  tI : PySem.W.typeIn K (.ref fI) = some (.type "function")
  nv : PySem.W.findIn K (.ref CB) "value" = some none
  mg : mg "BadFar" = some (.ref CB)
def spPassInit (K : PySem.W.Frag) : Sp := fun vs H Q _ => ∃ (a C : Addr) (v : V), vs = [.ref a, v] ∧ OexC K C ∧ PySem.W.findIn K (.ref C) "value" = some none ∧ H a = some (exo a C none) ∧
  ∀ dx, H dx = none → dx ≠ a → Q .non (upd (upd H dx (exd dx [("value", v)])) a (exo a C (some dx)))
/-- what a refused value is told by -/
def Refused (CB : Addr) (v : V) (H : Hp) (E : XK) : Prop := ∀ dd H', H dd = none → Same H H' → H' dd = some (.xd [("value", v)]) → E (.ref CB) (some dd) H'
def spCheck (K : PySem.W.Frag) (CB : Addr) : Sp := fun vs H Q E => ∃ (v : V) (d : PyData), vs = [.str alpha, v] ∧ Dv K H v d ∧ (far d ≠ 0 → ∀ H', Same H H' → Q .non H') ∧ (far d = 0 → Refused CB v H E)
def spLength (K : PySem.W.Frag) (CB : Addr) : Sp := fun vs H Q E => ∃ (v : V) (d : PyData), vs = [v] ∧ Dv K H v d ∧ (far d ≠ 0 → ∀ H', Same H H' → Q (.int (far d : Nat)) H') ∧ (far d = 0 → Refused CB v H E)
theorem Same.trans {H H1 H2 : Hp} (a : Same H H1) (b : Same H1 H2) : Same H H2 := fun c o h => b c o (a c o h)
section
variable {P : Program} {w : World} {K : PySem.W.Frag} {mg : Str → Option Value} {base : Heap}
theorem ok_tower {fA fP : Addr} {fdA fdP : FuncData} (FA : Fun K "size_at" "size_at" s_size_at fA fdA) (FP : Fun K "size_of_pair" "size_of_pair" s_size_of_pair fP fdP) (T : Bare mg) (C : Con K mg)
    (mA : mg "size_at" = some (.ref fA)) (kA : PySem.W.keepIn K (.ref fA) = true) (bA : Binds K fdA ["symbols", "value", "depth"] [])
    (mP : mg "size_of_pair" = some (.ref fP)) (kP : PySem.W.keepIn K (.ref fP) = true) (bP : Binds K fdP ["symbols", "pair", "depth"] [])
    (CN : Callee P w K mg base 1 "is_number" ["value"] (spNum K)) : FnOk P w K mg base CX0 10 fA fdA ["symbols", "value", "depth"] (spAt K 4) := by
  have A0 : FnOk P w K mg base CX0 2 fA fdA ["symbols", "value", "depth"] (spAt K 0) := ok_at (k := 0) (lev := 1) (spP := spNo) FA T C (by decide) (fun j e => by cases e) ⟨fP, fdP, never_ok, mP, kP, bP⟩
  have step : ∀ j lev, j ≤ 3 → 1 ≤ lev → FnOk P w K mg base CX0 lev fA fdA ["symbols", "value", "depth"] (spAt K j) → FnOk P w K mg base CX0 (lev + 2) fA fdA ["symbols", "value", "depth"] (spAt K (j + 1)) := fun j lev hj hl A =>
    ok_at (k := j + 1) (lev := lev + 1) (spP := spPair K j) FA T C (by omega) (fun j' e => by cases e; rfl) ⟨fP, fdP, ok_pair FP T C hl CN ⟨fA, fdA, A, mA, kA, bA⟩, mP, kP, bP⟩
  exact step 3 8 (by decide) (by decide) (step 2 6 (by decide) (by decide) (step 1 4 (by decide) (by decide) (step 0 2 (by decide) (by decide) A0)))
theorem ok_far {f : Addr} {fd : FuncData} (F : Fun K "size_of_far" "size_of_far" s_size_of_far f fd) (C : Con K mg) (CA : Callee P w K mg base 10 "size_at" ["symbols", "value", "depth"] (spAt K 4)) :
    FnOk P w K mg base CX0 11 f fd ["symbols", "value"] (spFar K) := by
  refine F.ok sc_size_of_far (fun vs H Q E h => ?_) (fun cdv A outer s H vs Q E hr h => ?_)
  · obtain ⟨v, d, rfl, _⟩ := h
    rfl
  obtain ⟨v, d, rfl, hd, q⟩ := h
  obtain ⟨t1, hsym⟩ := C.symbols
  refine ⟨_, (pss_cons (ps_set (i := 2) sc_size_of_far.nd rfl (Or.inl rfl) (pe_call CA.ok hr rfl CA.mg CA.kp CA.b .nil pass0 (pa_cons (pv 0) (pa_cons (pv 1) (pa_cons pe_int pa_nil)))))
(pss_one (ps_ret (pe_ifExp (pt_cmpR op_le (pv 2) (pe_glob (v := .int 1000000000000000000000000) (by rfl) hsym ⟨_, rfl⟩) (nomark _)) (pv 2) pe_int)))), ?_⟩
  refine ⟨_, rfl, v, rfl, v, d, rfl, hd, fun H1 s1 => ⟨_, rfl, _, _, rfl, rfl, _, rfl, ?_⟩⟩
  have z := q H1 s1
  unfold far at z
  refine ite2 (fun h => ?_) (fun h => ?_)
  · have h := of_decide_eq_true h
    rw [if_pos (by omega)] at z
    exact ⟨_, rfl, z⟩
  · have h : ¬ ((sz 4 d : Nat) : Int) ≤ 1000000000000000000000000 := fun e => h (decide_eq_true e)
    rw [if_neg (by omega)] at z
    exact z
theorem ok_pass_init {f : Addr} {fd : FuncData} (F : Fun K "__init__" "PassError.__init__" s_PassError_init f fd) : FnOk P w K mg base CX0 1 f fd ["self", "value"] (spPassInit K) := by
  refine F.ok sc_PassError_init (fun vs H Q E h => ?_) (fun cdv A outer s H vs Q E hr h => ?_)
  · obtain ⟨a, C, v, rfl, _⟩ := h
    rfl
  obtain ⟨a, C, v, rfl, T, nv, ha, q⟩ := h
  refine ⟨_, (pss_one (ps_ost (pv 0) (pv 1))), ?_⟩
  exact ⟨v, rfl, _, rfl, a, C, rfl, T, nv, .inl ⟨ha, fun dx n ne => q dx n ne⟩⟩
theorem ok_check {f CB fI : Addr} {fd fdI : FuncData} (F : Fun K "check_far" "check_far" s_check_far f fd) (TB : BadTxt P w K mg base CB fI) (OI : FnOk P w K mg base CX0 1 fI fdI ["self", "value"] (spPassInit K)) (bI : Binds K fdI ["self", "value"] [])
    (CF : Callee P w K mg base 11 "size_of_far" ["symbols", "value"] (spFar K)) : FnOk P w K mg base (L2.CX P w) 12 f fd ["symbols", "value"] (spCheck K CB) := by
  refine F.okX sc_check_far (fun vs H Q E h => ?_) (fun cdv A outer s H vs Q E hr h => ?_)
  · obtain ⟨v, d, rfl, _⟩ := h
    rfl
  obtain ⟨v, d, rfl, hd, q, e⟩ := h
  refine ⟨_, (pss_one (ps_if (pt_cmpR op_eq (pe_call CF.ok hr rfl CF.mg CF.kp CF.b .nil pass0 (pa_cons (pv 0) (pa_cons (pv 1) pa_nil))) pe_int (nomark _))
(pss_one (ps_raise rfl (takes_of rfl rfl rfl rfl) (pmk_oex TB.ox TB.iC TB.tI OI (hr.mono (by decide)) bI .nil pass0 rfl TB.mg (pa_cons (pv 1) pa_nil))))
pss_nil)), ?_⟩
  refine ⟨_, rfl, v, rfl, v, d, rfl, hd, fun H1 s1 => ⟨rfl, _, rfl, ?_⟩⟩
  refine ite2 (fun h => ?_) (fun h => ?_)
  · have h0 : far d = 0 := by
      have := of_decide_eq_true h
      have := V.int.inj this
      omega
    refine ⟨v, rfl, Nat.le_of_ble_eq_true rfl, fun a ha => ⟨a, CB, v, rfl, TB.ox, TB.nv, upd_same, fun dx n ne => ⟨rfl, dx, [("value", v)], upd_same, ?_, ?_, ?_⟩⟩⟩
    · rw [upd_ne ne, upd_same]
    · rw [upd_ne ne] at n
      exact n
    · rw [upd_ne ne] at n
      have nH : H dx = none := by
        cases z : H dx with
        | none => rfl
        | some o => rw [s1 _ _ z] at n; cases n
      refine e h0 dx _ nH (fun b o hb => ?_) upd_same
      have hb1 := s1 _ _ hb
      have n1 : b ≠ dx := ne_of_none hb1 n
      have n2 : b ≠ a := ne_of_none hb1 ha
      rw [upd_ne n1, del_ne n2, upd_ne n2, upd_ne n1, upd_ne n2]
      exact hb1
  · exact q (fun h0 => h (decide_eq_true (by rw [h0]; rfl))) H1 s1
theorem ok_length {f CB : Addr} {fd : FuncData} (F : Fun K "far_length" "far_length" s_far_length f fd) (C : Con K mg) {fC : Addr} {fdC : FuncData} (OC : FnOk P w K mg base (L2.CX P w) 12 fC fdC ["symbols", "value"] (spCheck K CB))
    (mC : mg "check_far" = some (.ref fC)) (kC : PySem.W.keepIn K (.ref fC) = true) (bC : Binds K fdC ["symbols", "value"] [])
    (CF : Callee P w K mg base 11 "size_of_far" ["symbols", "value"] (spFar K)) : FnOk P w K mg base (L2.CX P w) 13 f fd ["far"] (spLength K CB) := by
  refine F.okX sc_far_length (fun vs H Q E h => ?_) (fun cdv A outer s H vs Q E hr h => ?_)
  · obtain ⟨v, d, rfl, _⟩ := h
    rfl
  obtain ⟨v, d, rfl, hd, q, e⟩ := h
  obtain ⟨t1, hal⟩ := C.alpha
  refine ⟨_, (pss_cons (ps_expr (pe_call OC hr rfl mC kC bC .nil (passes_call (takes_of rfl rfl rfl rfl) (fun _ _ _ _ h => h)) (pa_cons (pe_glob (v := .str alpha) (by rfl) hal ⟨_, rfl⟩) (pa_cons (pv 0) pa_nil))))
(pss_one (ps_ret (pe_call CF.ok (hr.mono (by decide)) rfl CF.mg CF.kp CF.b .nil pass0 (pa_cons (pe_glob (v := .str alpha) (by rfl) hal ⟨_, rfl⟩) (pa_cons (pv 0) pa_nil)))))), ?_⟩
  refine ⟨v, rfl, v, d, rfl, hd, fun h0 H1 s1 => ?_, fun h0 => e h0⟩
  exact ⟨v, rfl, v, d, rfl, hd.same s1, fun H2 s2 => q h0 H2 (Same.trans s1 s2)⟩
end
end Fs
set_option Elab.async false
set_option linter.all false
set_option maxRecDepth 100000
set_option maxHeartbeats 2000000
namespace Fs
open PySem L2
abbrev s__law_take : Stmt := top 32
abbrev sc__law_takeN : List Str := ["_law_pot", "_law_upto", "_law_digit", "_law_prime", "_law_mixed"]
theorem sc__law_take : FnScope sc__law_takeN ["_law_pot", "_law_upto"] (defScope s__law_take) := ⟨rfl, rfl, rfl, by decide +kernel, rfl, by decide +kernel, by decide +kernel⟩
/-- a pot: what is left of the cell, a number, how many were taken -/
structure Pot (H : Hp) (p : Addr) (n : Nat) : Prop where
  at_ : ∃ o b c : Int, H p = some (.lst [.int o, .int b, .int c]) ∧ 0 ≤ o ∧ 0 ≤ b ∧ b < 2305843009213693952 ∧ 0 ≤ c ∧ c ≤ (n : Int)
theorem Pot.more {H : Hp} {p : Addr} {n m : Nat} (h : Pot H p n) (l : n ≤ m) : Pot H p m := by
  obtain ⟨o, b, c, e, h1, h2, h3, h4, h5⟩ := h
  exact ⟨o, b, c, e, h1, h2, h3, h4, by omega⟩
theorem Pot.same {H H' : Hp} {p : Addr} {n : Nat} (h : Pot H p n) (s : Same H H') : Pot H' p n := by
  obtain ⟨o, b, c, e, r⟩ := h
  exact ⟨o, b, c, s _ _ e, r⟩
def spTake : Sp := fun vs H Q _ => ∃ (p : Addr) (u : Int) (n : Nat), vs = [.ref p, .int u] ∧ Pot H p n ∧ n < 1000000 ∧ 0 < u ∧ u < 1000000 ∧
  ∀ (d : Int) (H' : Hp), 0 ≤ d → d < u → Pot H' p (n + 1) → But p H H' → Q (.int d) H'
theorem at3_0 (x y z : V) : atI [x, y, z] 0 = some x := rfl
theorem at3_1 (x y z : V) : atI [x, y, z] 1 = some y := rfl
theorem at3_2 (x y z : V) : atI [x, y, z] 2 = some z := rfl
theorem five {i : Int} (h0 : 0 ≤ i) (h1 : i < 5) : ∃ v : Int, atI ([.int 2147483647, .int 2147483629, .int 2147483587, .int 2147483579, .int 2147483563] : List V) i = some (.int v) ∧ 0 < v ∧ v ≤ 2147483647 := by
  have h : i = 0 ∨ i = 1 ∨ i = 2 ∨ i = 3 ∨ i = 4 := by omega
  rcases h with rfl | rfl | rfl | rfl | rfl
  · exact ⟨2147483647, rfl, by decide, by decide⟩
  · exact ⟨2147483629, rfl, by decide, by decide⟩
  · exact ⟨2147483587, rfl, by decide, by decide⟩
  · exact ⟨2147483579, rfl, by decide, by decide⟩
  · exact ⟨2147483563, rfl, by decide, by decide⟩
abbrev s__law_of : Stmt := top 33
abbrev sc__law_ofN : List Str := ["_law_pot", "_law_some"]
theorem sc__law_of : FnScope sc__law_ofN ["_law_pot", "_law_some"] (defScope s__law_of) := ⟨rfl, rfl, rfl, by decide +kernel, rfl, by decide +kernel, by decide +kernel⟩
abbrev s__law_pot_of : Stmt := top 31
abbrev sc__law_pot_ofN : List Str := ["_law_script", "_law_k", "_law_cell", "_law_own"]
theorem sc__law_pot_of : FnScope sc__law_pot_ofN ["_law_script", "_law_k"] (defScope s__law_pot_of) := ⟨rfl, rfl, rfl, by decide +kernel, rfl, by decide +kernel, by decide +kernel⟩
section
variable {P : Program} {w : World} {K : PySem.W.Frag} {mg : Str → Option Value} {base : Heap}
theorem ok_take {f : Addr} {fd : FuncData} (F : Fun K "_law_take" "_law_take" s__law_take f fd) (T : Bare mg) : FnOk P w K mg base CX0 1 f fd ["_law_pot", "_law_upto"] spTake := by
  refine F.ok sc__law_take (fun vs H Q E h => ?_) (fun cdv A outer s H vs Q E hr h => ?_)
  · obtain ⟨p, u, n, rfl, _⟩ := h
    rfl
  obtain ⟨p, u, n, rfl, ⟨o, b, c, hp, o0, b0, b1, c0, c1⟩, hn, u0, u1, q⟩ := h
  refine ⟨_, (pss_cons (ps_if (pt_cmpR op_gt (pe_ix ix_list (pv 0) pe_int (fun _ _ => rfl)) pe_int (nomark _))
(pss_cons (ps_set (i := 2) sc__law_take.nd rfl (Or.inl rfl) (pe_op op_mod (pe_callTy call_int1 (by rfl) T.int (by decide +kernel) (pa_cons (pe_ix ix_list (pv 0) pe_int (fun _ _ => rfl)) pa_nil)) (pv 1)))
(pss_cons (ps_asg (pe_op op_fdiv (pe_ix ix_list (pv 0) pe_int (fun _ _ => rfl)) (pv 1)) (pg_sub (pv 0) pe_int set_list))
(pss_one (ps_ret (pv 2)))))
pss_nil)
(pss_cons (ps_asg (pe_op op_add (pe_ix ix_list (pv 0) pe_int (fun _ _ => rfl)) pe_int) (pg_sub (pv 0) pe_int set_list))
(pss_cons (ps_set (i := 3) sc__law_take.nd rfl (Or.inl rfl) (pe_ix ix_list (pe_lst (pa_cons pe_int (pa_cons pe_int (pa_cons pe_int (pa_cons pe_int (pa_cons pe_int pa_nil)))))) (pe_op op_mod (pe_callTy call_int1 (by rfl) T.int (by decide +kernel) (pa_cons (pe_ix ix_list (pv 0) pe_int (fun _ _ => rfl)) pa_nil)) pe_int) (fun _ _ => rfl)))
(pss_cons (ps_set (i := 4) sc__law_take.nd rfl (Or.inl rfl) (pe_op op_mod (pe_callTy call_int1 (by rfl) T.int (by decide +kernel) (pa_cons (pe_op op_pow (pe_op op_add (pe_op op_add (pe_ix ix_list (pv 0) pe_int (fun _ _ => rfl)) (pe_op op_mul (pe_op op_mul pe_int (pe_ix ix_list (pv 0) pe_int (fun _ _ => rfl))) (pe_ix ix_list (pv 0) pe_int (fun _ _ => rfl)))) pe_int) pe_int) pa_nil)) (pv 3)))
(pss_one (ps_ret (pe_op op_mod (pe_callTy call_int1 (by rfl) T.int (by decide +kernel) (pa_cons (pe_op op_fdiv (pe_op op_mul (pv 4) (pe_op op_add (pe_op op_mod (pe_callTy call_int1 (by rfl) T.int (by decide +kernel) (pa_cons (pv 4) pa_nil)) pe_int) (pe_op op_mul pe_int (pe_ix ix_list (pv 0) pe_int (fun _ _ => rfl))))) pe_int) pa_nil)) (pv 1)))))))), ?_⟩
  have hS : SqL K H p [.int o, .int b, .int c] := .inl (.inl hp)
  -- if pot[0] > 0
  refine ⟨.ref p, rfl, p, _, 0, _, rfl, rfl, hS, rfl, o, 0, rfl, rfl, _, rfl, ?_⟩
  refine ite2 (fun h => ?_) (fun h => ?_)
  · have ho : (0 : Int) < o := of_decide_eq_true h
    -- digit = int(pot[0]) % upto
    refine ⟨.ref p, rfl, p, _, 0, _, rfl, rfl, hS, rfl, .inl ⟨o, rfl, ?_⟩⟩
    refine ⟨.int u, rfl, o, u, rfl, rfl, u0, ?_⟩
    -- pot[0] = pot[0] // upto
    refine ⟨.ref p, rfl, p, _, 0, _, rfl, rfl, hS, rfl, .int u, rfl, o, u, rfl, rfl, ⟨u0, by omega⟩, ?_⟩
    refine ⟨.ref p, rfl, p, _, 0, 0, rfl, rfl, hp, rfl, ?_⟩
    refine ⟨_, rfl, ?_⟩
    refine q (o % u) _ (Int.emod_nonneg _ (by omega)) (Int.emod_lt_of_pos _ u0) ⟨o / u, b, c, upd_same, Int.ediv_nonneg (by omega) (by omega), b0, b1, c0, by omega⟩ But.upd
  · -- pot[2] = pot[2] + 1
    refine ⟨.ref p, rfl, p, _, 2, _, rfl, rfl, hS, rfl, c, 1, rfl, rfl, .ref p, rfl, p, _, 2, 2, rfl, rfl, hp, rfl, ?_⟩
    have hp2 : (upd H p (.lst [.int o, .int b, .int (c + 1)])) p = some (.lst [.int o, .int b, .int (c + 1)]) := upd_same
    have hS2 : SqL K (upd H p (.lst [.int o, .int b, .int (c + 1)])) p [.int o, .int b, .int (c + 1)] := .inl (.inl hp2)
    -- prime = [..][int(pot[2]) % 5]
    refine ⟨small (by show 5 ≤ 1000; decide), fun l hl => ?_⟩
    have npl : p ≠ l := ne_of_none hp2 hl
    have e1 : ∀ o', upd (upd H p (.lst [.int o, .int b, .int (c + 1)])) l o' p = some (.lst [.int o, .int b, .int (c + 1)]) := fun o' => by rw [upd_ne npl]; exact hp2
    obtain ⟨v, hv, v0, v1⟩ := five (i := (c + 1) % 5) (Int.emod_nonneg _ (by decide)) (Int.emod_lt_of_pos _ (by decide))
    refine ⟨.ref p, rfl, p, _, 2, _, rfl, rfl, .inl (.inl (e1 _)), rfl, .inl ⟨c + 1, rfl, ?_⟩⟩
    refine ⟨c + 1, 5, rfl, rfl, (by show (0 : Int) < 5; decide), l, _, _, _, rfl, rfl, .inl (.inl upd_same), hv, ?_⟩
    -- mixed
    have sz : (70001 * (c + 1)) * (c + 1) ≤ 70001 * 1000001 * 1000001 := by
      have a1 : 0 ≤ c + 1 := by omega
      have a2 : c + 1 ≤ 1000001 := by omega
      have a3 : 70001 * (c + 1) ≤ 70001 * 1000001 := by omega
      exact Int.mul_le_mul a3 a2 a1 (by decide)
    have sz0 : 0 ≤ (70001 * (c + 1)) * (c + 1) := Int.mul_nonneg (by omega) (by omega)
    refine ⟨.ref p, rfl, p, _, 1, _, rfl, rfl, .inl (.inl (e1 _)), rfl, ?_⟩
    refine ⟨.ref p, rfl, p, _, 2, _, rfl, rfl, .inl (.inl (e1 _)), rfl, 70001, c + 1, rfl, rfl, .inl ⟨by decide, by decide⟩, ?_⟩
    refine ⟨.ref p, rfl, p, _, 2, _, rfl, rfl, .inl (.inl (e1 _)), rfl, 70001 * (c + 1), c + 1, rfl, rfl, .inl ⟨by omega, by omega⟩, ?_⟩
    refine ⟨b, 70001 * (c + 1) * (c + 1), rfl, rfl, b + 70001 * (c + 1) * (c + 1), 53, rfl, rfl, ?_⟩
    refine ⟨b + 70001 * (c + 1) * (c + 1) + 53, 3, rfl, rfl, ⟨by decide, by decide, by omega⟩, .inl ⟨_, rfl, ?_⟩⟩
    refine ⟨.int v, rfl, _, v, rfl, rfl, v0, ?_⟩
    dsimp only
    generalize em : (b + 70001 * (c + 1) * (c + 1) + 53) ^ (3 : Int).toNat % v = m
    have m0 : 0 ≤ m := by rw [← em]; exact Int.emod_nonneg _ (by omega)
    have m1 : m < 2147483647 := by
      have := Int.emod_lt_of_pos ((b + 70001 * (c + 1) * (c + 1) + 53) ^ (3 : Int).toNat) v0
      omega
    -- return
    refine ⟨.int m, rfl, .int m, rfl, .inl ⟨m, rfl, m, 10007, rfl, rfl, (by show (0 : Int) < 10007; decide), ?_⟩⟩
    refine ⟨.ref p, rfl, p, _, 2, _, rfl, rfl, .inl (.inl (e1 _)), rfl, 83, c + 1, rfl, rfl, .inl ⟨by decide, by decide⟩, ?_⟩
    refine ⟨m % 10007, 83 * (c + 1), rfl, rfl, m, m % 10007 + 83 * (c + 1), rfl, rfl, .inl ⟨by omega, by omega⟩, ?_⟩
    refine ⟨_, 101, rfl, rfl, ⟨by decide, by decide⟩, .inl ⟨_, rfl, ?_⟩⟩
    refine ⟨.int u, rfl, _, u, rfl, rfl, u0, ?_⟩
    refine q _ _ (Int.emod_nonneg _ (by omega)) (Int.emod_lt_of_pos _ u0) ⟨o, b, c + 1, e1 _, o0, b0, b1, by omega, by omega⟩ ?_
    exact But.trans But.upd (But.of_same (same_new hl _))
/-! ### _law_of -/
theorem But.seq {p : Addr} {H H' : Hp} {a : Addr} {xs : List V} (e : But p H H') (n : a ≠ p) (h : SqL K H a xs) : SqL K H' a xs := by
  rcases h with (h | ⟨o, h⟩) | h
  · exact .inl (.inl (e _ _ h n))
  · exact .inl (.inr ⟨o, e _ _ h n⟩)
  · exact .inr h
/-- the items of what is drawn from: a list's, a tuple's, a text's signs -/
def Pick (K : PySem.W.Frag) (H : Hp) (l : V) (xs : List V) : Prop := (∃ a, l = .ref a ∧ (SqL K H a xs ∨ SqT K H a xs)) ∨ ∃ z : Str, l = .str z ∧ xs = z.cps.toList.map fun c => .str ⟨#[c]⟩
def spOf (K : PySem.W.Frag) : Sp := fun vs H Q _ => ∃ (p : Addr) (l : V) (xs : List V) (n : Nat), vs = [.ref p, l] ∧ Pot H p n ∧ n < 1000000 ∧ Pick K H l xs ∧ l ≠ .ref p ∧ 0 < xs.length ∧ xs.length < 1000 ∧
  ∀ (i : Nat) (v : V) (H' : Hp), xs[i]? = some v → Pot H' p (n + 1) → But p H H' → Q v H'
theorem But.seqT {p : Addr} {H H' : Hp} {a : Addr} {xs : List V} (e : But p H H') (n : a ≠ p) (h : SqT K H a xs) : SqT K H' a xs := by
  rcases h with (h | ⟨o, h⟩) | h
  · exact .inl (.inl (e _ _ h n))
  · exact .inl (.inr ⟨o, e _ _ h n⟩)
  · exact .inr h
theorem ok_of {f : Addr} {fd : FuncData} (F : Fun K "_law_of" "_law_of" s__law_of f fd) (T : Bare mg) (C : Callee P w K mg base 1 "_law_take" ["_law_pot", "_law_upto"] spTake) : FnOk P w K mg base CX0 2 f fd ["_law_pot", "_law_some"] (spOf K) := by
  refine F.ok sc__law_of (fun vs H Q E h => ?_) (fun cdv A outer s H vs Q E hr h => ?_)
  · obtain ⟨p, l, xs, n, rfl, _⟩ := h
    rfl
  obtain ⟨p, l, xs, n, rfl, hp, hn, hS, npl, l0, l1, q⟩ := h
  refine ⟨_, (pss_one (ps_ret (pe_ix ix_seq (pv 1) (pe_call C.ok hr rfl C.mg C.kp C.b .nil pass0 (pa_cons (pv 0) (pa_cons (pe_callB call_len (by rfl) T.len PySem.boot_len (pa_cons (pv 1) pa_nil)) pa_nil))) (fun _ _ => rfl)))), ?_⟩
  have hz : sizeLine = 16777216 := sizeLine_eq
  rcases hS with ⟨a, rfl, hS⟩ | ⟨z, rfl, rfl⟩
  · refine ⟨.ref a, rfl, .ref p, rfl, .ref a, rfl, .ref a, xs.length, rfl, ?_, p, (xs.length : Int), n, rfl, hp, hn, by omega, by omega, fun d H' d0 d1 hp' b => ?_⟩
    · rcases hS with hS | hS
      · exact .inl ⟨_, hS, rfl⟩
      · exact .inr ⟨_, hS, rfl⟩
    have hd : d.toNat < xs.length := by omega
    have na : a ≠ p := fun e => npl (by rw [e])
    have hat : atI xs d = some xs[d.toNat] := at_of (j := d.toNat) (by omega) (List.getElem?_eq_getElem hd)
    have hq := q d.toNat _ H' (List.getElem?_eq_getElem hd) hp' b
    rcases hS with hS | hS
    · exact .inl ⟨a, xs, d, _, rfl, rfl, b.seq na hS, hat, hq⟩
    · exact .inr (.inl ⟨a, xs, d, _, rfl, rfl, b.seqT na hS, hat, hq⟩)
  · rw [List.length_map] at l0 l1
    have hl : z.cps.toList.length = z.length := Array.length_toList
    refine ⟨.str z, rfl, .ref p, rfl, .str z, rfl, .str z, z.length, rfl, ⟨by omega, rfl⟩, p, (z.length : Int), n, rfl, hp, hn, by omega, by omega, fun d H' d0 d1 hp' b => ?_⟩
    obtain ⟨k, rfl⟩ : ∃ k : Nat, d = k := ⟨d.toNat, by omega⟩
    have hd : k < z.cps.toList.length := by omega
    refine .inr (.inr ⟨z, _, _, rfl, rfl, by omega, atI_nat (List.getElem?_eq_getElem hd), q k _ H' ?_ hp' b⟩)
    rw [List.getElem?_map, List.getElem?_eq_getElem hd]
    rfl
/-! ### _law_pot_of -/
theorem op_powB {X : Cx} : OpR X (binaryOp .Pow) (rI (fun i j => 0 ≤ j ∧ (Builtin.Int.intBits i : Int) * j ≤ 2 ^ 27) fun i j => .int (i ^ j.toNat)) := opI fun _ _ _ _ _ _ _ hc q => PyProof.Rows.pow_int hc.1 hc.2 q
def spPotOf (K : PySem.W.Frag) : Sp := fun vs H Q _ => ∃ (a : Addr) (ns : List Int) (j : Nat), vs = [.ref a, .int (j : Int)] ∧ SqL K H a (ns.map V.int) ∧ j ≤ 100 ∧
  ∀ (p : Addr) (H' : Hp), H p = none → Same H H' → Pot H' p 0 → Q (.ref p) H'
theorem ok_pot_of {f : Addr} {fd : FuncData} (F : Fun K "_law_pot_of" "_law_pot_of" s__law_pot_of f fd) (T : Bare mg) : FnOk P w K mg base CX0 1 f fd ["_law_script", "_law_k"] (spPotOf K) := by
  refine F.ok sc__law_pot_of (fun vs H Q E h => ?_) (fun cdv A outer s H vs Q E hr h => ?_)
  · obtain ⟨a, ns, j, rfl, _⟩ := h
    rfl
  obtain ⟨a, ns, j, rfl, hS, hj, q⟩ := h
  refine ⟨_, (pss_cons (ps_set (i := 2) sc__law_pot_of.nd rfl (Or.inl rfl) (pe_ifExp (pt_cmpR op_lt (pv 1) (pe_callB call_len_seq (by rfl) T.len PySem.boot_len (pa_cons (pv 0) pa_nil)) (nomark _)) (pe_ix ix_list (pv 0) (pv 1) (fun _ _ => rfl)) (pe_op op_add (pe_op op_mul pe_int (pv 1)) pe_int)))
(pss_cons (ps_set (i := 3) sc__law_pot_of.nd rfl (Or.inl rfl) (pe_op op_mul (pe_op op_mod (pe_callTy call_int1 (by rfl) T.int (by decide +kernel) (pa_cons (pe_callB call_abs (by rfl) T.abs (by decide +kernel) (pa_cons (pv 2) pa_nil)) pa_nil)) (pe_op op_powB (pe_op op_pow pe_int pe_int) pe_int)) (pe_callTy call_int1 (by rfl) T.int (by decide +kernel) (pa_cons (pe_cmpR op_ge (pe_callB call_abs (by rfl) T.abs (by decide +kernel) (pa_cons (pv 2) pa_nil)) (pe_op op_pow pe_int pe_int) (nomark _)) pa_nil))))
(pss_one (ps_ret (pe_lst (pa_cons (pv 3) (pa_cons (pe_op op_mod (pe_callTy call_int1 (by rfl) T.int (by decide +kernel) (pa_cons (pe_op op_add (pe_op op_add (pe_op op_mul (pe_op op_mod (pe_callTy call_int1 (by rfl) T.int (by decide +kernel) (pa_cons (pv 2) pa_nil)) pe_int) pe_int) (pe_op op_mul (pe_op op_mul pe_int (pv 1)) (pv 1))) pe_int) pa_nil)) pe_int) (pa_cons pe_int pa_nil)))))))), ?_⟩
  have hl : (ns.map V.int).length = ns.length := List.length_map _
  refine ⟨_, rfl, _, rfl, a, _, rfl, .inl hS, _, _, rfl, rfl, _, rfl, ?_⟩
  refine ite2 (fun h => ?_) (fun h => ?_)
  rotate_left
  refine ⟨_, rfl, 31, _, rfl, rfl, .inl ⟨by decide, by decide⟩, _, 17, rfl, rfl, ?_⟩
  dsimp only
  generalize (31 * (j : Int) + 17) = c
  rotate_left
  have hlt : j < ns.length := by
    have := of_decide_eq_true h
    rw [hl] at this
    omega
  refine ⟨_, rfl, _, rfl, a, _, _, _, rfl, rfl, hS, atI_nat (by rw [List.getElem?_map, List.getElem?_eq_getElem hlt] <;> rfl), ?_⟩
  generalize ns[j] = c
  all_goals
    refine ⟨.int c, rfl, c, rfl, .inl ⟨_, rfl, ?_⟩⟩
    refine ⟨10, 60, rfl, rfl, ⟨by decide, by decide, by decide⟩, 10 ^ 60, 5, rfl, rfl, ⟨by decide, by decide +kernel⟩, _, _, rfl, rfl, (by show (0 : Int) < (10 ^ 60) ^ 5; decide +kernel), ?_⟩
    refine ⟨.int c, rfl, c, rfl, 10, 18, rfl, rfl, ⟨by decide, by decide, by decide⟩, _, _, rfl, rfl, .inr ⟨_, rfl, ?_⟩⟩
    generalize ha : (if c < 0 then -c else c) = a0
    have ha0 : 0 ≤ a0 := by rw [← ha]; split <;> omega
    refine ⟨_, _, rfl, rfl, .inr (by split <;> decide), ?_⟩
    have own0 : 0 ≤ a0 % (10 ^ (60 : Int).toNat) ^ (5 : Int).toNat * (if decide ((10 : Int) ^ (18 : Int).toNat ≤ a0) = true then 1 else 0) := by
      refine Int.mul_nonneg (Int.emod_nonneg _ (by decide +kernel)) ?_
      split <;> decide
    -- return
    refine ⟨_, rfl, .int c, rfl, .inl ⟨c, rfl, c, _, rfl, rfl, (by show (0 : Int) < 2305843009213693951; decide), _, _, rfl, rfl, .inr ⟨by decide, by decide⟩, ?_⟩⟩
    refine ⟨.int (j : Int), rfl, 7043, j, rfl, rfl, .inl ⟨by decide, by decide⟩, .int (j : Int), rfl, _, j, rfl, rfl, .inr ⟨by omega, by omega⟩, ?_⟩
    refine ⟨_, _, rfl, rfl, _, 29, rfl, rfl, .inl ⟨_, rfl, _, _, rfl, rfl, (by show (0 : Int) < 2305843009213693921; decide), small (by show 3 ≤ 1000; decide), fun p hp => ?_⟩⟩
    refine q p _ hp (same_new hp _) ⟨_, _, 0, upd_same, own0, Int.emod_nonneg _ (by decide), ?_, by decide, by decide⟩
    exact Int.lt_trans (Int.emod_lt_of_pos _ (by decide)) (by decide)
end
end Fs
set_option Elab.async false
set_option linter.all false
set_option maxRecDepth 100000
set_option maxHeartbeats 1000000
namespace Fs
open PySem L2
/-! ### data that can be shown, by sizes -/
structure Ok (N M : Nat) (d : PyData) : Prop where
  sh : d.showable = true
  nd : d.hasDict = false
  dp : d.depth ≤ M
  len : d.shown.length ≤ N
theorem Ok.mono {N M N' M' : Nat} {d : PyData} (h : Ok N M d) (a : N ≤ N') (b : M ≤ M') : Ok N' M' d := ⟨h.sh, h.nd, Nat.le_trans h.dp b, Nat.le_trans h.len a⟩
theorem Ok.dok {N M : Nat} {d : PyData} (h : Ok N M d) : Dok N M d := ⟨h.sh, .inl h.nd, h.dp, h.len⟩
theorem ok_non {N M : Nat} (h : 5 ≤ N) : Ok N M .none := ⟨by simp only [PyData.showable], by simp only [PyData.hasDict], by simp only [PyData.depth]; omega, by
  have e : (PyData.shown .none).length = 4 := rfl
  omega⟩
theorem ok_bool {N M : Nat} (b : Bool) (h : 5 ≤ N) : Ok N M (.bool b) := ⟨by simp only [PyData.showable], by simp only [PyData.hasDict], by simp only [PyData.depth]; omega, by
  have e : (PyData.shown (.bool b)).length ≤ 5 := by cases b <;> decide
  omega⟩
theorem ok_int {N M : Nat} {i : Int} (h : i.natAbs < 10000000000000000000) (hN : 20 ≤ N) : Ok N M (.int i) := ⟨by
  simp only [PyData.showable]
  refine decide_eq_true ?_
  by_cases z : i.natAbs = 0
  · rw [z]; decide
  · rw [Nat.log2_lt z]
    exact Nat.lt_of_lt_of_le (Nat.lt_of_lt_of_le h (by decide : 10000000000000000000 ≤ 2 ^ 64)) (Nat.pow_le_pow_right (by decide) (by decide)), by simp only [PyData.hasDict], by simp only [PyData.depth]; omega, by
  simp only [PyData.shown]
  have e := int_text_length_le10 (k := 19) (by decide) h
  show (Str.ofString (toString i)).length ≤ N
  rw [ofString_length]
  omega⟩
theorem ok_str {n N M : Nat} {z : Str} (h : ∀ c ∈ tl z, c < 16 ^ 8) (hz : z.length ≤ n) (hN : 10 * n + 2 ≤ N) : Ok N M (.str z) := ⟨by simp only [PyData.showable], by simp only [PyData.hasDict], by simp only [PyData.depth]; omega, by
  simp only [PyData.shown]
  have := StrLaws.reprText_len z h
  omega⟩
theorem sh_all : ∀ {ds : List PyData}, (∀ d ∈ ds, d.showable = true) → PyData.showableAll ds = true
  | [], _ => by simp only [PyData.showableAll]
  | d :: ds, h => by
    simp only [PyData.showableAll, Bool.and_eq_true]
    exact ⟨h d List.mem_cons_self, sh_all fun x hx => h x (List.mem_cons_of_mem _ hx)⟩
theorem nd_all : ∀ {ds : List PyData}, (∀ d ∈ ds, d.hasDict = false) → PyData.hasDictAll ds = false
  | [], _ => by simp only [PyData.hasDictAll]
  | d :: ds, h => by
    simp only [PyData.hasDictAll, Bool.or_eq_false_iff]
    exact ⟨h d List.mem_cons_self, nd_all fun x hx => h x (List.mem_cons_of_mem _ hx)⟩
theorem dp_all {M : Nat} : ∀ {ds : List PyData}, (∀ d ∈ ds, d.depth ≤ M) → PyData.depthAll ds ≤ M
  | [], _ => by simp only [PyData.depthAll]; omega
  | d :: ds, h => by
    have h1 := h d List.mem_cons_self
    have h2 := dp_all fun x hx => h x (List.mem_cons_of_mem _ hx)
    simp only [PyData.depthAll]
    omega
/-- the signs of all, and two for each -/
def lens (ds : List PyData) : Nat := (ds.map fun d => d.shown.length + 2).sum
theorem lens_shown : ∀ (ds : List PyData), ((PyData.shownAll ds).map (·.length)).sum + 2 * (PyData.shownAll ds).length = lens ds
  | [] => by simp only [PyData.shownAll]; rfl
  | d :: ds => by
    have ih := lens_shown ds
    unfold lens at ih ⊢
    simp only [PyData.shownAll, List.map_cons, List.sum_cons, List.length_cons]
    omega
theorem lens_cons (d : PyData) (ds : List PyData) : lens (d :: ds) = d.shown.length + 2 + lens ds := by
  unfold lens
  rw [List.map_cons, List.sum_cons]
theorem lens_nil : lens [] = 0 := rfl
theorem lens_append (ds es : List PyData) : lens (ds ++ es) = lens ds + lens es := by
  unfold lens
  rw [List.map_append, List.sum_append]
theorem lens_le {N : Nat} : ∀ {ds : List PyData}, (∀ d ∈ ds, d.shown.length ≤ N) → lens ds ≤ ds.length * (N + 2)
  | [], _ => Nat.zero_le _
  | d :: ds, h => by
    have h1 := h d List.mem_cons_self
    have h2 := lens_le fun x hx => h x (List.mem_cons_of_mem _ hx)
    rw [lens_cons, List.length_cons, Nat.succ_mul]
    omega
theorem ok_tup {N M : Nat} {ds : List PyData} (h : ∀ d ∈ ds, ∃ N', Ok N' M d) (l : lens ds + 3 ≤ N) : Ok N (M + 1) (.tuple ds) := ⟨by
  simp only [PyData.showable]
  exact sh_all fun d hd => (h d hd).elim fun _ k => k.sh, by
  simp only [PyData.hasDict]
  exact nd_all fun d hd => (h d hd).elim fun _ k => k.nd, by
  simp only [PyData.depth]
  have := dp_all fun d hd => (h d hd).elim fun _ k => k.dp
  omega, by
  simp only [PyData.shown]
  have := tupleText_len_le (PyData.shownAll ds)
  have := lens_shown ds
  omega⟩
theorem ok_lst {N M : Nat} {ds : List PyData} (h : ∀ d ∈ ds, ∃ N', Ok N' M d) (l : lens ds + 3 ≤ N) : Ok N (M + 1) (.list ds) := ⟨by
  simp only [PyData.showable]
  exact sh_all fun d hd => (h d hd).elim fun _ k => k.sh, by
  simp only [PyData.hasDict]
  exact nd_all fun d hd => (h d hd).elim fun _ k => k.nd, by
  simp only [PyData.depth]
  have := dp_all fun d hd => (h d hd).elim fun _ k => k.dp
  omega, by
  simp only [PyData.shown]
  have := listText_len_le (PyData.shownAll ds)
  have := lens_shown ds
  omega⟩
/-! ### drawn far texts -/
def Small (z : Str) : Prop := 1 ≤ z.length ∧ z.length ≤ 20 ∧ ofL z = true
theorem Small.low {z : Str} (h : Small z) : ∀ c ∈ tl z, c < 16 ^ 8 := fun c hc => by
  have z := List.all_eq_true.mp h.2.2 c hc
  exact (by decide +kernel : ∀ x ∈ tl alpha, x < 16 ^ 8) c (of_decide_eq_true z)
def Tale : Nat → PyData → Prop
  | 0, _ => False
  | k + 1, d => ∃ ds, d = .tuple ds ∧ 1 ≤ ds.length ∧ ds.length ≤ 6 ∧ ∀ x ∈ ds, ∃ p t, x = .tuple [p, .int t] ∧ 1 ≤ t ∧ t ≤ 1000000000000000000 ∧ ((∃ z, p = .str z ∧ Small z) ∨ Tale k p)
def tn : Nat → Nat
  | 0 => 254
  | k + 1 => 6 * (tn k + 92) + 3
def nb : Nat → Nat
  | 0 => 254
  | k + 1 => 13 * (nb k + 92) + 3
theorem tn_nb : ∀ k, tn k ≤ nb k
  | 0 => Nat.le_refl _
  | k + 1 => by
    have := tn_nb k
    show 6 * (tn k + 92) + 3 ≤ 13 * (nb k + 92) + 3
    omega
theorem nb_ge : ∀ k, 254 ≤ nb k
  | 0 => Nat.le_refl _
  | k + 1 => by
    have := nb_ge k
    show 254 ≤ 13 * (nb k + 92) + 3
    omega
theorem tn_ge : ∀ k, 254 ≤ tn k
  | 0 => Nat.le_refl _
  | k + 1 => by
    have := tn_ge k
    show 254 ≤ 6 * (tn k + 92) + 3
    omega
theorem tnat {t : Int} (h1 : 1 ≤ t) (h2 : t ≤ 1000000000000000000) : t.natAbs < 10000000000000000000 := by omega
theorem mem2 {α : Type} {a b x : α} (h : x ∈ [a, b]) : x = a ∨ x = b := by simpa using h
theorem mem3 {α : Type} {a b c x : α} (h : x ∈ [a, b, c]) : x = a ∨ x = b ∨ x = c := by simpa using h
/-- a pair, its piece shown in so many signs -/
theorem ok_pair2 {N M N2 : Nat} {p t : PyData} (hp : Ok N M p) (ht : Ok 42 M t) (hN : N + 49 ≤ N2) : Ok N2 (M + 1) (.tuple [p, t]) := by
  refine ok_tup (fun d hd => ?_) ?_
  · rcases mem2 hd with rfl | rfl
    · exact ⟨_, hp⟩
    · exact ⟨_, ht⟩
  · rw [lens_cons, lens_cons, lens_nil]
    have := hp.len
    have := ht.len
    omega
theorem tale_ok : ∀ {k : Nat} {d : PyData}, Tale k d → Ok (tn k) (2 * k) d
  | 0, _, h => h.elim
  | k + 1, _, ⟨ds, rfl, h1, h2, h⟩ => by
    have hp : ∀ x ∈ ds, Ok (tn k + 50) (2 * k + 1) x := fun x hx => by
      obtain ⟨p, t, rfl, t1, t2, hq⟩ := h x hx
      refine ok_pair2 (N := tn k) ?_ (ok_int (tnat t1 t2) (by decide)) (by omega)
      rcases hq with ⟨z, rfl, hz⟩ | hq
      · exact ok_str hz.low hz.2.1 (by have := tn_ge k; omega)
      · exact tale_ok hq
    refine (ok_tup (N := tn (k + 1)) (fun d hd => ⟨_, hp d hd⟩) ?_).mono (Nat.le_refl _) (by omega)
    have := lens_le fun d hd => (hp d hd).len
    have : ds.length * (tn k + 50 + 2) ≤ 6 * (tn k + 50 + 2) := Nat.mul_le_mul_right _ h2
    show lens ds + 3 ≤ 6 * (tn k + 92) + 3
    omega
theorem nl_all : ∀ {ds : List PyData}, (∀ d ∈ ds, noList d = true) → noListAll ds = true
  | [], _ => by simp only [noListAll]
  | d :: ds, h => by
    simp only [noListAll, Bool.and_eq_true]
    exact ⟨h d List.mem_cons_self, nl_all fun x hx => h x (List.mem_cons_of_mem _ hx)⟩
theorem tale_nl : ∀ {k : Nat} {d : PyData}, Tale k d → noList d = true
  | 0, _, h => h.elim
  | k + 1, _, ⟨ds, rfl, h1, h2, h⟩ => by
    simp only [noList]
    refine nl_all fun x hx => ?_
    obtain ⟨p, t, rfl, _, _, hq⟩ := h x hx
    have hp : noList p = true := by
      rcases hq with ⟨z, rfl, _⟩ | hq
      · simp only [noList]
      · exact tale_nl hq
    simp only [noList, noListAll, hp]
    rfl
/-! ### data without lists stand where a list is changed -/
theorem seqT_but {K : PySem.W.Frag} {p a : Addr} {H H' : Hp} {xs : List V} (e : But p H H') (hp : ∃ ys, H p = some (.lst ys)) (h : SqT K H a xs) : SqT K H' a xs := by
  obtain ⟨ys, hp⟩ := hp
  rcases h with (h | ⟨o, h⟩) | h
  · refine .inl (.inl (e _ _ h fun z => ?_))
    rw [z, hp] at h
    cases h
  · refine .inl (.inr ⟨o, e _ _ h fun z => ?_⟩)
    rw [z, hp] at h
    cases h
  · exact .inr h
mutual
theorem Dv.but {K : PySem.W.Frag} {p : Addr} {H H' : Hp} (e : But p H H') (hp : ∃ ys, H p = some (.lst ys)) : ∀ {d : PyData} {v : V}, noList d = true → Dv K H v d → Dv K H' v d
  | _, _, _, .non => .non
  | _, _, _, .bl b => .bl b
  | _, _, _, .int i => .int i
  | _, _, _, .str x h => .str x h
  | _, _, n, .lst h g => by simp only [noList] at n; cases n
  | _, _, n, .tup h g => .tup (seqT_but e hp h) (DvAll.but e hp (by simpa only [noList] using n) g)
  | _, _, _, .dct h => .dct (e _ _ h fun z => by
      obtain ⟨ys, hp⟩ := hp
      rw [z, hp] at h
      cases h)
theorem DvAll.but {K : PySem.W.Frag} {p : Addr} {H H' : Hp} (e : But p H H') (hp : ∃ ys, H p = some (.lst ys)) : ∀ {ds : List PyData} {vs : List V}, noListAll ds = true → DvAll K H vs ds → DvAll K H' vs ds
  | _, _, _, .nil => .nil
  | _, _, n, .cons h g => by
    simp only [noListAll, Bool.and_eq_true] at n
    exact .cons (Dv.but e hp n.1 h) (DvAll.but e hp n.2 g)
end
/-! ### the heap without the pot -/
def hid (l : List Addr) (H : Hp) : Hp := fun b => if b ∈ l then none else H b
theorem hid_get {l : List Addr} {H : Hp} {b : Addr} {o : HO} : hid l H b = some o ↔ b ∉ l ∧ H b = some o := by
  unfold hid
  by_cases h : b ∈ l
  · rw [if_pos h]
    exact ⟨fun z => (by cases z), fun z => absurd h z.1⟩
  · rw [if_neg h]
    exact ⟨fun z => ⟨h, z⟩, fun z => z.2⟩
theorem hid_same {l : List Addr} {H : Hp} : Same (hid l H) H := fun b o h => (hid_get.mp h).2
theorem But.hid {p : Addr} {H H' : Hp} {l : List Addr} (e : But p H H') (hp : p ∈ l) : Same (hid l H) (hid l H') := fun b o h => by
  obtain ⟨n, h⟩ := hid_get.mp h
  exact hid_get.mpr ⟨n, e b o h fun z => n (z ▸ hp)⟩
theorem Same.hid {H H' : Hp} {l : List Addr} (e : Same H H') : Same (hid l H) (hid l H') := fun b o h => by
  obtain ⟨n, h⟩ := hid_get.mp h
  exact hid_get.mpr ⟨n, e b o h⟩
theorem Pot.is {H : Hp} {p : Addr} {n : Nat} (h : Pot H p n) : ∃ ys, H p = some (.lst ys) := by
  obtain ⟨o, b, c, e, _⟩ := h
  exact ⟨_, e⟩
theorem hid_new {H : Hp} {p q : Addr} {o : HO} {n : Nat} (hp : Pot H p n) (hq : H q = none) : hid [p] (upd H q o) q = some o := by
  obtain ⟨u, hp⟩ := hp.is
  exact hid_get.mpr ⟨fun z => ne_of_none hp hq (List.mem_singleton.mp z).symm, upd_same⟩
theorem Pot.new {H : Hp} {p q : Addr} {n : Nat} (h : Pot H p n) (hq : H q = none) (o : HO) : Pot (upd H q o) p n := h.same (same_new hq o)
theorem same_but {p : Addr} {H H1 H2 : Hp} (a : Same H H1) (b : But p H1 H2) : But p H H2 := (But.of_same a).trans b
/-- data without lists, the pot hidden -/
theorem Dv.hidP {K : PySem.W.Frag} {H : Hp} {p : Addr} {n : Nat} {d : PyData} {v : V} (hp : Pot H p n) (nl : noList d = true) (h : Dv K H v d) : Dv K (Fs.hid [p] H) v d :=
  Dv.but (p := p) (fun b o e z => hid_get.mpr ⟨fun m => z (List.mem_singleton.mp m), e⟩) hp.is nl h
end Fs
set_option Elab.async false
set_option linter.all false
set_option maxRecDepth 100000
set_option maxHeartbeats 2000000
namespace Fs
open PySem PySem.Spec PyProof.Rows L2
/-! ### promises that hold where no repr is under way -/
structure FnOkG (P : Program) (w : World) (K : PySem.W.Frag) (mg : Str → Option Value)
    (base : Heap) (k : Nat) (f : Addr) (fd : FuncData) (ps : List Str) (sp : Sp) : Prop where
  size : ∀ vs H Q E, sp vs H Q E → vs.length = ps.length
  runs : ∀ (A : Around) (outer : List Env) (s : Shared) (H : Hp) (args : Args) (us : List Value) (vs : List V)
    (Q : VK) (E : XK), A.guards = some [] → Room k A → Env0 P w K mg base A outer s H →
    BindsTo s fd args (ps.zip us) → Vals vs us → sp vs H Q E →
    codeAny (model P w) A (.call (.ref f) args) (CR CX0 outer P w H s Q E) s
theorem Fun.okG {P : Program} {w : World} {K : PySem.W.Frag} {mg : Str → Option Value} {base : Heap}
    {x qual : Str} {st : Stmt} {f : Addr} {fd : FuncData} {N ps : List Str} {k : Nat} {sp : Sp}
    (F : Fun K x qual st f fd) (S : FnScope N ps (defScope st)) (size : ∀ vs H Q E, sp vs H Q E → vs.length = ps.length)
    (body : ∀ (cdv : Value) (A : Around) (outer : List Env) (s : Shared) (H : Hp) (vs : List V) (Q : VK) (E : XK),
      A.guards = some [] → Room k (A.deeper (envOfC qual (defScope st) s.heap.objs.size f cdv)) → sp vs H Q E →
      ∃ t, PSs (cxOf CX0 P w K mg base N qual (defScope st) f cdv A outer s H E).nox (defBody st) t ∧
        t { nx := fun _ H' => Q .non H', rt := Q } (start N vs) H) :
    FnOkG P w K mg base (k + 1) f fd ps sp := by
  obtain ⟨oc, od, kV, doc, pm, an, cdv, ct, osl, rfl, inK, hcd⟩ := F.ex
  refine ⟨size, fun A outer s H args us vs Q E hgu hr e0 hb rv hsp => ?_⟩
  have lenV := size _ _ _ _ hsp
  have KX : K.In s.heap := e0.mod.kin.keeps fun b o e =>
    (e0.bs b o e).1
  have lims : s.heap.NoLimit := e0.mod.nolimit.keeps fun b o e =>
    (e0.bs b o e).1
  refine codeAny_call_function hr.depth (KX _ _ inK) rfl S.co S.gen rfl
    (PySem.W.codeRec_of KX hcd) (hb _ _ _ _ ?_)
  refine wpAny_newFunctionEnv_cells S.kind (fun y hy => ?_) fun env he s1 call => ?_
  · rcases S.par y.1 (List.of_mem_zip (show (y.1, y.2) ∈ ps.zip us from hy)).1 with q | q
    · exact .inl q
    · exact .inr ⟨q, PySem.W.cellsFrom_some _ _ _ (.inl q)⟩
  · subst he
    refine ⟨lims.keeps call.toInCall.keep, codeAny_func ?_⟩
    obtain ⟨t, ht, hq⟩ := body cdv A outer s H vs Q E hgu (hr.deeper _) hsp
    refine wpAny_mono (ht.nox.run [] s1 (start N vs) H _ (inv_start S hr.hd e0 lenV rv call) hq) (fun fl s' ends => ?_)
      fun e s' ends => ends
    match fl, ends with
    | .ret u, ⟨v, σ', H', J, rel, q⟩ => exact ⟨v, H', J.os, J.bare, J.base, J.hok, rel, q⟩
    | .next, ⟨σ', H', J, q⟩ => exact ⟨.non, H', J.os, J.bare, J.base, J.hok, rfl, q⟩
    | .brk, ⟨_, _, _, q⟩ => exact q.elim
    | .cont, ⟨_, _, _, q⟩ => exact q.elim
section
variable {X : Cx}
/-- f(e, ..) of such a def -/
theorem pe_callG {f : Addr} {fd : FuncData} {ps : List Str} {sp : Sp} {k : Nat} {x : Str} {p pos : Pos} {e : Expr} {es : List Expr} {t : TA}
    (F : FnOkG X.prog X.w X.K X.mg X.base k f fd ps sp) (hgu : X.A.guards = some []) (hr : Room k X.A) (hg : Gl X x)
    (hm : X.mg x = some (.ref f)) (hk : PySem.W.keepIn X.K (.ref f) = true) (hb : Binds X.K fd ps [])
    (ha : PA X (e :: es) t) (hdb : (x == ("__debug__" : Str)) = false := by decide)
    (he : starEach (e :: es) X.env = (false, eval e X.env) :: starEach es X.env := by rfl)
    (hpl : (backTo pos (starEach es X.env)).any (·.1) = false := by rfl) :
    PE X (.Call (.Name x p) (e :: es) [] pos) (tCall sp [] (fun _ _ _ => False) t) := by
  refine ⟨fun pins s σ H Q I h => wpAny_Call_Name_kw (ld_glob I hg hm ?_ hdb)⟩
  refine PySem.W.callWith_K (h₀ := X.base) I.ok.mod.kin hk
    (thn (ha.run pos pins s σ H _ I h) fun us s1 ⟨vs, H1, I1, rv, q⟩ => ⟨I1.kIn, ?_⟩) he hpl
  have q' : sp (vs ++ []) H1 Q (fun _ _ _ => False) := q
  rw [List.append_nil] at q'
  have lenU : us.length = ps.length := by
    rw [← rv.length]
    exact F.size _ _ _ _ q'
  have bind := hb s1 us I1.kIn (by simpa using lenU)
  rw [List.append_nil] at bind
  refine wpAny_call (codeAny_mono (F.runs X.A X.stack s1 H1 ⟨us, []⟩ us vs Q _ hgu hr I1.env0 bind rv q') fun r s' ends => ?_)
  match r, ends with
  | .error e, ends => exact ends.elim
  | .ok (.ret u), ends => exact I1.after ends
  | .ok .next, ends => exact ends.elim
  | .ok .brk, ends => exact ends.elim
  | .ok .cont, ends => exact ends.elim
end
end Fs
set_option Elab.async false
set_option linter.all false
set_option maxRecDepth 100000
set_option maxHeartbeats 1000000
namespace Fs
open PySem PySem.NumText L2
/-! ### signs, texts -/
abbrev dgs : Str := "0123456789"
def isA (c : Nat) : Bool := decide (c ∈ tl alpha)
def isD (c : Nat) : Bool := decide (c ∈ tl dgs)
theorem tl_alpha : tl alpha = [97, 98, 99, 100, 101, 102, 103, 104, 105, 106, 107, 108, 109, 110, 111, 112, 113, 114, 115, 116, 117, 118, 119, 120, 121, 122] := by decide +kernel
theorem tl_dgs : tl dgs = [48, 49, 50, 51, 52, 53, 54, 55, 56, 57] := by decide +kernel
theorem isA_iff (c : Nat) : isA c = true ↔ 97 ≤ c ∧ c ≤ 122 := by
  unfold isA
  rw [decide_eq_true_iff, tl_alpha]
  simp only [List.mem_cons, List.not_mem_nil, or_false]
  omega
theorem isD_iff (c : Nat) : isD c = true ↔ 48 ≤ c ∧ c ≤ 57 := by
  unfold isD
  rw [decide_eq_true_iff, tl_dgs]
  simp only [List.mem_cons, List.not_mem_nil, or_false]
  omega
def tx (l : List Nat) : Str := ⟨l.toArray⟩
theorem tl_tx (l : List Nat) : tl (tx l) = l := rfl
theorem tx_tl (z : Str) : tx (tl z) = z := by
  cases z
  rfl
theorem len_tl (z : Str) : z.length = (tl z).length := Array.length_toList.symm
theorem tx_len (l : List Nat) : (tx l).length = l.length := len_tl _
theorem tw_all (p : Nat → Bool) : ∀ (l : List Nat), ∀ c ∈ l.takeWhile p, p c = true
  | [], _, h => nomatch h
  | a :: l, c, h => by
    rw [List.takeWhile_cons] at h
    cases e : p a with
    | false => rw [e] at h; cases h
    | true =>
      rw [e] at h
      rcases List.mem_cons.mp h with rfl | h
      · exact e
      · exact tw_all p l c h
theorem tw_append (p : Nat → Bool) : ∀ (l r : List Nat), (∀ c ∈ l, p c = true) → (∀ c, r.head? = some c → p c = false) → (l ++ r).takeWhile p = l ∧ (l ++ r).dropWhile p = r
  | [], r, _, h => by
    cases r with
    | nil => exact ⟨rfl, rfl⟩
    | cons a r =>
      have e := h a rfl
      show (a :: r).takeWhile p = [] ∧ (a :: r).dropWhile p = a :: r
      rw [List.takeWhile_cons, List.dropWhile_cons, e]
      exact ⟨rfl, rfl⟩
  | a :: l, r, g, h => by
    have e := g a List.mem_cons_self
    have ih := tw_append p l r (fun c hc => g c (List.mem_cons_of_mem _ hc)) h
    show (a :: (l ++ r)).takeWhile p = a :: l ∧ (a :: (l ++ r)).dropWhile p = r
    rw [List.takeWhile_cons, List.dropWhile_cons, e]
    exact ⟨congrArg _ ih.1, ih.2⟩
/-! ### numbers -/
theorem dig_of {l : List Nat} (h : ∀ c ∈ l, isD c = true) : AllDigits l := fun c hc => (isD_iff c).mp (h c hc)
theorem dv_lt : ∀ (cs : List Nat) (a : Nat), AllDigits cs → cs.foldl (fun acc c => acc * 10 + (c - 48)) a < (a + 1) * 10 ^ cs.length
  | [], a, _ => by simp
  | c :: cs, a, h => by
    have ih := dv_lt cs (a * 10 + (c - 48)) h.tail
    have hc := h.head
    show cs.foldl _ (a * 10 + (c - 48)) < (a + 1) * 10 ^ (cs.length + 1)
    have e : (a + 1) * 10 ^ (cs.length + 1) = ((a + 1) * 10) * 10 ^ cs.length := by rw [Nat.pow_succ, Nat.mul_assoc, Nat.mul_comm (10 ^ _) 10]
    rw [e]
    exact Nat.lt_of_lt_of_le ih (Nat.mul_le_mul_right _ (by omega))
theorem digitsVal_lt {cs : List Nat} (h : AllDigits cs) : digitsVal cs < 10 ^ cs.length := by
  have z := dv_lt cs 0 h
  rw [Nat.zero_add, Nat.one_mul] at z
  exact z
def numP (w : List Nat) : PyData := if w = [] ∨ 25 < w.length ∨ (w.head? = some 48 ∧ w ≠ [48]) then .none else .int (digitsVal w : Nat)
def numL (w : List Nat) : Option Nat := if w = [] ∨ w.head? = some 48 ∨ 30 < w.length then none else some (digitsVal w)
theorem numP_numL {w : List Nat} {t : Int} (h : numP w = .int t) (h1 : 1 ≤ t) : numL w = some t.toNat := by
  unfold numP at h
  by_cases c : w = [] ∨ 25 < w.length ∨ (w.head? = some 48 ∧ w ≠ [48])
  · rw [if_pos c] at h
    cases h
  rw [if_neg c] at h
  cases h
  unfold numL
  rw [if_neg]
  · rfl
  rintro (z | z | z)
  · exact c (.inl z)
  · refine c (.inr (.inr ⟨z, fun e => ?_⟩))
    rw [e] at h1
    exact absurd h1 (by decide)
  · exact c (.inr (.inl (by omega)))
theorem numL_numP {w : List Nat} {k : Nat} (hd : AllDigits w) (h : numL w = some k) (h2 : k ≤ 1000000000000000000) : numP w = .int (k : Nat) := by
  unfold numL at h
  by_cases c : w = [] ∨ w.head? = some 48 ∨ 30 < w.length
  · rw [if_pos c] at h
    cases h
  rw [if_neg c] at h
  cases h
  unfold numP
  cases w with
  | nil => exact absurd (.inl rfl) c
  | cons a r =>
    have ha : a ≠ 48 := fun e => c (.inr (.inl (by rw [e]; rfl)))
    have hd0 := hd.head
    have e := toDigits_digitsVal r.length (a :: r) rfl hd (.inr ⟨a, r, rfl, by omega⟩)
    have l := PyProof.Rows.digits10_le (k := 19) (n := digitsVal (a :: r)) (by decide) (by omega)
    rw [e, List.length_map] at l
    rw [if_neg]
    rintro (z | z | z)
    · cases z
    · omega
    · exact ha (Option.some.inj z.1)
def numT (t : Int) : List Nat := tl (Str.ofString (toString t))
theorem numT_of {t : Int} (h1 : 1 ≤ t) (h2 : t ≤ 1000000000000000000) : (∀ c ∈ numT t, isD c = true) ∧ numT t ≠ [] ∧ (numT t).length ≤ 19 ∧ (numT t).head? ≠ some 48 ∧ digitsVal (numT t) = t.toNat := by
  obtain ⟨m, rfl⟩ := Int.eq_ofNat_of_zero_le (show 0 ≤ t by omega)
  have e : numT ((m : Nat) : Int) = (Nat.toDigits 10 m).map Char.toNat := PySem.W.KIN.signs_num m
  have hd : ∀ c ∈ numT ((m : Nat) : Int), isD c = true := fun c hc => by
    rw [e] at hc
    obtain ⟨ch, hch, rfl⟩ := List.mem_map.mp hc
    exact (isD_iff _).mpr (PyProof.Rows.digit_range (Nat.isDigit_of_mem_toDigits (by decide) (by decide) hch))
  have hl : (numT ((m : Nat) : Int)).length = (Nat.toDigits 10 m).length := by rw [e, List.length_map]
  have hv : digitsVal (numT ((m : Nat) : Int)) = m := by rw [e]; exact PySem.W.KIN.val_back m
  have lo : 1 ≤ (Nat.toDigits 10 m).length := PyProof.Rows.tDigits_len_ge 10 m
  have hi : (Nat.toDigits 10 m).length ≤ 19 := PyProof.Rows.digits10_le (by decide) (by omega)
  refine ⟨hd, fun z => ?_, by omega, fun z => ?_, by rw [hv]; rfl⟩
  · rw [z] at hl
    rw [← hl] at lo
    exact absurd lo (by decide)
  · cases w : numT ((m : Nat) : Int) with
    | nil => rw [w] at z; cases z
    | cons a r =>
      rw [w] at z hv hl hd
      obtain rfl := Option.some.inj z
      rw [digitsVal_zero] at hv
      have lt := digitsVal_lt (dig_of fun c hc => hd c (List.mem_cons_of_mem _ hc) : AllDigits r)
      rw [hv] at lt
      rw [List.length_cons] at hl
      cases r with
      | nil =>
        have : m < 1 := lt
        omega
      | cons b r =>
        have := PyProof.Rows.digits10_le (k := (b :: r).length) (by rw [List.length_cons]; omega) lt
        omega
theorem numP_numT {t : Int} (h1 : 1 ≤ t) (h2 : t ≤ 1000000000000000000) : numP (numT t) = .int t := by
  obtain ⟨a, b, c, d, e⟩ := numT_of h1 h2
  unfold numP
  rw [if_neg, e, Int.toNat_of_nonneg (by omega)]
  rintro (z | z | z)
  · exact b z
  · omega
  · exact d z.1
/-! ### the two readers -/
abbrev PR := Option (PyData × List Nat)
abbrev PsR := Option (List PyData × List Nat)
def strP (r : List Nat) : PR := some (.str (tx (r.takeWhile isA)), r.dropWhile isA)
def pieceP (inner : List Nat → PsR) (r : List Nat) : PR :=
  if r.head? = some 40 then (inner r.tail).bind fun x => if x.2.head? = some 41 then some (.tuple x.1, x.2.tail) else none else strP r
def pieceN (r : List Nat) : PR := if r.head? = some 40 then none else strP r
def pairP (piece : List Nat → PR) (r : List Nat) : PR :=
  (piece r).bind fun x => if x.2.head? = some 42 then some (.tuple [x.1, numP (x.2.tail.takeWhile isD)], x.2.tail.dropWhile isD) else none
def pairL (piece : List Nat → PR) (r : List Nat) : PR :=
  (piece r).bind fun x => if x.2.head? = some 42 then (numL (x.2.tail.takeWhile isD)).map fun k => (.tuple [x.1, .int (k : Nat)], x.2.tail.dropWhile isD) else none
def many (pair : List Nat → PR) : Nat → List Nat → PsR
  | 0, _ => none
  | n + 1, r => (pair r).bind fun x => if x.2.head? = some 43 then (many pair n x.2.tail).map fun y => (x.1 :: y.1, y.2) else some ([x.1], x.2)
def progPairs : Nat → List Nat → PsR
  | 0, r => many (pairP strP) (r.length + 1) r
  | g + 1, r => many (pairP (pieceP (progPairs g))) (r.length + 1) r
def lawPairs : Nat → List Nat → PsR
  | 0, r => many (pairL pieceN) (r.length + 1) r
  | h + 1, r => many (pairL (pieceP (lawPairs h))) (r.length + 1) r
def progPiece : Nat → List Nat → PR
  | 0 => strP
  | g + 1 => pieceP (progPairs g)
def lawPiece : Nat → List Nat → PR
  | 0 => pieceN
  | h + 1 => pieceP (lawPairs h)
theorem progPairs_eq (g : Nat) (r : List Nat) : progPairs g r = many (pairP (progPiece g)) (r.length + 1) r := by
  cases g <;> rfl
theorem lawPairs_eq (g : Nat) (r : List Nat) : lawPairs g r = many (pairL (lawPiece g)) (r.length + 1) r := by
  cases g <;> rfl
theorem many_move {a b : List Nat → PR} {good : PyData → Prop} (h : ∀ r x r1, a r = some (x, r1) → good x → b r = some (x, r1)) : ∀ n r ds r1, many a n r = some (ds, r1) → (∀ x ∈ ds, good x) → many b n r = some (ds, r1)
  | 0, _, _, _, e, _ => nomatch e
  | n + 1, r, ds, r1, e, g => by
    unfold many at e ⊢
    cases e1 : a r with
    | none => rw [e1] at e; cases e
    | some x =>
      obtain ⟨x, r2⟩ := x
      rw [e1] at e
      have e : (if r2.head? = some 43 then (many a n r2.tail).map fun y => (x :: y.1, y.2) else some ([x], r2)) = some (ds, r1) := e
      by_cases hp : r2.head? = some 43
      · rw [if_pos hp] at e
        cases e2 : many a n r2.tail with
        | none => rw [e2] at e; cases e
        | some y =>
          obtain ⟨ys, r3⟩ := y
          rw [e2] at e
          cases e
          rw [h r x r2 e1 (g x List.mem_cons_self)]
          show (if r2.head? = some 43 then (many b n r2.tail).map fun y => (x :: y.1, y.2) else some ([x], r2)) = _
          rw [if_pos hp, many_move h n _ ys r3 e2 fun z hz => g z (List.mem_cons_of_mem _ hz)]
          rfl
      · rw [if_neg hp] at e
        have q := Option.some.inj e
        have q1 : [x] = ds := congrArg Prod.fst q
        have q2 : r2 = r1 := congrArg Prod.snd q
        subst q1
        rw [← q2]
        rw [h r x r2 e1 (g x List.mem_cons_self)]
        show (if r2.head? = some 43 then (many b n r2.tail).map fun y => (x :: y.1, y.2) else some ([x], r2)) = _
        rw [if_neg hp]
/-- a piece of a pair that counts -/
def Pg (f : PyData → Nat) (p : PyData) : Prop := (∃ z, p = .str z) ∨ f p ≠ 0
theorem szP_good {f : PyData → Nat} {p d : PyData} (h : szP f (.tuple [p, d]) ≠ 0) : ∃ t, d = .int t ∧ 1 ≤ t ∧ t ≤ 1000000000000000000 ∧ Pg f p ∧ szQ f t p ≠ 0 := by
  cases d with
  | int t =>
    by_cases c : 1 ≤ t ∧ t ≤ 1000000000000000000
    · rw [szT_in f p c] at h
      refine ⟨t, rfl, c.1, c.2, ?_, h⟩
      cases p with
      | str z => exact .inl ⟨z, rfl⟩
      | _ => exact .inr fun z => h (by show t.toNat * f _ = 0; rw [z, Nat.mul_zero])
    · exact absurd (szT_out f p c) h
  | _ => exact absurd rfl h
theorem pairPL {a b : List Nat → PR} {f : PyData → Nat} (h : ∀ r p r1, a r = some (p, r1) → r1.head? = some 42 → Pg f p → b r = some (p, r1)) (r : List Nat) (x : PyData) (r1 : List Nat) (e : pairP a r = some (x, r1)) (g : szP f x ≠ 0) : pairL b r = some (x, r1) := by
  unfold pairP at e
  cases e1 : a r with
  | none => rw [e1] at e; cases e
  | some y =>
    obtain ⟨p, r2⟩ := y
    rw [e1] at e
    have e : (if r2.head? = some 42 then some (PyData.tuple [p, numP (r2.tail.takeWhile isD)], r2.tail.dropWhile isD) else none) = some (x, r1) := e
    by_cases c : r2.head? = some 42
    · rw [if_pos c] at e
      cases e
      obtain ⟨t, et, h1, h2, pg, _⟩ := szP_good g
      unfold pairL
      rw [h r p r2 e1 c pg]
      show (if r2.head? = some 42 then (numL (r2.tail.takeWhile isD)).map fun k => (PyData.tuple [p, .int (k : Nat)], r2.tail.dropWhile isD) else none) = _
      rw [if_pos c, numP_numL et h1, et]
      show some (PyData.tuple [p, .int (t.toNat : Nat)], _) = _
      rw [Int.toNat_of_nonneg (by omega)]
    · rw [if_neg c] at e
      cases e
theorem pairLP {a b : List Nat → PR} {f : PyData → Nat} (h : ∀ r p r1, a r = some (p, r1) → r1.head? = some 42 → Pg f p → b r = some (p, r1)) (r : List Nat) (x : PyData) (r1 : List Nat) (e : pairL a r = some (x, r1)) (g : szP f x ≠ 0) : pairP b r = some (x, r1) := by
  unfold pairL at e
  cases e1 : a r with
  | none => rw [e1] at e; cases e
  | some y =>
    obtain ⟨p, r2⟩ := y
    rw [e1] at e
    have e : (if r2.head? = some 42 then (numL (r2.tail.takeWhile isD)).map fun k => (PyData.tuple [p, .int (k : Nat)], r2.tail.dropWhile isD) else none) = some (x, r1) := e
    by_cases c : r2.head? = some 42
    · rw [if_pos c] at e
      cases e3 : numL (r2.tail.takeWhile isD) with
      | none => rw [e3] at e; cases e
      | some k =>
        rw [e3] at e
        cases e
        obtain ⟨t, et, h1, h2, pg, _⟩ := szP_good g
        cases et
        unfold pairP
        rw [h r p r2 e1 c pg]
        show (if r2.head? = some 42 then some (PyData.tuple [p, numP (r2.tail.takeWhile isD)], r2.tail.dropWhile isD) else none) = _
        rw [if_pos c, numL_numP (dig_of (tw_all isD _)) e3 (by omega)]
    · rw [if_neg c] at e
      cases e
theorem sz_good {g : Nat} {ds : List PyData} (h : sz (g + 1) (.tuple ds) ≠ 0) : (1 ≤ ds.length ∧ ds.length ≤ 6) ∧ ∀ x ∈ ds, szP (sz g) x ≠ 0 := by
  have e : sz (g + 1) (.tuple ds) = if 1 ≤ ds.length ∧ ds.length ≤ 6 then (if 0 ∈ ds.map (szP (sz g)) then 0 else (ds.map (szP (sz g))).sum) else 0 := rfl
  rw [e] at h
  by_cases c : 1 ≤ ds.length ∧ ds.length ≤ 6
  · rw [if_pos c] at h
    refine ⟨c, fun x hx z => h ?_⟩
    rw [if_pos (List.mem_map.mpr ⟨x, hx, z⟩)]
  · rw [if_neg c] at h
    exact absurd rfl h
theorem strP_star {r : List Nat} {p : PyData} {r1 : List Nat} (e : strP r = some (p, r1)) (h : r1.head? = some 42) : r.head? ≠ some 40 := fun z => by
  cases r with
  | nil => cases z
  | cons c r =>
    obtain rfl := Option.some.inj z
    unfold strP at e
    have d : isA 40 = false := by decide +kernel
    rw [List.dropWhile_cons, d] at e
    have e2 := congrArg Prod.snd (Option.some.inj e)
    have e2 : 40 :: r = r1 := e2
    rw [← e2] at h
    cases h
theorem pieceP_str {f : List Nat → PsR} {r : List Nat} (h : r.head? ≠ some 40) : pieceP f r = strP r := if_neg h
theorem pieceN_str {r : List Nat} (h : r.head? ≠ some 40) : pieceN r = strP r := if_neg h
theorem lawPiece_str {r : List Nat} (h : r.head? ≠ some 40) : ∀ k, lawPiece k r = strP r
  | 0 => pieceN_str h
  | _ + 1 => pieceP_str h
theorem progPiece_str {r : List Nat} (h : r.head? ≠ some 40) : ∀ k, progPiece k r = strP r
  | 0 => rfl
  | _ + 1 => pieceP_str h
/-- a piece in brackets -/
theorem pieceP_br {f : List Nat → PsR} {r : List Nat} {p : PyData} {r1 : List Nat} (h : r.head? = some 40) (e : pieceP f r = some (p, r1)) : ∃ es r2, f r.tail = some (es, r2) ∧ r2.head? = some 41 ∧ p = .tuple es ∧ r1 = r2.tail := by
  unfold pieceP at e
  rw [if_pos h] at e
  cases e1 : f r.tail with
  | none => rw [e1] at e; cases e
  | some y =>
    obtain ⟨es, r2⟩ := y
    rw [e1] at e
    have e : (if r2.head? = some 41 then some (PyData.tuple es, r2.tail) else none) = some (p, r1) := e
    by_cases c : r2.head? = some 41
    · rw [if_pos c] at e
      cases e
      exact ⟨es, r2, rfl, c, rfl, rfl⟩
    · rw [if_neg c] at e
      cases e
theorem pieceP_in {f : List Nat → PsR} {r : List Nat} {es : List PyData} {r2 : List Nat} (h : r.head? = some 40) (e : f r.tail = some (es, r2)) (c : r2.head? = some 41) : pieceP f r = some (.tuple es, r2.tail) := by
  unfold pieceP
  rw [if_pos h, e]
  show (if r2.head? = some 41 then some (PyData.tuple es, r2.tail) else none) = _
  rw [if_pos c]
theorem Pg.in_ {f : PyData → Nat} {es : List PyData} (h : Pg f (.tuple es)) : f (.tuple es) ≠ 0 := by
  rcases h with ⟨z, h⟩ | h
  · cases h
  · exact h
theorem prog_law : ∀ g h, g ≤ h → ∀ r ds r1, progPairs g r = some (ds, r1) → (∀ x ∈ ds, szP (sz g) x ≠ 0) → lawPairs h r = some (ds, r1) := by
  intro g
  induction g with
  | zero =>
    intro h _ r ds r1 e gd
    rw [progPairs_eq] at e
    rw [lawPairs_eq]
    refine many_move (good := fun x => szP (sz 0) x ≠ 0) (pairPL fun r p r1 e c pg => ?_) _ _ _ _ e gd
    exact (lawPiece_str (strP_star e c) h).trans e
  | succ g ih =>
    intro h hgh r ds r1 e gd
    obtain ⟨h, rfl⟩ : ∃ k, h = k + 1 := ⟨h - 1, by omega⟩
    rw [progPairs_eq] at e
    rw [lawPairs_eq]
    refine many_move (good := fun x => szP (sz (g + 1)) x ≠ 0) (pairPL fun r p r1 e c pg => ?_) _ _ _ _ e gd
    by_cases hd : r.head? = some 40
    · obtain ⟨es, r2, e1, e2, rfl, rfl⟩ := pieceP_br hd e
      exact pieceP_in hd (ih h (by omega) _ _ _ e1 (sz_good pg.in_).2) e2
    · exact (lawPiece_str hd (h + 1)).trans ((progPiece_str hd (g + 1)).symm.trans e)
theorem law_prog : ∀ g h, g ≤ h → ∀ r ds r1, lawPairs h r = some (ds, r1) → (∀ x ∈ ds, szP (sz g) x ≠ 0) → progPairs g r = some (ds, r1) := by
  intro g
  induction g with
  | zero =>
    intro h _ r ds r1 e gd
    rw [lawPairs_eq] at e
    rw [progPairs_eq]
    refine many_move (good := fun x => szP (sz 0) x ≠ 0) (pairLP fun r p r1 e c pg => ?_) _ _ _ _ e gd
    by_cases hd : r.head? = some 40
    · cases h with
      | zero =>
        have : pieceN r = none := if_pos hd
        rw [show lawPiece 0 r = pieceN r from rfl, this] at e
        cases e
      | succ h =>
        obtain ⟨es, r2, e1, e2, rfl, rfl⟩ := pieceP_br hd e
        exact absurd (sz_zero _) pg.in_
    · exact (lawPiece_str hd h).symm.trans e
  | succ g ih =>
    intro h hgh r ds r1 e gd
    obtain ⟨h, rfl⟩ : ∃ k, h = k + 1 := ⟨h - 1, by omega⟩
    rw [lawPairs_eq] at e
    rw [progPairs_eq]
    refine many_move (good := fun x => szP (sz (g + 1)) x ≠ 0) (pairLP fun r p r1 e c pg => ?_) _ _ _ _ e gd
    by_cases hd : r.head? = some 40
    · obtain ⟨es, r2, e1, e2, rfl, rfl⟩ := pieceP_br hd e
      exact pieceP_in hd (ih h (by omega) _ _ _ e1 (sz_good pg.in_).2) e2
    · exact (progPiece_str hd (g + 1)).trans ((lawPiece_str hd (h + 1)).symm.trans e)
/-- what a whole text is read as -/
def dueBy (pairs : List Nat → PsR) (t : List Nat) : Option (List PyData) := (pairs t).bind fun x => if x.2 = [] ∧ far (.tuple x.1) ≠ 0 then some x.1 else none
theorem dueBy_iff {f : List Nat → PsR} {t : List Nat} {ds : List PyData} : dueBy f t = some ds ↔ f t = some (ds, []) ∧ far (.tuple ds) ≠ 0 := by
  unfold dueBy
  cases e : f t with
  | none => exact ⟨nofun, fun h => nomatch h.1⟩
  | some x =>
    obtain ⟨es, r⟩ := x
    show (if r = [] ∧ far (.tuple es) ≠ 0 then some es else none) = some ds ↔ _
    by_cases c : r = [] ∧ far (.tuple es) ≠ 0
    · rw [if_pos c]
      constructor
      · intro h
        cases h
        exact ⟨by rw [c.1], c.2⟩
      · rintro ⟨h, _⟩
        cases h
        rfl
    · rw [if_neg c]
      refine ⟨nofun, fun ⟨h, h2⟩ => ?_⟩
      cases h
      exact absurd ⟨rfl, h2⟩ c
theorem far_sz {d : PyData} (h : far d ≠ 0) : sz 4 d ≠ 0 := fun z => h (by unfold far; rw [z]; rfl)
theorem due_eq (t : List Nat) : dueBy (lawPairs 29) t = dueBy (progPairs 3) t := by
  have key : ∀ ds, dueBy (lawPairs 29) t = some ds ↔ dueBy (progPairs 3) t = some ds := fun ds => by
    rw [dueBy_iff, dueBy_iff]
    constructor
    · rintro ⟨h, f⟩
      exact ⟨law_prog 3 29 (by decide) _ _ _ h (sz_good (far_sz f)).2, f⟩
    · rintro ⟨h, f⟩
      exact ⟨prog_law 3 29 (by decide) _ _ _ h (sz_good (far_sz f)).2, f⟩
  cases e1 : dueBy (lawPairs 29) t with
  | some ds => exact ((key ds).mp e1).symm
  | none =>
    cases e2 : dueBy (progPairs 3) t with
    | none => rfl
    | some ds =>
      rw [(key ds).mpr e2] at e1
      cases e1
end Fs
set_option Elab.async false
set_option linter.all false
set_option maxRecDepth 100000
set_option maxHeartbeats 1000000
namespace Fs
open PySem PySem.NumText L2
/-! ### what a far text that counts looks like -/
theorem szP_shape {f : PyData → Nat} {x : PyData} (h : szP f x ≠ 0) : ∃ p t, x = .tuple [p, .int t] ∧ 1 ≤ t ∧ t ≤ 1000000000000000000 ∧ ((∃ z, p = .str z ∧ Small z) ∨ f p ≠ 0) := by
  cases x with
  | tuple ds =>
    by_cases c : ds.length = 2
    · obtain ⟨p, d, rfl⟩ := two_of c
      obtain ⟨t, rfl, h1, h2, pg, q⟩ := szP_good h
      refine ⟨p, t, rfl, h1, h2, ?_⟩
      rcases pg with ⟨z, rfl⟩ | pg
      · left
        have e : szQ f t (.str z) = if z.length ≤ 20 ∧ ofL z = true then t.toNat * z.length else 0 := rfl
        rw [e] at q
        by_cases k : z.length ≤ 20 ∧ ofL z = true
        · rw [if_pos k] at q
          refine ⟨z, rfl, ?_, k.1, k.2⟩
          rcases Nat.eq_zero_or_pos z.length with w | w
          · rw [w, Nat.mul_zero] at q
            exact absurd rfl q
          · exact w
        · rw [if_neg k] at q
          exact absurd rfl q
      · exact .inr pg
    · exact absurd (szP_other f c) h
  | _ => exact absurd rfl h
theorem szP_back {f : PyData → Nat} {p : PyData} {t : Int} (h1 : 1 ≤ t) (h2 : t ≤ 1000000000000000000) (h : (∃ z, p = .str z ∧ Small z) ∨ (f p ≠ 0 ∧ ∀ z, p ≠ .str z)) : szP f (.tuple [p, .int t]) ≠ 0 := by
  rw [szT_in f p ⟨h1, h2⟩]
  have pos : 0 < t.toNat := by omega
  rcases h with ⟨z, rfl, hz⟩ | ⟨h, n⟩
  · have e : szQ f t (.str z) = if z.length ≤ 20 ∧ ofL z = true then t.toNat * z.length else 0 := rfl
    rw [e, if_pos ⟨hz.2.1, hz.2.2⟩]
    exact Nat.ne_of_gt (Nat.mul_pos pos hz.1)
  · have e : szQ f t p = t.toNat * f p := by
      cases p with
      | str z => exact absurd rfl (n z)
      | _ => rfl
    rw [e]
    exact Nat.ne_of_gt (Nat.mul_pos pos (Nat.pos_of_ne_zero h))
theorem sz_tuple {k : Nat} {d : PyData} (h : sz k d ≠ 0) : ∃ g ds, k = g + 1 ∧ d = .tuple ds := by
  cases k with
  | zero => exact absurd (sz_zero d) h
  | succ g =>
    cases d with
    | tuple ds => exact ⟨g, ds, rfl, rfl⟩
    | _ => exact absurd rfl h
theorem tale_of_sz : ∀ {k : Nat} {d : PyData}, sz k d ≠ 0 → Tale k d
  | 0, d, h => absurd (sz_zero d) h
  | k + 1, d, h => by
    obtain ⟨g, ds, e, rfl⟩ := sz_tuple h
    obtain ⟨c, gd⟩ := sz_good h
    refine ⟨ds, rfl, c.1, c.2, fun x hx => ?_⟩
    obtain ⟨p, t, rfl, h1, h2, q⟩ := szP_shape (gd x hx)
    refine ⟨p, t, rfl, h1, h2, ?_⟩
    rcases q with q | q
    · exact .inl q
    · exact .inr (tale_of_sz q)
theorem sum_ne {l : List Nat} (hl : 1 ≤ l.length) (h : 0 ∉ l) : l.sum ≠ 0 := by
  cases l with
  | nil => exact absurd hl (by decide)
  | cons a l =>
    rw [List.sum_cons]
    intro z
    exact h (by rw [show a = 0 by omega]; exact List.mem_cons_self)
theorem sz_of_tale : ∀ {k : Nat} {d : PyData}, Tale k d → sz k d ≠ 0
  | 0, _, h => h.elim
  | k + 1, _, ⟨ds, rfl, h1, h2, h⟩ => by
    have n0 : 0 ∉ ds.map (szP (sz k)) := fun z => by
      obtain ⟨x, hx, e⟩ := List.mem_map.mp z
      obtain ⟨p, t, rfl, t1, t2, q⟩ := h x hx
      refine szP_back t1 t2 ?_ e
      rcases q with q | q
      · exact .inl q
      · refine .inr ⟨sz_of_tale q, fun z e => ?_⟩
        rw [e] at q
        cases k with
        | zero => exact q
        | succ k => obtain ⟨_, e, _⟩ := q; cases e
    have e : sz (k + 1) (.tuple ds) = if 1 ≤ ds.length ∧ ds.length ≤ 6 then (if 0 ∈ ds.map (szP (sz k)) then 0 else (ds.map (szP (sz k))).sum) else 0 := rfl
    rw [e, if_pos ⟨h1, h2⟩, if_neg n0]
    exact sum_ne (by rw [List.length_map]; exact h1) n0
/-! ### far texts shown -/
def showPc (f : PyData → List Nat) : PyData → List Nat
  | .str z => tl z
  | p => 40 :: (f p ++ [41])
def showPr (f : PyData → List Nat) : PyData → List Nat
  | .tuple [p, .int t] => showPc f p ++ 42 :: numT t
  | _ => []
def shFar : Nat → PyData → List Nat
  | k + 1, .tuple xs => TL.joinL [43] (xs.map (showPr (shFar k)))
  | _, _ => []
/-- no digit comes next -/
def NoD (r : List Nat) : Prop := ∀ c, r.head? = some c → isD c = false
theorem many_join {pair : List Nat → PR} {sh : PyData → List Nat} : ∀ (ds : List PyData) (n : Nat) (rest : List Nat), ds ≠ [] → ds.length ≤ n → NoD rest → rest.head? ≠ some 43 → (∀ x ∈ ds, ∀ r, NoD r → pair (sh x ++ r) = some (x, r)) →
    many pair n (TL.joinL [43] (ds.map sh) ++ rest) = some (ds, rest)
  | [], _, _, h, _, _, _, _ => absurd rfl h
  | [x], 0, _, _, l, _, _, _ => absurd l (by show ¬ 1 ≤ 0; decide)
  | [x], n + 1, rest, _, _, nd, np, hp => by
    show many pair (n + 1) (sh x ++ rest) = _
    unfold many
    rw [hp x List.mem_cons_self rest nd]
    show (if rest.head? = some 43 then _ else some ([x], rest)) = _
    rw [if_neg np]
  | x :: y :: ds, 0, _, _, l, _, _, _ => absurd l (by rw [List.length_cons]; omega)
  | x :: y :: ds, n + 1, rest, _, l, nd, np, hp => by
    have e : TL.joinL [43] ((x :: y :: ds).map sh) ++ rest = sh x ++ (43 :: (TL.joinL [43] ((y :: ds).map sh) ++ rest)) := by
      show (sh x ++ ([43] ++ TL.joinL [43] ((y :: ds).map sh))) ++ rest = _
      rw [List.append_assoc]
      rfl
    rw [e]
    unfold many
    rw [hp x List.mem_cons_self _ (fun c hc => by obtain rfl := Option.some.inj hc; decide +kernel)]
    generalize hW : TL.joinL [43] ((y :: ds).map sh) ++ rest = W
    show (if (43 :: W).head? = some 43 then (many pair n W).map (fun y => (x :: y.1, y.2)) else some ([x], 43 :: W)) = _
    rw [if_pos (show (43 :: W).head? = some 43 from rfl), ← hW, many_join (y :: ds) n rest (by simp) (by rw [List.length_cons] at l; omega) nd np fun z hz => hp z (List.mem_cons_of_mem _ hz)]
    rfl
theorem joinL_ge {sh : PyData → List Nat} : ∀ (ds : List PyData), (∀ x ∈ ds, 1 ≤ (sh x).length) → ds.length ≤ (TL.joinL [43] (ds.map sh)).length
  | [], _ => Nat.le_refl _
  | [x], h => h x List.mem_cons_self
  | x :: y :: ds, h => by
    have ih := joinL_ge (y :: ds) fun z hz => h z (List.mem_cons_of_mem _ hz)
    have := h x List.mem_cons_self
    show _ ≤ (sh x ++ ([43] ++ TL.joinL [43] ((y :: ds).map sh))).length
    rw [List.length_append, List.length_append, List.length_cons]
    show (y :: ds).length + 1 ≤ (sh x).length + (1 + _)
    omega
theorem small_head {z : Str} (h : Small z) (r : List Nat) : (tl z ++ r).head? ≠ some 40 := fun e => by
  have hl := len_tl z
  cases w : tl z with
  | nil =>
    rw [w] at hl
    have := h.1
    rw [hl] at this
    exact absurd this (by decide)
  | cons c l =>
    rw [w] at e
    obtain rfl := Option.some.inj e
    have := List.all_eq_true.mp h.2.2 40 (by rw [w]; exact List.mem_cons_self)
    exact absurd this (by decide +kernel)
theorem round : ∀ (g : Nat) (ds : List PyData) (rest : List Nat), sz (g + 1) (.tuple ds) ≠ 0 → NoD rest → rest.head? ≠ some 43 → progPairs g (shFar (g + 1) (.tuple ds) ++ rest) = some (ds, rest) := by
  intro g
  induction g with
  | zero => ?a
  | succ g ih => ?b
  all_goals
    intro ds rest h nd np
    obtain ⟨c, gd⟩ := sz_good h
  case a =>
    have hp : ∀ x ∈ ds, ∀ r, NoD r → pairP (progPiece 0) (showPr (shFar 0) x ++ r) = some (x, r) := fun x hx r nr => by
      obtain ⟨p, t, rfl, h1, h2, q⟩ := szP_shape (gd x hx)
      rcases q with ⟨z, rfl, hz⟩ | q
      · have e : showPr (shFar 0) (.tuple [.str z, .int t]) ++ r = tl z ++ (42 :: (numT t ++ r)) := by
          show (tl z ++ 42 :: numT t) ++ r = _
          rw [List.append_assoc]
          rfl
        obtain ⟨d1, d2⟩ := numT_of h1 h2
        have w := tw_append isA (tl z) (42 :: (numT t ++ r)) (fun c hc => List.all_eq_true.mp hz.2.2 c hc) (fun c hc => by obtain rfl := Option.some.inj hc; decide +kernel)
        have w2 := tw_append isD (numT t) r d1 nr
        rw [e]
        unfold pairP
        rw [progPiece_str (small_head hz _) 0]
        unfold strP
        rw [w.1, w.2, tx_tl]
        show (if (42 :: (numT t ++ r)).head? = some 42 then some (PyData.tuple [.str z, numP ((numT t ++ r).takeWhile isD)], (numT t ++ r).dropWhile isD) else none) = _
        rw [if_pos (show (42 :: (numT t ++ r)).head? = some 42 from rfl), w2.1, w2.2, numP_numT h1 h2]
      · exact absurd (sz_zero p) q
    rw [progPairs_eq]
    refine many_join ds _ rest (fun z => by rw [z] at c; exact absurd c.1 (by decide)) ?_ nd np hp
    have := joinL_ge (sh := showPr (shFar 0)) ds fun x hx => by
      obtain ⟨p, t, rfl, _⟩ := szP_shape (gd x hx)
      show 1 ≤ (showPc _ p ++ 42 :: numT t).length
      rw [List.length_append, List.length_cons]
      omega
    rw [List.length_append]
    show _ ≤ (TL.joinL [43] (ds.map (showPr (shFar 0)))).length + _ + 1
    omega
  case b =>
    have hp : ∀ x ∈ ds, ∀ r, NoD r → pairP (progPiece (g + 1)) (showPr (shFar (g + 1)) x ++ r) = some (x, r) := fun x hx r nr => by
      obtain ⟨p, t, rfl, h1, h2, q⟩ := szP_shape (gd x hx)
      obtain ⟨d1, d2⟩ := numT_of h1 h2
      have w2 := tw_append isD (numT t) r d1 nr
      rcases q with ⟨z, rfl, hz⟩ | q
      · have e : showPr (shFar (g + 1)) (.tuple [.str z, .int t]) ++ r = tl z ++ (42 :: (numT t ++ r)) := by
          show (tl z ++ 42 :: numT t) ++ r = _
          rw [List.append_assoc]
          rfl
        have w := tw_append isA (tl z) (42 :: (numT t ++ r)) (fun c hc => List.all_eq_true.mp hz.2.2 c hc) (fun c hc => by obtain rfl := Option.some.inj hc; decide +kernel)
        rw [e]
        unfold pairP
        rw [progPiece_str (small_head hz _) (g + 1)]
        unfold strP
        rw [w.1, w.2, tx_tl]
        show (if (42 :: (numT t ++ r)).head? = some 42 then some (PyData.tuple [.str z, numP ((numT t ++ r).takeWhile isD)], (numT t ++ r).dropWhile isD) else none) = _
        rw [if_pos (show (42 :: (numT t ++ r)).head? = some 42 from rfl), w2.1, w2.2, numP_numT h1 h2]
      · obtain ⟨_, es, _, rfl⟩ := sz_tuple q
        have e : showPr (shFar (g + 1)) (.tuple [.tuple es, .int t]) ++ r = 40 :: (shFar (g + 1) (.tuple es) ++ (41 :: 42 :: (numT t ++ r))) := by
          show ((40 :: (shFar (g + 1) (.tuple es) ++ [41])) ++ 42 :: numT t) ++ r = _
          simp
        have inner := ih es (41 :: 42 :: (numT t ++ r)) q (fun c hc => by obtain rfl := Option.some.inj hc; decide +kernel) (by simp)
        rw [e]
        unfold pairP
        have pc : progPiece (g + 1) (40 :: (shFar (g + 1) (.tuple es) ++ (41 :: 42 :: (numT t ++ r)))) = some (.tuple es, 42 :: (numT t ++ r)) := pieceP_in (r := 40 :: (shFar (g + 1) (.tuple es) ++ (41 :: 42 :: (numT t ++ r)))) rfl inner rfl
        rw [pc]
        show (if (42 :: (numT t ++ r)).head? = some 42 then some (PyData.tuple [.tuple es, numP ((numT t ++ r).takeWhile isD)], (numT t ++ r).dropWhile isD) else none) = _
        rw [if_pos (show (42 :: (numT t ++ r)).head? = some 42 from rfl), w2.1, w2.2, numP_numT h1 h2]
    rw [progPairs_eq]
    refine many_join ds _ rest (fun z => by rw [z] at c; exact absurd c.1 (by decide)) ?_ nd np hp
    have := joinL_ge (sh := showPr (shFar (g + 1))) ds fun x hx => by
      obtain ⟨p, t, rfl, _⟩ := szP_shape (gd x hx)
      show 1 ≤ (showPc _ p ++ 42 :: numT t).length
      rw [List.length_append, List.length_cons]
      omega
    rw [List.length_append]
    show _ ≤ (TL.joinL [43] (ds.map (showPr (shFar (g + 1))))).length + _ + 1
    omega
/-- a far text that counts, shown, is read as itself -/
theorem due_round {ds : List PyData} (h : far (.tuple ds) ≠ 0) : dueBy (progPairs 3) (shFar 4 (.tuple ds)) = some ds := by
  have z := round 3 ds [] (far_sz h) (fun c hc => nomatch hc) nofun
  rw [List.append_nil] at z
  exact dueBy_iff.mpr ⟨z, h⟩
/-! ### how long it is -/
theorem joinL_le {N : Nat} : ∀ (l : List (List Nat)), (∀ x ∈ l, x.length ≤ N ∧ ∀ c ∈ x, c < 128) → (TL.joinL [43] l).length ≤ l.length * (N + 1) ∧ ∀ c ∈ TL.joinL [43] l, c < 128
  | [], _ => ⟨Nat.zero_le _, fun _ h => nomatch h⟩
  | [x], h => by
    have := h x List.mem_cons_self
    refine ⟨?_, this.2⟩
    show x.length ≤ 1 * (N + 1)
    omega
  | x :: y :: l, h => by
    have ih := joinL_le (y :: l) fun z hz => h z (List.mem_cons_of_mem _ hz)
    have hx := h x List.mem_cons_self
    refine ⟨?_, fun c hc => ?_⟩
    · show (x ++ ([43] ++ TL.joinL [43] (y :: l))).length ≤ ((y :: l).length + 1) * (N + 1)
      rw [List.length_append, List.length_append, Nat.succ_mul]
      show x.length + (1 + _) ≤ _
      omega
    · have hc : c ∈ x ++ ([43] ++ TL.joinL [43] (y :: l)) := hc
      rcases List.mem_append.mp hc with hc | hc
      · exact hx.2 c hc
      · rcases List.mem_append.mp hc with hc | hc
        · rw [List.mem_singleton.mp hc]
          decide
        · exact ih.2 c hc
def lenB : Nat → Nat
  | 0 => 0
  | k + 1 => 6 * (lenB k + 43)
theorem sh_len : ∀ {k : Nat} {d : PyData}, Tale k d → (shFar k d).length ≤ lenB k ∧ ∀ c ∈ shFar k d, c < 128
  | 0, _, h => h.elim
  | k + 1, _, ⟨ds, rfl, h1, h2, h⟩ => by
    have each : ∀ x ∈ ds.map (showPr (shFar k)), x.length ≤ lenB k + 42 ∧ ∀ c ∈ x, c < 128 := fun x hx => by
      obtain ⟨y, hy, rfl⟩ := List.mem_map.mp hx
      obtain ⟨p, t, rfl, t1, t2, q⟩ := h y hy
      obtain ⟨d1, d2, d3, _⟩ := numT_of t1 t2
      have pc : (showPc (shFar k) p).length ≤ lenB k + 22 ∧ ∀ c ∈ showPc (shFar k) p, c < 128 := by
        rcases q with ⟨z, rfl, hz⟩ | q
        · show (tl z).length ≤ lenB k + 22 ∧ ∀ c ∈ tl z, c < 128
          refine ⟨?_, fun c hc => ?_⟩
          · rw [← len_tl]
            have := hz.2.1
            omega
          · have := (isA_iff c).mp (List.all_eq_true.mp hz.2.2 c hc)
            omega
        · have ih := sh_len q
          have e : showPc (shFar k) p = 40 :: (shFar k p ++ [41]) := by
            cases k with
            | zero => exact q.elim
            | succ k =>
              obtain ⟨_, rfl, _⟩ := q
              rfl
          rw [e]
          refine ⟨?_, fun c hc => ?_⟩
          · rw [List.length_cons, List.length_append]
            show _ + 1 + 1 ≤ _
            omega
          · rcases List.mem_cons.mp hc with rfl | hc
            · decide
            · rcases List.mem_append.mp hc with hc | hc
              · exact ih.2 c hc
              · rw [List.mem_singleton.mp hc]
                decide
      show (showPc (shFar k) p ++ 42 :: numT t).length ≤ _ ∧ ∀ c ∈ showPc (shFar k) p ++ 42 :: numT t, c < 128
      refine ⟨?_, fun c hc => ?_⟩
      · rw [List.length_append, List.length_cons]
        omega
      · rcases List.mem_append.mp hc with hc | hc
        · exact pc.2 c hc
        · rcases List.mem_cons.mp hc with rfl | hc
          · decide
          · have := (isD_iff c).mp (d1 c hc)
            omega
    have z := joinL_le _ each
    rw [List.length_map] at z
    refine ⟨Nat.le_trans z.1 ?_, z.2⟩
    show _ ≤ 6 * (lenB k + 43)
    exact Nat.mul_le_mul_right _ h2
/-! ### places in a text -/
def pos (t r : List Nat) : Nat := t.length - r.length
theorem drop_pos {t r : List Nat} (h : r <:+ t) : t.drop (pos t r) = r := (List.suffix_iff_eq_drop.mp h).symm
theorem suf_len {t r : List Nat} (h : r <:+ t) : r.length ≤ t.length := h.length_le
theorem suf_tail {t r : List Nat} (h : r <:+ t) : r.tail <:+ t := (List.tail_suffix r).trans h
theorem suf_dw {t r : List Nat} (p : Nat → Bool) (h : r <:+ t) : r.dropWhile p <:+ t := (List.dropWhile_suffix p).trans h
theorem pos_tail {t r : List Nat} {c : Nat} (h : r <:+ t) (e : r.head? = some c) : pos t r.tail = pos t r + 1 := by
  cases r with
  | nil => cases e
  | cons a r =>
    have := suf_len h
    unfold pos
    rw [List.length_cons] at this ⊢
    show t.length - r.length = _
    omega
theorem tw_dw (p : Nat → Bool) (r : List Nat) : (r.takeWhile p).length + (r.dropWhile p).length = r.length := by
  rw [← List.length_append, List.takeWhile_append_dropWhile]
theorem pos_dw {t r : List Nat} (p : Nat → Bool) (h : r <:+ t) : pos t (r.dropWhile p) = pos t r + (r.takeWhile p).length := by
  have := suf_len h
  have := tw_dw p r
  unfold pos
  omega
theorem tl_cut2 (z : Str) (i j : Nat) : cutS z (some (i : Int)) (some (j : Int)) = tx (((tl z).drop i).take (j - i)) := by
  unfold cutS tx
  rw [HT.sIx_nat, HT.sIx_nat]
  refine congrArg (fun l : List Nat => (⟨l.toArray⟩ : Str)) ?_
  show ((tl z).drop (min i z.length)).take (min j z.length - min i z.length) = _
  have hz := len_tl z
  by_cases h : i ≤ z.length
  · rw [Nat.min_eq_left h]
    by_cases k : j ≤ z.length
    · rw [Nat.min_eq_left k]
    · rw [Nat.min_eq_right (by omega), List.take_of_length_le (by rw [List.length_drop]; omega), List.take_of_length_le (by rw [List.length_drop]; omega)]
  · rw [Nat.min_eq_right (show z.length ≤ i by omega), List.drop_eq_nil_of_le (by omega), List.drop_eq_nil_of_le (by omega), List.take_nil, List.take_nil]
theorem cut_one {z : Str} {r : List Nat} (h : r <:+ tl z) : cutS z (some ((pos (tl z) r : Nat) : Int)) (some (((pos (tl z) r : Nat) : Int) + 1)) = tx (r.take 1) := by
  have e : (((pos (tl z) r : Nat) : Int) + 1) = ((pos (tl z) r + 1 : Nat) : Int) := by omega
  rw [e, tl_cut2, drop_pos h]
  congr 2
  omega
theorem cut_run {z : Str} {r : List Nat} (p : Nat → Bool) (h : r <:+ tl z) : cutS z (some ((pos (tl z) r : Nat) : Int)) (some ((pos (tl z) (r.dropWhile p) : Nat) : Int)) = tx (r.takeWhile p) := by
  rw [tl_cut2, drop_pos h, pos_dw p h, Nat.add_sub_cancel_left]
  have e : r.take (r.takeWhile p).length = (r.takeWhile p ++ r.dropWhile p).take (r.takeWhile p).length := by rw [List.takeWhile_append_dropWhile]
  rw [e, List.take_left]
theorem one_is {r : List Nat} {s : Str} {c : Nat} (hs : tl s = [c]) : (V.str (tx (r.take 1)) = V.str s) ↔ r.head? = some c := by
  constructor
  · intro h
    have h := V.str.inj h
    have h2 := congrArg tl h
    rw [tl_tx, hs] at h2
    cases r with
    | nil => cases h2
    | cons a r =>
      have : [a] = [c] := h2
      rw [List.cons.inj this |>.1]
      rfl
  · intro h
    cases r with
    | nil => cases h
    | cons a r =>
      obtain rfl := Option.some.inj h
      have : tx [a] = s := by rw [← hs, tx_tl]
      show V.str (tx [a]) = _
      rw [this]
theorem at_pos {z : Str} {r : List Nat} {c : Nat} (h : r <:+ tl z) (e : r.head? = some c) : atI z.cps.toList ((pos (tl z) r : Nat) : Int) = some c := by
  refine atI_nat ?_
  show (tl z)[pos (tl z) r]? = some c
  cases r with
  | nil => cases e
  | cons a r =>
    obtain rfl := Option.some.inj e
    have z0 := drop_pos h
    have : ((tl z).drop (pos (tl z) (a :: r)))[0]? = some a := by rw [z0]; rfl
    rw [List.getElem?_drop] at this
    exact this
end Fs
set_option Elab.async false
set_option linter.all false
set_option maxRecDepth 100000
set_option maxHeartbeats 1000000
namespace Fs
open PySem PySem.NumText L2
/-! ### run_from, number_of -/
abbrev s_run_from : Stmt := top 23
abbrev sc_run_fromN : List Str := ["text", "start", "signs", "end"]
theorem sc_run_from : FnScope sc_run_fromN ["text", "start", "signs"] (defScope s_run_from) := ⟨rfl, rfl, rfl, by decide +kernel, rfl, by decide +kernel, by decide +kernel⟩
abbrev s_number_of : Stmt := top 24
abbrev sc_number_ofN : List Str := ["word"]
theorem sc_number_of : FnScope sc_number_ofN ["word"] (defScope s_number_of) := ⟨rfl, rfl, rfl, by decide +kernel, rfl, by decide +kernel, by decide +kernel⟩
def inS (sg : Str) (c : Nat) : Bool := decide (c ∈ tl sg)
def spRun : Sp := fun vs H Q _ => ∃ (z sg : Str) (r : List Nat), vs = [.str z, .int ((pos (tl z) r : Nat) : Int), .str sg] ∧ z.length ≤ 1000000 ∧ r <:+ tl z ∧ Q (.str (tx (r.takeWhile (inS sg)))) H
def numV : PyData → V
  | .int i => .int i
  | _ => .non
def spNumber : Sp := fun vs H Q _ => ∃ (w : List Nat), vs = [.str (tx w)] ∧ w.length ≤ 1000000 ∧ (∀ c ∈ w, isD c = true) ∧ Q (numV (numP w)) H
theorem dw_step {p : Nat → Bool} {r : List Nat} {c : Nat} (e : r.head? = some c) (h : p c = true) : r.tail.dropWhile p = r.dropWhile p := by
  cases r with
  | nil => cases e
  | cons a r =>
    obtain rfl := Option.some.inj e
    rw [List.dropWhile_cons, h]
    rfl
theorem dw_stop {p : Nat → Bool} {r : List Nat} (h : ∀ c, r.head? = some c → p c = false) : r.dropWhile p = r := by
  cases r with
  | nil => rfl
  | cons a r =>
    rw [List.dropWhile_cons, h a rfl]
    rfl
theorem pos_lt {t r : List Nat} (h : r <:+ t) : pos t r < t.length ↔ r ≠ [] := by
  have := suf_len h
  unfold pos
  cases r with
  | nil => exact ⟨fun h => absurd h (by simp), fun h => absurd rfl h⟩
  | cons a r =>
    rw [List.length_cons] at *
    exact ⟨fun _ => nofun, fun _ => by omega⟩
theorem tw_full {p : Nat → Bool} {w : List Nat} (h : ∀ c ∈ w, p c = true) : w.takeWhile p = w := takeWhile_all h
section
variable {P : Program} {w : World} {K : PySem.W.Frag} {mg : Str → Option Value} {base : Heap}
theorem ok_run {f : Addr} {fd : FuncData} (F : Fun K "run_from" "run_from" s_run_from f fd) (T : Bare mg) : FnOk P w K mg base CX0 1 f fd ["text", "start", "signs"] spRun := by
  refine F.ok sc_run_from (fun vs H Q E h => ?_) (fun cdv A outer st H vs Q E hr h => ?_)
  · obtain ⟨z, sg, r, rfl, _⟩ := h
    rfl
  obtain ⟨z, sg, r, rfl, hz, hr0, q⟩ := h
  refine ⟨_, (pss_cons (ps_set (i := 3) sc_run_from.nd rfl (Or.inl rfl) (pv 1))
(pss_cons (ps_while PassesOwn.never (PW.pt (pw_and (pt_cmpR op_lt (pv 3) (pe_callB call_len (by rfl) T.len PySem.boot_len (pa_cons (pv 0) pa_nil)) (nomark _)) (pw_and1 (pt_cmpR op_in_sign (pe_ix ix_str (pv 0) (pv 3) (fun _ _ => rfl)) (pv 2) (by rfl)))))
(pss_one (ps_aug (i := 3) sc_run_from.nd rfl (Or.inl rfl) pe_int ip_add)))
(pss_one (ps_ret (pe_slice sl_str (pv 0) (po_some (pv 1)) (po_some (pv 3))))))), ?_⟩
  have hl := len_tl z
  have hk := len_k hz
  refine ⟨_, rfl, fun m σ H' => H' = H ∧ ∃ r' : List Nat, σ = [some (.str z), some (.int ((pos (tl z) r : Nat) : Int)), some (.str sg), some (.int ((pos (tl z) r' : Nat) : Int))] ∧ r' <:+ tl z ∧ r'.dropWhile (inS sg) = r.dropWhile (inS sg) ∧ m = r'.length, ⟨_, rfl, r, rfl, hr0, rfl, rfl⟩, ?_⟩
  rintro m σ H' ⟨rfl, r', rfl, hr1, hdw, hm⟩
  have fin : ∀ H2, H2 = H' → (∀ c, r'.head? = some c → inS sg c = false) → Q (.str (cutS z (some ((pos (tl z) r : Nat) : Int)) (some ((pos (tl z) r' : Nat) : Int)))) H2 := fun H2 e h => by
    subst e
    rw [dw_stop h] at hdw
    rw [hdw, cut_run _ hr0]
    exact q
  refine ⟨_, rfl, .str z, rfl, .str z, z.length, rfl, ⟨hk, rfl⟩, _, _, rfl, rfl, _, rfl, ?_⟩
  refine ite2 (fun h => ?_) (fun h => ?_)
  rotate_left
  · have h : ¬ (((pos (tl z) r' : Nat) : Int) < (z.length : Int)) := fun e => h (decide_eq_true e)
    refine iteF ?_
    refine ⟨.str z, rfl, _, rfl, _, rfl, _, rfl, _, rfl, z, rfl, hk, fin H' rfl fun c hc => ?_⟩
    have : ¬ r' ≠ [] := fun n => h (by have := (pos_lt hr1).mpr n; omega)
    rw [Classical.not_not.mp this] at hc
    cases hc
  have h := of_decide_eq_true h
  have ne : r' ≠ [] := (pos_lt hr1).mp (by omega)
  obtain ⟨c, hc⟩ : ∃ c, r'.head? = some c := by
    cases r' with
    | nil => exact absurd rfl ne
    | cons a r' => exact ⟨a, rfl⟩
  refine ⟨.str z, rfl, _, rfl, z, _, c, rfl, rfl, hk, at_pos hr1 hc, .str sg, rfl, c, sg, rfl, rfl, _, rfl, ?_⟩
  refine ite2 (fun h2 => ?_) (fun h2 => ?_)
  · have h2 : inS sg c = true := h2
    refine ⟨_, fun σ' H' z => z, _, rfl, _, _, rfl, rfl, ?_⟩
    refine ⟨r'.tail.length, ?_, rfl, r'.tail, ?_, suf_tail hr1, (dw_step hc h2).trans hdw, rfl⟩
    · rw [hm]
      cases r' with
      | nil => exact absurd rfl ne
      | cons a r' =>
        rw [List.length_cons]
        exact Nat.lt_succ_self _
    · rw [pos_tail hr1 hc, Int.natCast_add]
      rfl
  · have h2 : inS sg c = false := Bool.eq_false_iff.mpr h2
    refine ⟨.str z, rfl, _, rfl, _, rfl, _, rfl, _, rfl, z, rfl, hk, fin H' rfl fun d hd => ?_⟩
    rw [hc] at hd
    rw [← Option.some.inj hd]
    exact h2
theorem ok_number {f : Addr} {fd : FuncData} (F : Fun K "number_of" "number_of" s_number_of f fd) (T : Bare mg) (C : Con K mg) (CR : Callee P w K mg base 1 "run_from" ["text", "start", "signs"] spRun) : FnOk P w K mg base CX0 2 f fd ["word"] spNumber := by
  refine F.ok sc_number_of (fun vs H Q E h => ?_) (fun cdv A outer st H vs Q E hr h => ?_)
  · obtain ⟨w, rfl, _⟩ := h
    rfl
  obtain ⟨w, rfl, hw, hd, q⟩ := h
  obtain ⟨t1, hdig⟩ := C.digits
  obtain ⟨t2, hmd⟩ := C.mdig
  refine ⟨_, (pss_cons (ps_if (PW.pt (pw_or (pt_cmpR op_eq (pv 0) pe_str (nomark _)) (pw_or (pt_cmpR op_ne (pe_call CR.ok hr rfl CR.mg CR.kp CR.b .nil pass0 (pa_cons (pv 0) (pa_cons pe_int (pa_cons (pe_glob (v := .str dgs) (by rfl) hdig ⟨_, rfl⟩) pa_nil)))) (pv 0) (nomark _)) (pw_or1 (pt_cmpR op_gt (pe_callB call_len (by rfl) T.len PySem.boot_len (pa_cons (pv 0) pa_nil)) (pe_glob (v := .int 25) (by rfl) hmd ⟨_, rfl⟩) (nomark _))))))
(pss_one (ps_ret pe_non))
pss_nil)
(pss_one (ps_ret (pe_ifExp (PW.pt (pw_and (pt_cmpR op_eq (pe_ix ix_str (pv 0) pe_int (fun _ _ => rfl)) pe_str (nomark _)) (pw_and1 (pt_cmpR op_ne (pv 0) pe_str (nomark _))))) pe_non (pe_callTy call_int_str (by rfl) T.int (by decide +kernel) (pa_cons (pv 0) pa_nil)))))), ?_⟩
  have hl := tx_len w
  have hk : (tx w).length ≤ sizeLine := len_k (by omega)
  have none_ : (w = [] ∨ 25 < w.length ∨ (w.head? = some 48 ∧ w ≠ [48])) → Q .non H := fun h => by
    unfold numP at q
    rw [if_pos h] at q
    exact q
  have strEq : ∀ (s : Str) (l : List Nat), tl s = l → (V.str (tx w) = V.str s ↔ w = l) := fun s l hs => by
    constructor
    · intro h
      have := congrArg tl (V.str.inj h)
      rw [tl_tx, hs] at this
      exact this
    · intro h
      rw [h, ← hs, tx_tl]
  refine ⟨_, rfl, rfl, _, rfl, ?_⟩
  by_cases e0 : w = []
  · rw [decide_eq_true ((strEq _ [] (by decide +kernel)).mpr e0)]
    exact iteT (iteT (none_ (.inl e0)))
  rw [decide_eq_false fun h => e0 ((strEq _ [] (by decide +kernel)).mp h)]
  refine iteF ?_
  refine ⟨_, rfl, tx w, dgs, w, ?_, by omega, List.suffix_refl _, ?_⟩
  · show [V.str (tx w), V.int 0, V.str dgs] = [V.str (tx w), V.int ((pos (tl (tx w)) w : Nat) : Int), V.str dgs]
    rw [tl_tx]
    unfold pos
    rw [Nat.sub_self]
    rfl
  rw [tw_full (p := inS dgs) hd]
  refine ⟨_, rfl, rfl, _, rfl, ?_⟩
  rw [decide_eq_true (show V.str (tx w) = V.str (tx w) from rfl)]
  refine iteF ⟨.str (tx w), rfl, .str (tx w), (tx w).length, rfl, ⟨hk, rfl⟩, _, _, rfl, rfl, _, rfl, ?_⟩
  refine ite2 (fun h => none_ (.inr (.inl ?_))) (fun h => ?_)
  · have h := of_decide_eq_true h
    omega
  have h25 : w.length ≤ 25 := by
    have h : ¬ ((25 : Int) < ((tx w).length : Int)) := fun e => h (decide_eq_true e)
    omega
  obtain ⟨c, r, rfl⟩ : ∃ c r, w = c :: r := by
    cases w with
    | nil => exact absurd rfl e0
    | cons c r => exact ⟨c, r, rfl⟩
  refine ⟨.str (tx (c :: r)), rfl, tx (c :: r), 0, c, rfl, rfl, hk, (show atI (c :: r) ((0 : Nat) : Int) = some c from atI_nat rfl), rfl, _, rfl, ?_⟩
  have num : ¬ (c = 48 ∧ c :: r ≠ [48]) → Q (.int ((digitsVal (c :: r) : Nat) : Int)) H := fun h => by
    unfold numP at q
    rw [if_neg] at q
    · exact q
    rintro (z | z | z)
    · cases z
    · omega
    · exact h ⟨Option.some.inj z.1, z.2⟩
  have rd : ¬ (c = 48 ∧ c :: r ≠ [48]) → ∃ a n, ([V.str (tx (c :: r))] : List V) = [.str a] ∧ PySem.intText? a = some n ∧ a.length ≤ 640 ∧ Q (.int n) H := fun h =>
    ⟨tx (c :: r), _, rfl, intText_digits (x := tx (c :: r)) (dig_of hd) nofun (by omega), by omega, num h⟩
  by_cases ec : c = 48
  · subst ec
    have : (V.str (⟨#[48]⟩ : Str) = V.str "0") := by decide +kernel
    rw [decide_eq_true this]
    refine iteT ⟨_, rfl, rfl, _, rfl, ?_⟩
    by_cases e1 : 48 :: r = [48]
    · rw [decide_eq_true ((strEq _ [48] (by decide +kernel)).mpr e1)]
      exact iteF ⟨_, rfl, rd fun z => z.2 e1⟩
    · rw [decide_eq_false fun h => e1 ((strEq _ [48] (by decide +kernel)).mp h)]
      exact iteT (none_ (.inr (.inr ⟨rfl, e1⟩)))
  · have : ¬ (V.str (⟨#[c]⟩ : Str) = V.str "0") := fun h => ec (by
      have := congrArg tl (V.str.inj h)
      have e2 : tl ("0" : Str) = [48] := by decide +kernel
      rw [e2] at this
      exact (List.cons.inj this).1)
    rw [decide_eq_false this]
    exact iteF (iteF ⟨_, rfl, rd fun z => ec z.1⟩)
end
end Fs
set_option Elab.async false
set_option linter.all false
set_option maxRecDepth 100000
set_option maxHeartbeats 1000000
namespace Fs
open PySem PySem.NumText L2
/-! ### what the readers give back -/
/-- the rest is the text's end; no lists -/
def PF (f : List Nat → PR) : Prop := ∀ r x r1, f r = some (x, r1) → r1 <:+ r ∧ noList x = true
def PFs (f : List Nat → PsR) : Prop := ∀ r xs r1, f r = some (xs, r1) → r1 <:+ r ∧ noListAll xs = true ∧ r1.length < r.length ∧ xs.length ≤ r.length
/-- and it is shorter -/
def PS1 (f : List Nat → PR) : Prop := ∀ r x r1, f r = some (x, r1) → r1 <:+ r ∧ noList x = true ∧ r1.length < r.length
theorem strP_pf : PF strP := fun r x r1 e => by
  unfold strP at e
  cases e
  exact ⟨List.dropWhile_suffix _, by simp only [noList]⟩
theorem pieceN_pf : PF pieceN := fun r x r1 e => by
  unfold pieceN at e
  by_cases c : r.head? = some 40
  · rw [if_pos c] at e
    cases e
  · rw [if_neg c] at e
    exact strP_pf r x r1 e
theorem pieceP_pf {f : List Nat → PsR} (h : PFs f) : PF (pieceP f) := fun r x r1 e => by
  by_cases c : r.head? = some 40
  · obtain ⟨es, r2, e1, e2, rfl, rfl⟩ := pieceP_br c e
    obtain ⟨k1, k2, k3, _⟩ := h _ _ _ e1
    exact ⟨(List.tail_suffix r2).trans (k1.trans (List.tail_suffix r)), by simpa only [noList] using k2⟩
  · rw [pieceP_str c] at e
    exact strP_pf r x r1 e
theorem numP_nl (w : List Nat) : noList (numP w) = true := by
  unfold numP
  split <;> simp only [noList]
theorem tail_lt {r : List Nat} {c : Nat} (h : r.head? = some c) : r.tail.length < r.length := by
  cases r with
  | nil => cases h
  | cons a r =>
    rw [List.length_cons]
    exact Nat.lt_succ_self _
theorem pairP_ps {f : List Nat → PR} (h : PF f) : PS1 (pairP f) := fun r x r1 e => by
  unfold pairP at e
  cases e1 : f r with
  | none => rw [e1] at e; cases e
  | some y =>
    obtain ⟨p, r2⟩ := y
    rw [e1] at e
    have e : (if r2.head? = some 42 then some (PyData.tuple [p, numP (r2.tail.takeWhile isD)], r2.tail.dropWhile isD) else none) = some (x, r1) := e
    obtain ⟨k1, k2⟩ := h _ _ _ e1
    by_cases c : r2.head? = some 42
    · rw [if_pos c] at e
      cases e
      have s := (List.dropWhile_suffix (l := r2.tail) isD)
      refine ⟨(s.trans (List.tail_suffix r2)).trans k1, by simp only [noList, noListAll, k2, numP_nl, Bool.and_self], ?_⟩
      have := s.length_le
      have := tail_lt c
      have := k1.length_le
      omega
    · rw [if_neg c] at e
      cases e
theorem pairL_ps {f : List Nat → PR} (h : PF f) : PS1 (pairL f) := fun r x r1 e => by
  unfold pairL at e
  cases e1 : f r with
  | none => rw [e1] at e; cases e
  | some y =>
    obtain ⟨p, r2⟩ := y
    rw [e1] at e
    have e : (if r2.head? = some 42 then (numL (r2.tail.takeWhile isD)).map fun k => (PyData.tuple [p, .int (k : Nat)], r2.tail.dropWhile isD) else none) = some (x, r1) := e
    obtain ⟨k1, k2⟩ := h _ _ _ e1
    by_cases c : r2.head? = some 42
    · rw [if_pos c] at e
      cases e3 : numL (r2.tail.takeWhile isD) with
      | none => rw [e3] at e; cases e
      | some k =>
        rw [e3] at e
        cases e
        have s := (List.dropWhile_suffix (l := r2.tail) isD)
        refine ⟨(s.trans (List.tail_suffix r2)).trans k1, by simp only [noList, noListAll, k2, Bool.and_self], ?_⟩
        have := s.length_le
        have := tail_lt c
        have := k1.length_le
        omega
    · rw [if_neg c] at e
      cases e
theorem many_pfs {f : List Nat → PR} (h : PS1 f) : ∀ n, PFs (many f n)
  | 0, _, _, _, e => nomatch e
  | n + 1, r, xs, r1, e => by
    unfold many at e
    cases e1 : f r with
    | none => rw [e1] at e; cases e
    | some x =>
      obtain ⟨x, r2⟩ := x
      rw [e1] at e
      obtain ⟨k1, k2, k3⟩ := h _ _ _ e1
      have e : (if r2.head? = some 43 then (many f n r2.tail).map fun y => (x :: y.1, y.2) else some ([x], r2)) = some (xs, r1) := e
      by_cases hp : r2.head? = some 43
      · rw [if_pos hp] at e
        cases e2 : many f n r2.tail with
        | none => rw [e2] at e; cases e
        | some y =>
          obtain ⟨ys, r3⟩ := y
          rw [e2] at e
          have q := Option.some.inj e
          have q1 : x :: ys = xs := congrArg Prod.fst q
          have q2 : r3 = r1 := congrArg Prod.snd q
          subst q1
          rw [← q2]
          obtain ⟨j1, j2, j3, j4⟩ := many_pfs h n _ _ _ e2
          have := tail_lt hp
          refine ⟨(j1.trans (List.tail_suffix r2)).trans k1, by simp only [noListAll, k2, j2, Bool.and_self], by omega, ?_⟩
          rw [List.length_cons]
          omega
      · rw [if_neg hp] at e
        have q := Option.some.inj e
        have q1 : [x] = xs := congrArg Prod.fst q
        have q2 : r2 = r1 := congrArg Prod.snd q
        subst q1
        rw [← q2]
        exact ⟨k1, by simp only [noListAll, k2, Bool.and_self], k3, by show 1 ≤ _; omega⟩
theorem progPairs_pfs : ∀ g, PFs (progPairs g)
  | 0, r, xs, r1, e => many_pfs (pairP_ps strP_pf) _ _ _ _ e
  | g + 1, r, xs, r1, e => many_pfs (pairP_ps (pieceP_pf (progPairs_pfs g))) _ _ _ _ e
theorem lawPairs_pfs : ∀ g, PFs (lawPairs g)
  | 0, r, xs, r1, e => many_pfs (pairL_ps pieceN_pf) _ _ _ _ e
  | g + 1, r, xs, r1, e => many_pfs (pairL_ps (pieceP_pf (lawPairs_pfs g))) _ _ _ _ e
theorem progPiece_pf : ∀ g, PF (progPiece g)
  | 0 => strP_pf
  | g + 1 => pieceP_pf (progPairs_pfs g)
theorem lawPiece_pf : ∀ g, PF (lawPiece g)
  | 0 => pieceN_pf
  | g + 1 => pieceP_pf (lawPairs_pfs g)
theorem progPair_ps (g : Nat) : PS1 (pairP (progPiece g)) := pairP_ps (progPiece_pf g)
theorem lawPair_ps (g : Nat) : PS1 (pairL (lawPiece g)) := pairL_ps (lawPiece_pf g)
/-- how the reading of more pairs goes on -/
def cont (pair : List Nat → PR) (n : Nat) (acc : List PyData) (r : List Nat) : PsR := if r.head? = some 43 then (many pair n r.tail).map fun y => (acc ++ y.1, y.2) else some (acc, r)
theorem many_none {pair : List Nat → PR} {n : Nat} {r : List Nat} (h : pair r = none) : many pair (n + 1) r = none := by
  unfold many
  rw [h]
  rfl
theorem many_first {pair : List Nat → PR} {n : Nat} {r r1 : List Nat} {x : PyData} (h : pair r = some (x, r1)) : many pair (n + 1) r = cont pair n [x] r1 := by
  unfold many
  rw [h]
  rfl
theorem cont_none {pair : List Nat → PR} {n : Nat} {acc : List PyData} {r : List Nat} (h : r.head? = some 43) (e : pair r.tail = none) : cont pair (n + 1) acc r = none := by
  unfold cont
  rw [if_pos h, many_none e]
  rfl
theorem cont_more {pair : List Nat → PR} {n : Nat} {acc : List PyData} {r r1 : List Nat} {x : PyData} (h : r.head? = some 43) (e : pair r.tail = some (x, r1)) : cont pair (n + 1) acc r = cont pair n (acc ++ [x]) r1 := by
  unfold cont
  rw [if_pos h, many_first e]
  unfold cont
  by_cases c : r1.head? = some 43
  · rw [if_pos c, if_pos c]
    cases many pair n r1.tail with
    | none => rfl
    | some y =>
      show some (acc ++ ([x] ++ y.1), y.2) = some ((acc ++ [x]) ++ y.1, y.2)
      rw [List.append_assoc]
  · rw [if_neg c, if_neg c]
    rfl
theorem cont_end {pair : List Nat → PR} {n : Nat} {acc : List PyData} {r : List Nat} (h : r.head? ≠ some 43) : cont pair n acc r = some (acc, r) := if_neg h
/-! ### refusals -/
theorem Refused.same {CB : Addr} {v : V} {H H1 : Hp} {E : XK} (s : Same H H1) (h : Refused CB v H E) : Refused CB v H1 E := fun dd H' n s' hx => h dd H' (by
  cases z : H dd with
  | none => rfl
  | some o => rw [s _ _ z] at n; cases n) (Same.trans s s') hx
theorem refuse {CB a dx : Addr} {v : V} {H1 : Hp} {E : XK} {o1 o2 o3 : HO} (h : Refused CB v H1 E) (ha : H1 a = none) (n : upd H1 a o1 dx = none) (ne : dx ≠ a) : E (.ref CB) (some dx) (upd (L2.del (upd (upd (upd H1 a o1) dx o2) a o3) a) dx (.xd [("value", v)])) := by
  rw [upd_ne ne] at n
  refine h dx _ n (fun b o hb => ?_) upd_same
  have n1 : b ≠ dx := ne_of_none hb n
  have n2 : b ≠ a := ne_of_none hb ha
  rw [upd_ne n1, del_ne n2, upd_ne n2, upd_ne n1, upd_ne n2]
  exact hb
/-- a def of the text that may raise -/
structure CalleeX (P : Program) (w : World) (K : PySem.W.Frag) (mg : Str → Option Value) (base : Heap) (k : Nat) (x : Str) (ps : List Str) (sp : Sp) where
  f : Addr
  fd : FuncData
  ok : FnOk P w K mg base (L2.CX P w) k f fd ps sp
  mg : mg x = some (.ref f)
  kp : PySem.W.keepIn K (.ref f) = true
  b : Binds K fd ps []
def spPiece (K : PySem.W.Frag) (CB : Addr) (f : List Nat → PR) (depth : Int) : Sp := fun vs H Q E => ∃ (z : Str) (r : List Nat), vs = [.str z, .int ((pos (tl z) r : Nat) : Int), .int depth] ∧ z.length ≤ 1000000 ∧ r <:+ tl z ∧
  (f r = none → Refused CB (.str z) H E) ∧ ∀ x r1, f r = some (x, r1) → ∀ q v H', Same H H' → H' q = some (.tup [v, .int ((pos (tl z) r1 : Nat) : Int)]) → Dv K H' v x → Q (.ref q) H'
def spPairs (K : PySem.W.Frag) (CB : Addr) (f : List Nat → PsR) (depth : Int) : Sp := fun vs H Q E => ∃ (z : Str) (r : List Nat), vs = [.str z, .int ((pos (tl z) r : Nat) : Int), .int depth] ∧ z.length ≤ 1000000 ∧ r <:+ tl z ∧
  (f r = none → Refused CB (.str z) H E) ∧ ∀ xs r1, f r = some (xs, r1) → ∀ q v H', Same H H' → H' q = some (.tup [v, .int ((pos (tl z) r1 : Nat) : Int)]) → Dv K H' v (.tuple xs) → Q (.ref q) H'
end Fs
set_option Elab.async false
set_option linter.all false
set_option maxRecDepth 100000
set_option maxHeartbeats 2000000
namespace Fs
open PySem PySem.NumText L2
/-! ### the program's reader -/
abbrev s_pairs_from : Stmt := top 20
abbrev sc_pairs_fromN : List Str := ["text", "start", "depth", "pair", "end", "pairs"]
theorem sc_pairs_from : FnScope sc_pairs_fromN ["text", "start", "depth"] (defScope s_pairs_from) := ⟨rfl, rfl, rfl, by decide +kernel, rfl, by decide +kernel, by decide +kernel⟩
abbrev s_pair_from : Stmt := top 21
abbrev sc_pair_fromN : List Str := ["text", "start", "depth", "piece", "end", "digits"]
theorem sc_pair_from : FnScope sc_pair_fromN ["text", "start", "depth"] (defScope s_pair_from) := ⟨rfl, rfl, rfl, by decide +kernel, rfl, by decide +kernel, by decide +kernel⟩
abbrev s_piece_from : Stmt := top 22
abbrev sc_piece_fromN : List Str := ["text", "start", "depth", "piece", "end"]
theorem sc_piece_from : FnScope sc_piece_fromN ["text", "start", "depth"] (defScope s_piece_from) := ⟨rfl, rfl, rfl, by decide +kernel, rfl, by decide +kernel, by decide +kernel⟩
theorem pt_weak {X : Cx} {e : Expr} {t t' : TT} (i : ∀ σ H Q, t' σ H Q → t σ H Q) (h : PT X e t) : PT X e t' := ⟨fun pins s σ H Q I q => h.run pins s σ H Q I (i _ _ _ q)⟩
theorem look {z : Str} {r : List Nat} {c : Nat} {s : Str} (h : r <:+ tl z) (hs : tl s = [c]) : decide (V.str (cutS z (some ((pos (tl z) r : Nat) : Int)) (some (((pos (tl z) r : Nat) : Int) + 1))) = V.str s) = decide (r.head? = some c) := by
  rw [cut_one h]
  exact decide_eq_decide.mpr (one_is hs)
theorem op40 : tl ("(" : Str) = [40] := by decide +kernel
theorem op41 : tl (")" : Str) = [41] := by decide +kernel
theorem op42 : tl ("*" : Str) = [42] := by decide +kernel
theorem op43 : tl ("+" : Str) = [43] := by decide +kernel
theorem pieceP_none1 {f : List Nat → PsR} {r : List Nat} (h : r.head? = some 40) (e : f r.tail = none) : pieceP f r = none := by
  unfold pieceP
  rw [if_pos h, e]
  rfl
theorem pieceP_none2 {f : List Nat → PsR} {r : List Nat} {es : List PyData} {r2 : List Nat} (h : r.head? = some 40) (e : f r.tail = some (es, r2)) (c : r2.head? ≠ some 41) : pieceP f r = none := by
  unfold pieceP
  rw [if_pos h, e]
  exact if_neg c
theorem pairP_none1 {f : List Nat → PR} {r : List Nat} (e : f r = none) : pairP f r = none := by
  unfold pairP
  rw [e]
  rfl
theorem pairP_none2 {f : List Nat → PR} {r : List Nat} {p : PyData} {r2 : List Nat} (e : f r = some (p, r2)) (c : r2.head? ≠ some 42) : pairP f r = none := by
  unfold pairP
  rw [e]
  exact if_neg c
theorem pairP_in {f : List Nat → PR} {r : List Nat} {p : PyData} {r2 : List Nat} (e : f r = some (p, r2)) (c : r2.head? = some 42) : pairP f r = some (.tuple [p, numP (r2.tail.takeWhile isD)], r2.tail.dropWhile isD) := by
  unfold pairP
  rw [e]
  exact if_pos c
def tIsRun (g : Nat) : TT := fun σ H Q => ∃ (z : Str) (r : List Nat) (x3 x4 : Option V), σ = [some (.str z), some (.int ((pos (tl z) r : Nat) : Int)), some (.int (4 - (g : Int))), x3, x4] ∧ z.length ≤ 1000000 ∧ r <:+ tl z ∧ Q (decide (r.head? ≠ some 40 ∨ g = 0)) H
theorem numV_dv {K : PySem.W.Frag} {H : Hp} (w : List Nat) : Dv K H (numV (numP w)) (numP w) := by
  unfold numP
  split
  · exact .non
  · exact .int _
theorem tw_len (p : Nat → Bool) (r : List Nat) : (r.takeWhile p).length ≤ r.length := by
  have := tw_dw p r
  omega
section
variable {P : Program} {w : World} {K : PySem.W.Frag} {mg : Str → Option Value} {base : Heap}
theorem ok_piece {f CB fI : Addr} {fd fdI : FuncData} {g lev : Nat} {spP : Sp} (F : Fun K "piece_from" "piece_from" s_piece_from f fd) (T : Bare mg) (C : Con K mg) (TB : BadTxt P w K mg base CB fI) (OI : FnOk P w K mg base CX0 1 fI fdI ["self", "value"] (spPassInit K)) (bI : Binds K fdI ["self", "value"] [])
    (CR : Callee P w K mg base 1 "run_from" ["text", "start", "signs"] spRun) (hl : 2 ≤ lev) (hP : ∀ j, g = j + 1 → spP = spPairs K CB (progPairs j) (4 - (j : Int)))
    (CP : CalleeX P w K mg base lev "pairs_from" ["text", "start", "depth"] spP) : FnOk P w K mg base (L2.CX P w) (lev + 1) f fd ["text", "start", "depth"] (spPiece K CB (progPiece g) (4 - (g : Int))) := by
  refine F.okX sc_piece_from (fun vs H Q E h => ?_) (fun cdv A outer s H vs Q E hr h => ?_)
  · obtain ⟨z, r, rfl, _⟩ := h
    rfl
  obtain ⟨z, r, rfl, hz, hr0, qn, qs⟩ := h
  obtain ⟨t1, hdeep⟩ := C.deep
  obtain ⟨t2, hal⟩ := C.alpha
  refine ⟨_, (pss_cons (ps_if (pt_weak (t' := tIsRun g) (fun σ H Q h => by
    obtain ⟨z, r, x3, x4, rfl, hz, hr0, q⟩ := h
    refine ⟨.str z, rfl, _, rfl, _, rfl, _, rfl, _, _, rfl, rfl, _, rfl, z, rfl, len_k hz, rfl, _, rfl, ?_⟩
    rw [look hr0 op40]
    by_cases c : r.head? = some 40
    · rw [decide_eq_true c]
      refine iteF ⟨_, rfl, rfl, _, rfl, ?_⟩
      cases g with
      | zero =>
        rw [decide_eq_true (show r.head? ≠ some 40 ∨ 0 = 0 from .inr rfl)] at q
        exact q
      | succ j =>
        rw [decide_eq_false (show ¬ (r.head? ≠ some 40 ∨ j + 1 = 0) from fun h => h.elim (fun h => h c) (fun h => by omega))] at q
        rw [decide_eq_false (fun e : V.int (4 - ((j + 1 : Nat) : Int)) = V.int 4 => by have := V.int.inj e; omega)]
        exact q
    · rw [decide_eq_false c]
      rw [decide_eq_true (show r.head? ≠ some 40 ∨ g = 0 from .inl c)] at q
      exact iteT q) (PW.pt (pw_or (pt_cmpR op_ne (pe_slice sl_str (pv 0) (po_some (pv 1)) (po_some (pe_op op_add (pv 1) pe_int))) pe_str (nomark _)) (pw_or1 (pt_cmpR op_eq (pv 2) (pe_glob (v := .int 4) (by rfl) hdeep ⟨_, rfl⟩) (nomark _))))))
(pss_cons (ps_set (i := 3) sc_piece_from.nd rfl (Or.inl rfl) (pe_call CR.ok (hr.mono (Nat.le_trans (by decide) hl)) rfl CR.mg CR.kp CR.b .nil pass0 (pa_cons (pv 0) (pa_cons (pv 1) (pa_cons (pe_glob (v := .str alpha) (by rfl) hal ⟨_, rfl⟩) pa_nil)))))
(pss_one (ps_ret (pe_tup (pa_cons (pv 3) (pa_cons (pe_op op_add (pv 1) (pe_callB call_len (by rfl) T.len PySem.boot_len (pa_cons (pv 3) pa_nil))) pa_nil))))))
pss_nil)
(pss_cons (ps_asg (pe_call CP.ok hr rfl CP.mg CP.kp CP.b .nil (passes_call (takes_of rfl rfl rfl rfl) (fun _ _ _ _ h => h)) (pa_cons (pv 0) (pa_cons (pe_op op_add (pv 1) pe_int) (pa_cons (pe_op op_add (pv 2) pe_int) pa_nil)))) (pg_tup (by rfl) (pgs_cons (pg_name (i := 3) sc_piece_from.nd rfl (Or.inl rfl)) (pgs_cons (pg_name (i := 4) sc_piece_from.nd rfl (Or.inl rfl)) pgs_nil))))
(pss_cons (ps_if (pt_cmpR op_ne (pe_slice sl_str (pv 0) (po_some (pv 4)) (po_some (pe_op op_add (pv 4) pe_int))) pe_str (nomark _))
(pss_one (ps_raise rfl (takes_of rfl rfl rfl rfl) (pmk_oex TB.ox TB.iC TB.tI OI (hr.mono (by omega)) bI .nil pass0 rfl TB.mg (pa_cons (pv 0) pa_nil))))
pss_nil)
(pss_one (ps_ret (pe_tup (pa_cons (pv 3) (pa_cons (pe_op op_add (pv 4) pe_int) pa_nil)))))))), ?_⟩
  have hk := len_k hz
  have hl0 := len_tl z
  have hrl := suf_len hr0
  refine ⟨z, r, none, none, rfl, hz, hr0, ?_⟩
  by_cases cond : r.head? ≠ some 40 ∨ g = 0
  · rw [decide_eq_true cond]
    refine iteT ?_
    have e0 : progPiece g r = strP r := by
      rcases cond with c | rfl
      · exact progPiece_str c g
      · rfl
    refine ⟨_, rfl, _, rfl, z, alpha, r, rfl, hz, hr0, ?_⟩
    have tl1 := tw_len isA r
    have tx1 := tx_len (r.takeWhile isA)
    refine ⟨_, rfl, _, rfl, .str (tx (r.takeWhile isA)), rfl, .str (tx (r.takeWhile isA)), _, rfl, ⟨len_k (by omega), rfl⟩, _, _, rfl, rfl, small (by show 2 ≤ 1000; decide), fun q hq => ?_⟩
    have e2 : ((pos (tl z) r : Nat) : Int) + ((tx (r.takeWhile isA)).length : Int) = ((pos (tl z) (r.dropWhile isA) : Nat) : Int) := by
      rw [pos_dw isA hr0, tx1]
      omega
    refine qs (.str (tx (r.takeWhile isA))) (r.dropWhile isA) (e0.trans rfl) q (.str (tx (r.takeWhile isA))) _ (same_new hq _) ?_ (.str _ (by omega))
    rw [← e2]
    exact upd_same
  · rw [decide_eq_false cond]
    refine iteF ?_
    have hd : r.head? = some 40 := Classical.not_not.mp fun n => cond (.inl n)
    obtain ⟨j, rfl⟩ : ∃ j, g = j + 1 := ⟨g - 1, by
      have : g ≠ 0 := fun n => cond (.inr n)
      omega⟩
    have hsP := hP j rfl
    subst hsP
    refine ⟨_, rfl, _, rfl, _, 1, rfl, rfl, _, rfl, _, 1, rfl, rfl, z, r.tail, ?_, hz, suf_tail hr0, fun e => qn (pieceP_none1 hd e), fun es r2 e q vt H1 s1 hq hdv => ?_⟩
    · show [V.str z, V.int (((pos (tl z) r : Nat) : Int) + 1), V.int (4 - ((j + 1 : Nat) : Int) + 1)] = _
      rw [pos_tail hr0 hd, show (4 - ((j + 1 : Nat) : Int) + 1) = 4 - (j : Int) by omega, Int.natCast_add]
      rfl
    have hr2 : r2 <:+ tl z := ((progPairs_pfs j _ _ _ e).1.trans (List.tail_suffix r)).trans hr0
    refine ⟨q, _, rfl, .inl (.inl hq), rfl, vt, _, rfl, _, _, rfl, rfl, ?_⟩
    refine ⟨.str z, rfl, _, rfl, _, rfl, _, rfl, _, _, rfl, rfl, _, rfl, z, rfl, hk, rfl, _, rfl, ?_⟩
    rw [look hr2 op41]
    by_cases c : r2.head? = some 41
    · rw [decide_eq_true c]
      refine iteF ?_
      refine ⟨_, rfl, _, rfl, _, 1, rfl, rfl, small (by show 2 ≤ 1000; decide), fun q2 hq2 => ?_⟩
      refine qs _ r2.tail (pieceP_in hd e c) q2 vt _ (Same.trans s1 (same_new hq2 _)) ?_ (hdv.same (same_new hq2 _))
      rw [pos_tail hr2 c, Int.natCast_add]
      exact upd_same
    · rw [decide_eq_false c]
      refine iteT ?_
      have ref := (qn (pieceP_none2 hd e c)).same s1
      refine ⟨.str z, rfl, Nat.le_of_ble_eq_true rfl, fun a ha => ⟨a, CB, .str z, rfl, TB.ox, TB.nv, upd_same, fun dx n ne => ⟨rfl, dx, [("value", .str z)], upd_same, ?_, ?_, refuse ref ha n ne⟩⟩⟩
      · rw [upd_ne ne, upd_same]
      · rw [upd_ne ne] at n
        exact n
theorem ok_pairF {f CB fI : Addr} {fd fdI : FuncData} {g lev : Nat} (F : Fun K "pair_from" "pair_from" s_pair_from f fd) (T : Bare mg) (C : Con K mg) (TB : BadTxt P w K mg base CB fI) (OI : FnOk P w K mg base CX0 1 fI fdI ["self", "value"] (spPassInit K)) (bI : Binds K fdI ["self", "value"] [])
    (CR : Callee P w K mg base 1 "run_from" ["text", "start", "signs"] spRun) (CN : Callee P w K mg base 2 "number_of" ["word"] spNumber) (hl : 2 ≤ lev)
    (CP : CalleeX P w K mg base lev "piece_from" ["text", "start", "depth"] (spPiece K CB (progPiece g) (4 - (g : Int)))) : FnOk P w K mg base (L2.CX P w) (lev + 1) f fd ["text", "start", "depth"] (spPiece K CB (pairP (progPiece g)) (4 - (g : Int))) := by
  refine F.okX sc_pair_from (fun vs H Q E h => ?_) (fun cdv A outer s H vs Q E hr h => ?_)
  · obtain ⟨z, r, rfl, _⟩ := h
    rfl
  obtain ⟨z, r, rfl, hz, hr0, qn, qs⟩ := h
  obtain ⟨t1, hdig⟩ := C.digits
  refine ⟨_, (pss_cons (ps_asg (pe_call CP.ok hr rfl CP.mg CP.kp CP.b .nil (passes_call (takes_of rfl rfl rfl rfl) (fun _ _ _ _ h => h)) (pa_cons (pv 0) (pa_cons (pv 1) (pa_cons (pv 2) pa_nil)))) (pg_tup (by rfl) (pgs_cons (pg_name (i := 3) sc_pair_from.nd rfl (Or.inl rfl)) (pgs_cons (pg_name (i := 4) sc_pair_from.nd rfl (Or.inl rfl)) pgs_nil))))
(pss_cons (ps_if (pt_cmpR op_ne (pe_slice sl_str (pv 0) (po_some (pv 4)) (po_some (pe_op op_add (pv 4) pe_int))) pe_str (nomark _))
(pss_one (ps_raise rfl (takes_of rfl rfl rfl rfl) (pmk_oex TB.ox TB.iC TB.tI OI (hr.mono (by omega)) bI .nil pass0 rfl TB.mg (pa_cons (pv 0) pa_nil))))
pss_nil)
(pss_cons (ps_set (i := 5) sc_pair_from.nd rfl (Or.inl rfl) (pe_call CR.ok (hr.mono (by omega)) rfl CR.mg CR.kp CR.b .nil pass0 (pa_cons (pv 0) (pa_cons (pe_op op_add (pv 4) pe_int) (pa_cons (pe_glob (v := .str dgs) (by rfl) hdig ⟨_, rfl⟩) pa_nil)))))
(pss_one (ps_ret (pe_tup (pa_cons (pe_tup (pa_cons (pv 3) (pa_cons (pe_call CN.ok (hr.mono hl) rfl CN.mg CN.kp CN.b .nil pass0 (pa_cons (pv 5) pa_nil)) pa_nil))) (pa_cons (pe_op op_add (pe_op op_add (pv 4) pe_int) (pe_callB call_len (by rfl) T.len PySem.boot_len (pa_cons (pv 5) pa_nil))) pa_nil)))))))), ?_⟩
  have hk := len_k hz
  have hl0 := len_tl z
  have hrl := suf_len hr0
  refine ⟨_, rfl, _, rfl, _, rfl, z, r, rfl, hz, hr0, fun e => qn (pairP_none1 e), fun p r2 e q vt H1 s1 hq hdv => ?_⟩
  have hr2 : r2 <:+ tl z := (progPiece_pf g _ _ _ e).1.trans hr0
  refine ⟨q, _, rfl, .inl (.inl hq), rfl, vt, _, rfl, _, _, rfl, rfl, ?_⟩
  refine ⟨.str z, rfl, _, rfl, _, rfl, _, rfl, _, _, rfl, rfl, _, rfl, z, rfl, hk, rfl, _, rfl, ?_⟩
  rw [look hr2 op42]
  by_cases c : r2.head? = some 42
  · rw [decide_eq_true c]
    refine iteF ?_
    have ht := suf_tail hr2
    have pt := pos_tail hr2 c
    have len2 := suf_len ht
    have tl1 := tw_len isD r2.tail
    have tx1 := tx_len (r2.tail.takeWhile isD)
    refine ⟨_, rfl, _, rfl, _, 1, rfl, rfl, z, dgs, r2.tail, ?_, hz, ht, ?_⟩
    · show [V.str z, V.int (((pos (tl z) r2 : Nat) : Int) + 1), V.str dgs] = _
      rw [pt, Int.natCast_add]
      rfl
    refine ⟨vt, rfl, _, rfl, r2.tail.takeWhile isD, rfl, by omega, tw_all isD _, small (by show 2 ≤ 1000; decide), fun q2 hq2 => ?_⟩
    refine ⟨_, rfl, _, 1, rfl, rfl, .str (tx (r2.tail.takeWhile isD)), rfl, .str (tx (r2.tail.takeWhile isD)), _, rfl, ⟨len_k (by omega), rfl⟩, _, _, rfl, rfl, small (by show 2 ≤ 1000; decide), fun q3 hq3 => ?_⟩
    have m2 := same_new hq2 (.tup [vt, numV (numP (r2.tail.takeWhile isD))])
    have e3 : ((pos (tl z) r2 : Nat) : Int) + 1 + ((tx (r2.tail.takeWhile isD)).length : Int) = ((pos (tl z) (r2.tail.dropWhile isD) : Nat) : Int) := by
      rw [pos_dw isD ht, pt, tx1]
      omega
    have m3 := same_new hq3 (.tup [V.ref q2, .int (((pos (tl z) r2 : Nat) : Int) + 1 + ((tx (r2.tail.takeWhile isD)).length : Int))])
    refine qs _ _ (pairP_in e c) q3 (.ref q2) _ (Same.trans s1 (Same.trans m2 m3)) ?_ (.tup (.inl (.inl (m3 _ _ upd_same))) (.cons (hdv.same (Same.trans m2 m3)) (.cons (numV_dv _) .nil)))
    rw [← e3]
    exact upd_same
  · rw [decide_eq_false c]
    refine iteT ?_
    have ref := (qn (pairP_none2 e c)).same s1
    refine ⟨.str z, rfl, Nat.le_of_ble_eq_true rfl, fun a ha => ⟨a, CB, .str z, rfl, TB.ox, TB.nv, upd_same, fun dx n ne => ⟨rfl, dx, [("value", .str z)], upd_same, ?_, ?_, refuse ref ha n ne⟩⟩⟩
    · rw [upd_ne ne, upd_same]
    · rw [upd_ne ne] at n
      exact n
theorem ok_pairsF {f CB : Addr} {fd : FuncData} {g lev : Nat} (F : Fun K "pairs_from" "pairs_from" s_pairs_from f fd) (T : Bare mg) (C : Con K mg)
    (CP : CalleeX P w K mg base lev "pair_from" ["text", "start", "depth"] (spPiece K CB (pairP (progPiece g)) (4 - (g : Int)))) : FnOk P w K mg base (L2.CX P w) (lev + 1) f fd ["text", "start", "depth"] (spPairs K CB (progPairs g) (4 - (g : Int))) := by
  refine F.okX sc_pairs_from (fun vs H Q E h => ?_) (fun cdv A outer s H vs Q E hr h => ?_)
  · obtain ⟨z, r, rfl, _⟩ := h
    rfl
  obtain ⟨z, r, rfl, hz, hr0, qn, qs⟩ := h
  refine ⟨_, (pss_cons (ps_asg (pe_call CP.ok hr rfl CP.mg CP.kp CP.b .nil (passes_call (takes_of rfl rfl rfl rfl) (fun _ _ _ _ h => h)) (pa_cons (pv 0) (pa_cons (pv 1) (pa_cons (pv 2) pa_nil)))) (pg_tup (by rfl) (pgs_cons (pg_name (i := 3) sc_pairs_from.nd rfl (Or.inl rfl)) (pgs_cons (pg_name (i := 4) sc_pairs_from.nd rfl (Or.inl rfl)) pgs_nil))))
(pss_cons (ps_set (i := 5) sc_pairs_from.nd rfl (Or.inl rfl) (pe_lst (pa_cons (pv 3) pa_nil)))
(pss_cons (ps_while (passes_of rfl) (pt_cmpR op_eq (pe_slice sl_str (pv 0) (po_some (pv 4)) (po_some (pe_op op_add (pv 4) pe_int))) pe_str (nomark _))
(pss_cons (ps_asg (pe_call CP.ok hr rfl CP.mg CP.kp CP.b .nil (passes_call (takes_of rfl rfl rfl rfl) (fun _ _ _ _ h => h)) (pa_cons (pv 0) (pa_cons (pe_op op_add (pv 4) pe_int) (pa_cons (pv 2) pa_nil)))) (pg_tup (by rfl) (pgs_cons (pg_name (i := 3) sc_pairs_from.nd rfl (Or.inl rfl)) (pgs_cons (pg_name (i := 4) sc_pairs_from.nd rfl (Or.inl rfl)) pgs_nil))))
(pss_one (ps_expr (pe_bm PySem.F.plainAttrs_list PySem.F.slot_list_append PySem.F.type_list_append mt_append (pv 5) (pa_cons (pv 3) pa_nil))))))
(pss_one (ps_ret (pe_tup (pa_cons (pe_callTy call_tuple_of (by rfl) T.tuple (by decide +kernel) (pa_cons (pv 5) pa_nil)) (pa_cons (pv 4) pa_nil)))))))), ?_⟩
  have hk := len_k hz
  have hl0 := len_tl z
  have hrl := suf_len hr0
  rw [progPairs_eq] at qn qs
  refine ⟨_, rfl, _, rfl, _, rfl, z, r, rfl, hz, hr0, fun e => qn (many_none e), fun x r1 e q vt H1 s1 hq hdv => ?_⟩
  obtain ⟨p1, p2, p3⟩ := progPair_ps g _ _ _ e
  rw [many_first e] at qn qs
  refine ⟨q, _, rfl, .inl (.inl hq), rfl, vt, _, rfl, _, _, rfl, rfl, ?_⟩
  refine ⟨_, rfl, small (by show 1 ≤ 1000; decide), fun D hD => ?_⟩
  have m1 := same_new hD (.lst [vt])
  refine ⟨fun m σ H' => ∃ (n : Nat) (acc : List PyData) (rr : List Nat) (x3 : V) (vs : List V), σ = [some (.str z), some (.int ((pos (tl z) r : Nat) : Int)), some (.int (4 - (g : Int))), some x3, some (.int ((pos (tl z) rr : Nat) : Int)), some (.ref D)] ∧ rr <:+ tl z ∧ rr.length ≤ n ∧ m = rr.length ∧
    H' D = some (.lst vs) ∧ DvAll K H' vs acc ∧ noListAll acc = true ∧ acc.length + rr.length ≤ r.length ∧ Same H H' ∧ cont (pairP (progPiece g)) r.length [x] r1 = cont (pairP (progPiece g)) n acc rr, ⟨_, r.length, [x], r1, vt, [vt], rfl, p1.trans hr0, by omega, rfl, upd_same, .cons (hdv.same m1) .nil, by simp only [noListAll, p2, Bool.and_self], by rw [List.length_singleton]; omega, Same.trans s1 m1, rfl⟩, ?_⟩
  rintro m σ H2 ⟨n, acc, rr, x3, vs, rfl, hrr, hn, hm, hDv, hds, nl, hal, s2, heq⟩
  rw [heq] at qn qs
  refine ⟨.str z, rfl, _, rfl, _, rfl, _, rfl, _, _, rfl, rfl, _, rfl, z, rfl, hk, rfl, _, rfl, ?_⟩
  rw [look hrr op43]
  have hlen := hds.len
  have zl : z.length ≤ sizeLine := hk
  by_cases c : rr.head? = some 43
  · rw [decide_eq_true c]
    refine iteT ⟨_, fun σ' H' z => z, ?_⟩
    obtain ⟨n, rfl⟩ : ∃ k, n = k + 1 := ⟨n - 1, by have := tail_lt c; omega⟩
    have ht := suf_tail hrr
    have tlt := tail_lt c
    refine ⟨_, rfl, _, rfl, _, 1, rfl, rfl, _, rfl, z, rr.tail, ?_, hz, ht, fun e => (qn (cont_none c e)).same s2, fun x' r2 e q2 vt2 H3 s3 hq2 hdv2 => ?_⟩
    · show [V.str z, V.int (((pos (tl z) rr : Nat) : Int) + 1), V.int (4 - (g : Int))] = _
      rw [pos_tail hrr c, Int.natCast_add]
      rfl
    obtain ⟨k1, k2, k3⟩ := progPair_ps g _ _ _ e
    refine ⟨q2, _, rfl, .inl (.inl hq2), rfl, vt2, _, rfl, _, _, rfl, rfl, ?_⟩
    have hD3 := s3 _ _ hDv
    refine ⟨_, rfl, .inl ⟨rfl, _, .inl (.inl hD3)⟩, _, rfl, D, vs, _, rfl, rfl, hD3, ?_, ?_⟩
    · rw [hlen]
      rw [sizeLine_eq] at *
      omega
    have up : But D H3 (upd H3 D (.lst (vs ++ [vt2]))) := But.upd
    refine ⟨r2.length, by omega, n, acc ++ [x'], r2, _, _, rfl, k1.trans ht, by omega, rfl, upd_same, ?_, ?_, ?_, ?_, ?_⟩
    · exact (DvAll.but up ⟨_, hD3⟩ nl (hds.same s3)).append (.cons (Dv.but up ⟨_, hD3⟩ k2 hdv2) .nil)
    · have : ∀ {l : List PyData}, noListAll l = true → noListAll (l ++ [x']) = true := fun {l} => by
        induction l with
        | nil => intro _; show noListAll [x'] = true; simp only [noListAll, k2, Bool.and_self]
        | cons a l ih =>
          intro h
          simp only [noListAll, Bool.and_eq_true] at h
          show noListAll (a :: (l ++ [x'])) = true
          simp only [noListAll, h.1, ih h.2, Bool.and_self]
      exact this nl
    · rw [List.length_append, List.length_singleton]
      omega
    · intro b o hb
      have nb : b ≠ D := fun z => by
        rw [z] at hb
        rw [s1 _ _ hb] at hD
        cases hD
      rw [upd_ne nb]
      exact s3 _ _ (s2 _ _ hb)
    · rw [heq]
      exact cont_more c e
  · rw [decide_eq_false c]
    refine iteF ?_
    rw [cont_end c] at qs
    refine ⟨_, rfl, D, vs, rfl, .inl ⟨.inl (.inl hDv), fun a ha => ?_⟩⟩
    refine ⟨_, rfl, small (by show 2 ≤ 1000; decide), fun q2 hq2 => ?_⟩
    have m3 := same_new ha (.tup vs)
    have m4 := same_new hq2 (.tup [V.ref a, .int ((pos (tl z) rr : Nat) : Int)])
    exact qs acc rr rfl q2 (.ref a) _ (Same.trans s2 (Same.trans m3 m4)) upd_same (.tup (.inl (.inl (m4 _ _ upd_same))) (hds.same (Same.trans m3 m4)))
end
end Fs
set_option Elab.async false
set_option linter.all false
set_option maxRecDepth 100000
set_option maxHeartbeats 2000000
namespace Fs
open PySem PySem.NumText L2
/-! ### far_from, read_far -/
abbrev s_far_from : Stmt := top 19
abbrev sc_far_fromN : List Str := ["text", "far", "end"]
theorem sc_far_from : FnScope sc_far_fromN ["text"] (defScope s_far_from) := ⟨rfl, rfl, rfl, by decide +kernel, rfl, by decide +kernel, by decide +kernel⟩
abbrev s_read_far : Stmt := top 27
abbrev sc_read_farN : List Str := ["text"]
theorem sc_read_far : FnScope sc_read_farN ["text"] (defScope s_read_far) := ⟨rfl, rfl, rfl, by decide +kernel, rfl, by decide +kernel, by decide +kernel⟩
def readD : PyData → Option (List PyData)
  | .str z => dueBy (progPairs 3) (tl z)
  | _ => none
def spRead (K : PySem.W.Frag) (CB : Addr) : Sp := fun vs H Q E => ∃ (v : V) (d : PyData), vs = [v] ∧ Dv K H v d ∧ (readD d = none → Refused CB v H E) ∧ ∀ ds, readD d = some ds → ∀ v' H', Same H H' → Dv K H' v' (.tuple ds) → Q v' H'
theorem pos_self (t : List Nat) : pos t t = 0 := by
  unfold pos
  rw [Nat.sub_self]
theorem pos_end {t r : List Nat} (h : r <:+ t) : pos t r = t.length ↔ r = [] := by
  have := suf_len h
  unfold pos
  cases r with
  | nil => exact ⟨fun _ => rfl, fun _ => rfl⟩
  | cons a r =>
    rw [List.length_cons] at *
    exact ⟨fun h => by omega, fun h => by cases h⟩
section
variable {P : Program} {w : World} {K : PySem.W.Frag} {mg : Str → Option Value} {base : Heap}
theorem ok_readTower {CB fI fA fB fC : Addr} {fdI fdA fdB fdC : FuncData} (FA : Fun K "pairs_from" "pairs_from" s_pairs_from fA fdA) (FB : Fun K "pair_from" "pair_from" s_pair_from fB fdB) (FC : Fun K "piece_from" "piece_from" s_piece_from fC fdC)
    (T : Bare mg) (C : Con K mg) (TB : BadTxt P w K mg base CB fI) (OI : FnOk P w K mg base CX0 1 fI fdI ["self", "value"] (spPassInit K)) (bI : Binds K fdI ["self", "value"] [])
    (mA : mg "pairs_from" = some (.ref fA)) (kA : PySem.W.keepIn K (.ref fA) = true) (bA : Binds K fdA ["text", "start", "depth"] [])
    (mB : mg "pair_from" = some (.ref fB)) (kB : PySem.W.keepIn K (.ref fB) = true) (bB : Binds K fdB ["text", "start", "depth"] [])
    (mC : mg "piece_from" = some (.ref fC)) (kC : PySem.W.keepIn K (.ref fC) = true) (bC : Binds K fdC ["text", "start", "depth"] [])
    (CR : Callee P w K mg base 1 "run_from" ["text", "start", "signs"] spRun) (CN : Callee P w K mg base 2 "number_of" ["word"] spNumber) :
    ∀ g, FnOk P w K mg base (L2.CX P w) (3 * g + 5) fA fdA ["text", "start", "depth"] (spPairs K CB (progPairs g) (4 - (g : Int)))
  | 0 => by
    have o1 := ok_piece (g := 0) (spP := spNo) FC T C TB OI bI CR (Nat.le_refl 2) (fun j e => by omega) ⟨fA, fdA, never_ok, mA, kA, bA⟩
    have o2 := ok_pairF (g := 0) FB T C TB OI bI CR CN (by decide) ⟨fC, fdC, o1, mC, kC, bC⟩
    exact ok_pairsF (g := 0) FA T C ⟨fB, fdB, o2, mB, kB, bB⟩
  | g + 1 => by
    have ih := ok_readTower FA FB FC T C TB OI bI mA kA bA mB kB bB mC kC bC CR CN g
    have o1 := ok_piece (g := g + 1) FC T C TB OI bI CR (by omega) (fun j e => by rw [show g = j by omega]) ⟨fA, fdA, ih, mA, kA, bA⟩
    have o2 := ok_pairF (g := g + 1) FB T C TB OI bI CR CN (by omega) ⟨fC, fdC, o1, mC, kC, bC⟩
    have o3 := ok_pairsF (g := g + 1) FA T C ⟨fB, fdB, o2, mB, kB, bB⟩
    rw [show 3 * (g + 1) + 5 = 3 * g + 5 + 1 + 1 + 1 by omega]
    exact o3
theorem ok_far_from {f CB fI : Addr} {fd fdI : FuncData} (F : Fun K "far_from" "far_from" s_far_from f fd) (T : Bare mg) (C : Con K mg) (TB : BadTxt P w K mg base CB fI) (OI : FnOk P w K mg base CX0 1 fI fdI ["self", "value"] (spPassInit K)) (bI : Binds K fdI ["self", "value"] [])
    (CP : CalleeX P w K mg base 14 "pairs_from" ["text", "start", "depth"] (spPairs K CB (progPairs 3) (4 - ((3 : Nat) : Int)))) (CF : Callee P w K mg base 11 "size_of_far" ["symbols", "value"] (spFar K)) : FnOk P w K mg base (L2.CX P w) 15 f fd ["text"] (spRead K CB) := by
  refine F.okX sc_far_from (fun vs H Q E h => ?_) (fun cdv A outer s H vs Q E hr h => ?_)
  · obtain ⟨v, d, rfl, _⟩ := h
    rfl
  obtain ⟨v, d, rfl, hd, qn, qs⟩ := h
  obtain ⟨t1, hal⟩ := C.alpha
  refine ⟨_, (pss_cons (ps_if (pt_not (pt_val (pe_callB call_isD (by rfl) C.isi boot_isi (pa_cons (pv 0) (pa_cons (pe_bltn (v := .ty "str") (u := .type "str") (by rfl) T.str (by decide +kernel) rfl) pa_nil)))))
(pss_one (ps_raise rfl (takes_of rfl rfl rfl rfl) (pmk_oex TB.ox TB.iC TB.tI OI (hr.mono (by decide)) bI .nil pass0 rfl TB.mg (pa_cons (pv 0) pa_nil))))
pss_nil)
(pss_cons (ps_asg (pe_call CP.ok hr rfl CP.mg CP.kp CP.b .nil (passes_call (takes_of rfl rfl rfl rfl) (fun _ _ _ _ h => h)) (pa_cons (pv 0) (pa_cons pe_int (pa_cons pe_int pa_nil)))) (pg_tup (by rfl) (pgs_cons (pg_name (i := 1) sc_far_from.nd rfl (Or.inl rfl)) (pgs_cons (pg_name (i := 2) sc_far_from.nd rfl (Or.inl rfl)) pgs_nil))))
(pss_cons (ps_if (PW.pt (pw_or (pt_cmpR op_ne (pv 2) (pe_callB call_len (by rfl) T.len PySem.boot_len (pa_cons (pv 0) pa_nil)) (nomark _)) (pw_or1 (pt_cmpR op_eq (pe_call CF.ok (hr.mono (by decide)) rfl CF.mg CF.kp CF.b .nil pass0 (pa_cons (pe_glob (v := .str alpha) (by rfl) hal ⟨_, rfl⟩) (pa_cons (pv 1) pa_nil))) pe_int (nomark _)))))
(pss_one (ps_raise rfl (takes_of rfl rfl rfl rfl) (pmk_oex TB.ox TB.iC TB.tI OI (hr.mono (by decide)) bI .nil pass0 rfl TB.mg (pa_cons (pv 0) pa_nil))))
pss_nil)
(pss_one (ps_ret (pv 1)))))), ?_⟩
  refine ⟨v, rfl, v, d, "str", rfl, hd, .inr (.inl rfl), _, rfl, ?_⟩
  by_cases hs : isT "str" d = true
  rotate_left
  · rw [Bool.eq_false_iff.mpr hs]
    refine iteT ?_
    have e : readD d = none := by
      cases d with
      | str z => exact absurd ((isT_str _).mpr ⟨z, rfl⟩) hs
      | _ => rfl
    have ref := qn e
    refine ⟨v, rfl, Nat.le_of_ble_eq_true rfl, fun a ha => ⟨a, CB, v, rfl, TB.ox, TB.nv, upd_same, fun dx n ne => ⟨rfl, dx, [("value", v)], upd_same, ?_, ?_, refuse ref ha n ne⟩⟩⟩
    · rw [upd_ne ne, upd_same]
    · rw [upd_ne ne] at n
      exact n
  obtain ⟨z, rfl⟩ := (isT_str d).mp hs
  rw [hs]
  refine iteF ?_
  cases hd with
  | str _ hz =>
  have hk := len_k hz
  have hl0 := len_tl z
  have none1 : progPairs 3 (tl z) = none → readD (.str z) = none := fun e => by
    show dueBy (progPairs 3) (tl z) = none
    unfold dueBy
    rw [e]
    rfl
  refine ⟨_, rfl, z, tl z, ?_, hz, List.suffix_refl _, fun e => qn (none1 e), fun ds r2 e q vt H1 s1 hq hdv => ?_⟩
  · show [V.str z, V.int 0, V.int 1] = [V.str z, V.int ((pos (tl z) (tl z) : Nat) : Int), V.int (4 - ((3 : Nat) : Int))]
    rw [pos_self]
    rfl
  have hr2 : r2 <:+ tl z := (progPairs_pfs 3 _ _ _ e).1
  have both : readD (.str z) = if r2 = [] ∧ far (.tuple ds) ≠ 0 then some ds else none := by
    show dueBy (progPairs 3) (tl z) = _
    unfold dueBy
    rw [e]
    rfl
  have refused : ¬ (r2 = [] ∧ far (.tuple ds) ≠ 0) → ∀ H2, Same H1 H2 → Refused CB (.str z) H2 E := fun c H2 s2 => (qn (by rw [both, if_neg c])).same (Same.trans s1 s2)
  refine ⟨q, _, rfl, .inl (.inl hq), rfl, vt, _, rfl, _, _, rfl, rfl, ?_⟩
  refine ⟨_, rfl, .str z, rfl, .str z, _, rfl, ⟨hk, rfl⟩, rfl, _, rfl, ?_⟩
  by_cases c1 : r2 = []
  rotate_left
  · have : ¬ (V.int ((pos (tl z) r2 : Nat) : Int) = V.int (z.length : Int)) := fun e => c1 ((pos_end hr2).mp (by have := V.int.inj e; omega))
    rw [decide_eq_false this]
    refine iteT (iteT ?_)
    have ref := refused (fun c => c1 c.1) H1 (fun _ _ e => e)
    refine ⟨.str z, rfl, Nat.le_of_ble_eq_true rfl, fun a ha => ⟨a, CB, .str z, rfl, TB.ox, TB.nv, upd_same, fun dx n ne => ⟨rfl, dx, [("value", .str z)], upd_same, ?_, ?_, refuse ref ha n ne⟩⟩⟩
    · rw [upd_ne ne, upd_same]
    · rw [upd_ne ne] at n
      exact n
  have : V.int ((pos (tl z) r2 : Nat) : Int) = V.int (z.length : Int) := congrArg V.int (by have := (pos_end hr2).mpr c1; omega)
  rw [decide_eq_true this]
  refine iteF ⟨vt, rfl, vt, .tuple ds, rfl, hdv, fun H2 s2 => ⟨rfl, _, rfl, ?_⟩⟩
  by_cases c2 : far (.tuple ds) = 0
  · have : V.int ((far (.tuple ds) : Nat) : Int) = V.int 0 := by rw [c2]; rfl
    rw [decide_eq_true this]
    refine iteT ?_
    have ref := refused (fun c => c.2 c2) H2 s2
    refine ⟨.str z, rfl, Nat.le_of_ble_eq_true rfl, fun a ha => ⟨a, CB, .str z, rfl, TB.ox, TB.nv, upd_same, fun dx n ne => ⟨rfl, dx, [("value", .str z)], upd_same, ?_, ?_, refuse ref ha n ne⟩⟩⟩
    · rw [upd_ne ne, upd_same]
    · rw [upd_ne ne] at n
      exact n
  · have : ¬ (V.int ((far (.tuple ds) : Nat) : Int) = V.int 0) := fun e => c2 (by have := V.int.inj e; omega)
    rw [decide_eq_false this]
    refine iteF ⟨vt, rfl, ?_⟩
    exact qs ds (by rw [both, if_pos ⟨c1, c2⟩]) vt H2 (Same.trans s1 s2) (hdv.same s2)
theorem ok_read_far {f CB : Addr} {fd : FuncData} (F : Fun K "read_far" "read_far" s_read_far f fd) (CP : CalleeX P w K mg base 15 "far_from" ["text"] (spRead K CB)) : FnOk P w K mg base (L2.CX P w) 16 f fd ["text"] (spRead K CB) := by
  refine F.okX sc_read_far (fun vs H Q E h => ?_) (fun cdv A outer s H vs Q E hr h => ?_)
  · obtain ⟨v, d, rfl, _⟩ := h
    rfl
  obtain ⟨v, d, rfl, hd, qn, qs⟩ := h
  refine ⟨_, (pss_one (ps_ret (pe_call CP.ok hr rfl CP.mg CP.kp CP.b .nil (passes_call (takes_of rfl rfl rfl rfl) (fun _ _ _ _ h => h)) (pa_cons (pv 0) pa_nil)))), ?_⟩
  exact ⟨v, rfl, v, d, rfl, hd, qn, qs⟩
end
end Fs
set_option Elab.async false
set_option linter.all false
set_option maxRecDepth 100000
set_option maxHeartbeats 2000000
namespace Fs
open PySem PySem.NumText L2
/-! ### far texts shown, by the program and by the law -/
abbrev s_far_in_signs : Stmt := top 18
abbrev sc_far_in_signsN : List Str := ["far", "rows", "piece", "times"]
theorem sc_far_in_signs : FnScope sc_far_in_signsN ["far"] (defScope s_far_in_signs) := ⟨rfl, rfl, rfl, by decide +kernel, rfl, by decide +kernel, by decide +kernel⟩
abbrev s_show_far : Stmt := top 26
abbrev sc_show_farN : List Str := ["far"]
theorem sc_show_far : FnScope sc_show_farN ["far"] (defScope s_show_far) := ⟨rfl, rfl, rfl, by decide +kernel, rfl, by decide +kernel, by decide +kernel⟩
abbrev s__law_shown : Stmt := top 35
abbrev sc__law_shownN : List Str := ["_law_far_here", "_law_found", "_law_piece", "_law_times", "_law_shown_here"]
theorem sc__law_shown : FnScope sc__law_shownN ["_law_far_here"] (defScope s__law_shown) := ⟨rfl, rfl, rfl, by decide +kernel, rfl, by decide +kernel, by decide +kernel⟩
theorem tl_app (x y : Str) : tl (x ++ y) = tl x ++ tl y := TL.tl_append x y
/-- the text of a far text -/
def shT (k : Nat) (d : PyData) : Str := tx (shFar k d)
def spSigns (K : PySem.W.Frag) (k : Nat) : Sp := fun vs H Q _ => ∃ (v : V) (d : PyData), vs = [v] ∧ Dv K H v d ∧ sz k d ≠ 0 ∧ ∀ H', Same H H' → Q (.str (shT k d)) H'
theorem lenB_mono : ∀ {i j : Nat}, i ≤ j → lenB i ≤ lenB j := by
  intro i j h
  induction h with
  | refl => exact Nat.le_refl _
  | step h ih =>
    refine Nat.le_trans ih ?_
    show _ ≤ 6 * (lenB _ + 43)
    omega
theorem lenB4 : lenB 4 = 66822 := by decide
theorem sh_short {k : Nat} {d : PyData} (hk : k ≤ 4) (h : sz k d ≠ 0) : (shFar k d).length ≤ 66822 := by
  have := (sh_len (tale_of_sz h)).1
  have := lenB_mono hk
  rw [lenB4] at this
  omega
theorem pr_short {k : Nat} {x : PyData} (hk : k + 1 ≤ 4) (h : szP (sz k) x ≠ 0) : (showPr (shFar k) x).length ≤ 66822 := by
  have t1 : sz (k + 1) (.tuple [x]) ≠ 0 := by
    have e : sz (k + 1) (.tuple [x]) = if 1 ≤ [x].length ∧ [x].length ≤ 6 then (if 0 ∈ [x].map (szP (sz k)) then 0 else ([x].map (szP (sz k))).sum) else 0 := rfl
    rw [e, if_pos ⟨Nat.le_refl 1, show 1 ≤ 6 by decide⟩, if_neg]
    · simpa using h
    · intro z
      have z : 0 ∈ [szP (sz k) x] := z
      exact h (List.mem_singleton.mp z).symm
  exact sh_short hk t1
theorem log_k {t : Int} (h1 : 1 ≤ t) (h2 : t ≤ 1000000000000000000) : t.natAbs.log2 < 1920 := by
  rw [Nat.log2_lt (by omega)]
  exact Nat.lt_of_lt_of_le (show t.natAbs < 2 ^ 64 by
    have : (1000000000000000000 : Nat) < 2 ^ 64 := by decide
    omega) (Nat.pow_le_pow_right (by decide) (by decide))
theorem tl_one (s : Str) (c : Nat) (h : s = ⟨#[c]⟩) : tl s = [c] := by
  rw [h]
theorem pr_str {f : PyData → List Nat} {z : Str} {t : Int} {y : Str} (h : tl y = tl z ++ 42 :: numT t) : y = tx (showPr f (.tuple [.str z, .int t])) := TL.ext_tl h
theorem pr_tup {f : PyData → List Nat} {es : List PyData} {t : Int} {y : Str} (h : tl y = 40 :: (f (.tuple es) ++ [41]) ++ 42 :: numT t) : y = tx (showPr f (.tuple [.tuple es, .int t])) := TL.ext_tl h
theorem join_shows {f : PyData → List Nat} {ds : List PyData} : Txt.join "+" (ds.map fun x => tx (showPr f x)) = tx (TL.joinL [43] (ds.map (showPr f))) := by
  refine TL.ext_tl ?_
  rw [TL.join_eq, TL.tl_join, List.map_map]
  rfl
theorem sum_short {N : Nat} : ∀ {l : List Str}, (∀ x ∈ l, x.length ≤ N) → (l.map (·.length)).sum ≤ l.length * N
  | [], _ => by simp
  | a :: l, h => by
    have ih := sum_short fun x hx => h x (List.mem_cons_of_mem _ hx)
    have ha := h a List.mem_cons_self
    rw [List.map_cons, List.sum_cons, List.length_cons, Nat.succ_mul]
    omega
section
variable {P : Program} {w : World} {K : PySem.W.Frag} {mg : Str → Option Value} {base : Heap}
theorem ok_signs {f : Addr} {fd : FuncData} {k lev : Nat} {spP : Sp} (F : Fun K "far_in_signs" "far_in_signs" s_far_in_signs f fd) (T : Bare mg) (C : Con K mg) (hk : k ≤ 4) (hP : ∀ j, k = j + 1 → spP = spSigns K j)
    (CP : Callee P w K mg base lev "far_in_signs" ["far"] spP) : FnOk P w K mg base CX0 (lev + 1) f fd ["far"] (spSigns K k) := by
  refine F.ok sc_far_in_signs (fun vs H Q E h => ?_) (fun cdv A outer s H vs Q E hr h => ?_)
  · obtain ⟨v, d, rfl, _⟩ := h
    rfl
  obtain ⟨v, d, rfl, hd, hsz, q⟩ := h
  refine ⟨_, (pss_cons (ps_set (i := 1) sc_far_in_signs.nd rfl (Or.inl rfl) (pe_lst pa_nil))
(pss_cons (ps_for PassesOwn.never rfl (pi_tup (pv 0)) (pg_tup (by rfl) (pgs_cons (pg_name (i := 2) sc_far_in_signs.nd rfl (Or.inl rfl)) (pgs_cons (pg_name (i := 3) sc_far_in_signs.nd rfl (Or.inl rfl)) pgs_nil)))
(pss_one (ps_expr (pe_bm PySem.F.plainAttrs_list PySem.F.slot_list_append PySem.F.type_list_append mt_append (pv 1) (pa_cons (pe_ifExp (pt_val (pe_callB call_isD (by rfl) C.isi boot_isi (pa_cons (pv 2) (pa_cons (pe_bltn (v := .ty "str") (u := .type "str") (by rfl) T.str (by decide +kernel) rfl) pa_nil)))) (pe_joined (.cons (pe_fmt (pv 2)) (.cons pe_str (.cons (pe_fmt (pv 3)) .nil)))) (pe_joined (.cons pe_str (.cons (pe_fmt (pe_call CP.ok hr rfl CP.mg CP.kp CP.b .nil pass0 (pa_cons (pv 2) pa_nil))) (.cons pe_str (.cons (pe_fmt (pv 3)) .nil)))))) pa_nil)))))
(pss_one (ps_ret (pe_join pe_str (pv 1)))))), ?_⟩
  obtain ⟨j, ds, rfl, rfl⟩ := sz_tuple hsz
  obtain ⟨c, gd⟩ := sz_good hsz
  have hsP := hP j rfl
  subst hsP
  cases hd with
  | @tup a xs _ hq g =>
  have hlen := g.len
  refine ⟨small (by show 0 ≤ 1000; decide), fun D hD => ?_⟩
  have m0 := same_new hD (.lst [])
  refine ⟨.ref a, rfl, a, rfl, ⟨_, same_sqT m0 hq⟩, for_tup (xs := xs) (fun i σ H' => ∃ x2 x3 : Option V, σ = [some (.ref a), some (.ref D), x2, x3] ∧ H' D = some (.lst (((ds.take i).map fun x => tx (showPr (shFar j) x)).map V.str)) ∧ Same H H') ?_ ?_ ?_ ?_⟩
  · exact ⟨_, _, rfl, upd_same, m0⟩
  · rintro i σ H' _ ⟨_, _, _, _, s1⟩
    exact same_sqT s1 hq
  · rintro i x σ H' hx ⟨x2, x3, rfl, hDl, s1⟩
    obtain ⟨d, hdi, hdx⟩ := g.get hx
    have hmem : d ∈ ds := List.mem_of_getElem? hdi
    have hil : i < ds.length := by
      rw [← hlen]
      exact (List.getElem?_eq_some_iff.mp hx).1
    obtain ⟨p, t, rfl, h1, h2, hq2⟩ := szP_shape (gd d hmem)
    have short := pr_short hk (gd _ hmem)
    cases hdx.same s1 with
    | @tup b ys _ hb gb =>
    cases gb with
    | @cons vp _ _ _ gp gb =>
    cases gb with
    | @cons vt _ _ _ gt gb =>
    cases gb
    cases gt
    refine ⟨b, _, rfl, hb, rfl, vp, _, rfl, _, _, rfl, rfl, ?_⟩
    refine ⟨_, rfl, .inl ⟨rfl, _, .inl (.inl hDl)⟩, vp, rfl, vp, p, "str", rfl, gp, .inr (.inl rfl), _, rfl, ?_⟩
    have nt := numT_of h1 h2
    have lnt : (Str.ofString (toString t)).length = (numT t).length := len_tl _
    have fin : ∀ (y : Str) (H2 : Hp), Same H' H2 → y = tx (showPr (shFar j) (.tuple [p, .int t])) → ∃ l xs x, (V.ref D : V) = .ref l ∧ ([V.str y] : List V) = [x] ∧ H2 l = some (.lst xs) ∧ xs.length < sizeLine ∧ ∃ x2 x3 : Option V, ([some (.ref a), some (.ref D), some vp, some (.int t)] : L2.St) = [some (.ref a), some (.ref D), x2, x3] ∧ upd H2 l (.lst (xs ++ [x])) D = some (.lst (((ds.take (i + 1)).map fun x => tx (showPr (shFar j) x)).map V.str)) ∧ Same H (upd H2 l (.lst (xs ++ [x]))) := fun y H2 s2 e => by
      refine ⟨D, _, _, rfl, rfl, s2 _ _ hDl, ?_, _, _, rfl, ?_, ?_⟩
      · rw [List.length_map, List.length_map, List.length_take]
        exact small1000 (by omega)
      · rw [upd_same, take_more hdi, List.map_append, List.map_append, e]
        rfl
      · intro b o hb
        rw [upd_ne (ne_of_none hb hD)]
        exact s2 _ _ (s1 _ _ hb)
    rcases hq2 with ⟨z, rfl, hz⟩ | hq2
    · rw [show isT "str" (.str z) = true from (isT_str _).mpr ⟨z, rfl⟩]
      cases gp with
      | str _ hzl =>
      have e : tl (((Str.empty ++ z) ++ "*") ++ Str.ofString (toString t)) = tl z ++ 42 :: numT t := by
        rw [tl_app, tl_app, tl_app, List.append_assoc, List.append_assoc]
        rfl
      have z20 := hz.2.1
      have lz := len_tl z
      have l1 : (Str.empty ++ z).length ≤ 20 := by
        rw [len_tl, tl_app]
        show ([] ++ tl z).length ≤ 20
        rw [List.nil_append]
        omega
      have l2 : ((Str.empty ++ z) ++ "*").length ≤ 21 := by
        rw [len_tl, tl_app, List.length_append, ← len_tl]
        show _ + 1 ≤ 21
        omega
      have l3 : (((Str.empty ++ z) ++ "*") ++ Str.ofString (toString t)).length ≤ 40 := by
        rw [len_tl, tl_app, List.length_append, ← len_tl]
        show _ + (numT t).length ≤ 40
        omega
      refine iteT ⟨.str z, rfl, .inl ⟨z, rfl, len_k hzl, z, rfl, len_k (by omega), _, rfl, len_k (by omega), _, rfl, .inr ⟨t, rfl, log_k h1 h2, _, rfl, len_k (by omega), ?_⟩⟩⟩
      exact fin _ H' (fun _ _ e => e) (pr_str e)
    · obtain ⟨_, es, _, rfl⟩ := sz_tuple hq2
      rw [show isT "str" (.tuple es) = false from Bool.eq_false_iff.mpr fun h => by obtain ⟨z, e⟩ := (isT_str _).mp h; cases e]
      have sh := sh_short (by omega) hq2
      have e : tl ((((Str.empty ++ "(") ++ shT j (.tuple es)) ++ ")*") ++ Str.ofString (toString t)) = 40 :: (shFar j (.tuple es) ++ [41]) ++ 42 :: numT t := by
        rw [tl_app, tl_app, tl_app, tl_app]
        show (([] ++ [40]) ++ shFar j (.tuple es)) ++ [41, 42] ++ numT t = _
        simp
      have l0 : (Str.empty ++ "(").length ≤ 1 := by decide +kernel
      have l1 : ((Str.empty ++ "(") ++ shT j (.tuple es)).length ≤ 66823 := by
        rw [len_tl, tl_app, List.length_append, ← len_tl]
        show _ + (shFar j (.tuple es)).length ≤ _
        omega
      have l2 : (((Str.empty ++ "(") ++ shT j (.tuple es)) ++ ")*").length ≤ 66825 := by
        rw [len_tl, tl_app, List.length_append, ← len_tl]
        show _ + 2 ≤ _
        omega
      have l3 : ((((Str.empty ++ "(") ++ shT j (.tuple es)) ++ ")*") ++ Str.ofString (toString t)).length ≤ 66844 := by
        rw [len_tl, tl_app, List.length_append, ← len_tl]
        show _ + (numT t).length ≤ _
        omega
      have lS : (shT j (.tuple es)).length ≤ 66822 := by
        rw [len_tl]
        exact sh
      refine iteF ⟨_, rfl, len_k (by omega), vp, rfl, vp, .tuple es, rfl, gp, hq2, fun H2 s2 => .inl ⟨_, rfl, len_k (by omega), _, rfl, len_k (by omega), _, rfl, len_k (by omega), _, rfl, .inr ⟨t, rfl, log_k h1 h2, _, rfl, len_k (by omega), ?_⟩⟩⟩
      exact fin _ H2 s2 (pr_tup e)
  · rintro σ H' ⟨x2, x3, rfl, hDl, s1⟩
    rw [hlen, List.take_length] at hDl
    refine ⟨⟨_, rfl⟩, _, rfl, "+", D, _, rfl, rfl, .inl (.inl (.inl hDl)), ?_, ?_⟩
    · have : ((ds.map fun x => tx (showPr (shFar j) x)).map (·.length)).sum ≤ (ds.map fun x => tx (showPr (shFar j) x)).length * 66822 := sum_short fun x hx => by
        obtain ⟨y, hy, rfl⟩ := List.mem_map.mp hx
        rw [tx_len]
        exact pr_short hk (gd y hy)
      rw [List.length_map] at *
      show _ + ds.length * 1 ≤ _
      have : ds.length * 66822 ≤ 6 * 66822 := Nat.mul_le_mul_right _ c.2
      omega
    · rw [join_shows]
      exact q H' s1
end
end Fs
set_option Elab.async false
set_option linter.all false
set_option maxRecDepth 100000
set_option maxHeartbeats 2000000
namespace Fs
open PySem PySem.NumText L2
def spShow (K : PySem.W.Frag) (CB : Addr) : Sp := fun vs H Q E => ∃ (v : V) (d : PyData), vs = [v] ∧ Dv K H v d ∧ (far d ≠ 0 → ∀ H', Same H H' → Q (.str (shT 4 d)) H') ∧ (far d = 0 → Refused CB v H E)
section
variable {P : Program} {w : World} {K : PySem.W.Frag} {mg : Str → Option Value} {base : Heap}
theorem vac_ok {f : Addr} {fd : FuncData} {ps : List Str} {k : Nat} {CX : CXT} {sp : Sp} (h : ∀ vs H Q E, ¬ sp vs H Q E) : FnOk P w K mg base CX k f fd ps sp :=
  ⟨fun _ _ _ _ z => (h _ _ _ _ z).elim, fun _ _ _ _ _ _ _ _ _ _ _ _ _ z => (h _ _ _ _ z).elim⟩
theorem signs0 : ∀ vs H Q E, ¬ spSigns K 0 vs H Q E := fun vs H Q E h => by
  obtain ⟨v, d, _, _, n, _⟩ := h
  exact n (sz_zero d)
theorem ok_signsT {f : Addr} {fd : FuncData} (F : Fun K "far_in_signs" "far_in_signs" s_far_in_signs f fd) (T : Bare mg) (C : Con K mg) (m : mg "far_in_signs" = some (.ref f)) (kk : PySem.W.keepIn K (.ref f) = true) (b : Binds K fd ["far"] []) : ∀ k, k ≤ 4 → FnOk P w K mg base CX0 (k + 1) f fd ["far"] (spSigns K k)
  | 0, _ => vac_ok signs0
  | k + 1, h => ok_signs (k := k + 1) F T C h (fun j e => by rw [show k = j by omega]) ⟨f, fd, ok_signsT F T C m kk b k (by omega), m, kk, b⟩
theorem ok_show {f CB : Addr} {fd : FuncData} (F : Fun K "show_far" "show_far" s_show_far f fd) (C : Con K mg) {fC : Addr} {fdC : FuncData} (OC : FnOk P w K mg base (L2.CX P w) 12 fC fdC ["symbols", "value"] (spCheck K CB))
    (mC : mg "check_far" = some (.ref fC)) (kC : PySem.W.keepIn K (.ref fC) = true) (bC : Binds K fdC ["symbols", "value"] [])
    (CS : Callee P w K mg base 5 "far_in_signs" ["far"] (spSigns K 4)) : FnOk P w K mg base (L2.CX P w) 13 f fd ["far"] (spShow K CB) := by
  refine F.okX sc_show_far (fun vs H Q E h => ?_) (fun cdv A outer s H vs Q E hr h => ?_)
  · obtain ⟨v, d, rfl, _⟩ := h
    rfl
  obtain ⟨v, d, rfl, hd, q, e⟩ := h
  obtain ⟨t1, hal⟩ := C.alpha
  refine ⟨_, (pss_cons (ps_expr (pe_call OC hr rfl mC kC bC .nil (passes_call (takes_of rfl rfl rfl rfl) (fun _ _ _ _ h => h)) (pa_cons (pe_glob (v := .str alpha) (by rfl) hal ⟨_, rfl⟩) (pa_cons (pv 0) pa_nil))))
(pss_one (ps_ret (pe_call CS.ok (hr.mono (by decide)) rfl CS.mg CS.kp CS.b .nil pass0 (pa_cons (pv 0) pa_nil))))), ?_⟩
  refine ⟨v, rfl, v, d, rfl, hd, fun h0 H1 s1 => ?_, fun h0 => e h0⟩
  exact ⟨v, rfl, v, d, rfl, hd.same s1, far_sz h0, fun H2 s2 => q h0 H2 (Same.trans s1 s2)⟩
theorem ok_lshown {f : Addr} {fd : FuncData} {k lev : Nat} {spP : Sp} (F : Fun K "_law_shown" "_law_shown" s__law_shown f fd) (T : Bare mg) (C : Con K mg) (hk : k ≤ 4) (hP : ∀ j, k = j + 1 → spP = spSigns K j)
    (CP : Callee P w K mg base lev "_law_shown" ["_law_far_here"] spP) : FnOk P w K mg base CX0 (lev + 1) f fd ["_law_far_here"] (spSigns K k) := by
  refine F.ok sc__law_shown (fun vs H Q E h => ?_) (fun cdv A outer s H vs Q E hr h => ?_)
  · obtain ⟨v, d, rfl, _⟩ := h
    rfl
  obtain ⟨v, d, rfl, hd, hsz, q⟩ := h
  refine ⟨_, (pss_cons (ps_set (i := 1) sc__law_shown.nd rfl (Or.inl rfl) (pe_lst pa_nil))
(pss_cons (ps_for PassesOwn.never rfl (pi_tup (pv 0)) (pg_tup (by rfl) (pgs_cons (pg_name (i := 2) sc__law_shown.nd rfl (Or.inl rfl)) (pgs_cons (pg_name (i := 3) sc__law_shown.nd rfl (Or.inl rfl)) pgs_nil)))
(pss_cons (ps_set (i := 4) sc__law_shown.nd rfl (Or.inl rfl) (pe_ifExp (pt_val (pe_callB call_isD (by rfl) C.isi boot_isi (pa_cons (pv 2) (pa_cons (pe_bltn (v := .ty "str") (u := .type "str") (by rfl) T.str (by decide +kernel) rfl) pa_nil)))) (pv 2) (pe_op op_add_str (pe_op op_add_str pe_str (pe_call CP.ok hr rfl CP.mg CP.kp CP.b .nil pass0 (pa_cons (pv 2) pa_nil))) pe_str)))
(pss_one (ps_expr (pe_bm PySem.F.plainAttrs_list PySem.F.slot_list_append PySem.F.type_list_append mt_append (pv 1) (pa_cons (pe_op op_add_str (pe_op op_add_str (pv 4) pe_str) (pe_callTy call_str_int (by rfl) T.str (by decide +kernel) (pa_cons (pv 3) pa_nil))) pa_nil))))))
(pss_one (ps_ret (pe_join pe_str (pv 1)))))), ?_⟩
  obtain ⟨j, ds, rfl, rfl⟩ := sz_tuple hsz
  obtain ⟨c, gd⟩ := sz_good hsz
  have hsP := hP j rfl
  subst hsP
  cases hd with
  | @tup a xs _ hq g =>
  have hlen := g.len
  refine ⟨small (by show 0 ≤ 1000; decide), fun D hD => ?_⟩
  have m0 := same_new hD (.lst [])
  refine ⟨.ref a, rfl, a, rfl, ⟨_, same_sqT m0 hq⟩, for_tup (xs := xs) (fun i σ H' => ∃ x2 x3 x4 : Option V, σ = [some (.ref a), some (.ref D), x2, x3, x4] ∧ H' D = some (.lst (((ds.take i).map fun x => tx (showPr (shFar j) x)).map V.str)) ∧ Same H H') ?_ ?_ ?_ ?_⟩
  · exact ⟨_, _, _, rfl, upd_same, m0⟩
  · rintro i σ H' _ ⟨_, _, _, _, _, s1⟩
    exact same_sqT s1 hq
  · rintro i x σ H' hx ⟨x2, x3, x4, rfl, hDl, s1⟩
    obtain ⟨d, hdi, hdx⟩ := g.get hx
    have hmem : d ∈ ds := List.mem_of_getElem? hdi
    have hil : i < ds.length := by
      rw [← hlen]
      exact (List.getElem?_eq_some_iff.mp hx).1
    obtain ⟨p, t, rfl, h1, h2, hq2⟩ := szP_shape (gd d hmem)
    cases hdx.same s1 with
    | @tup b ys _ hb gb =>
    cases gb with
    | @cons vp _ _ _ gp gb =>
    cases gb with
    | @cons vt _ _ _ gt gb =>
    cases gb
    cases gt
    refine ⟨b, _, rfl, hb, rfl, vp, _, rfl, _, _, rfl, rfl, ?_⟩
    refine ⟨vp, rfl, vp, p, "str", rfl, gp, .inr (.inl rfl), _, rfl, ?_⟩
    have nt := numT_of h1 h2
    have lnt : (Str.ofString (toString t)).length = (numT t).length := len_tl _
    have sl : sizeLine = 16777216 := sizeLine_eq
    have fin : ∀ (y : Str) (x4 : Option V) (H2 : Hp), Same H' H2 → y = tx (showPr (shFar j) (.tuple [p, .int t])) → ∃ l xs x, (V.ref D : V) = .ref l ∧ ([V.str y] : List V) = [x] ∧ H2 l = some (.lst xs) ∧ xs.length < sizeLine ∧ ∃ x2 x3 x5 : Option V, ([some (.ref a), some (.ref D), some vp, some (.int t), x4] : L2.St) = [some (.ref a), some (.ref D), x2, x3, x5] ∧ upd H2 l (.lst (xs ++ [x])) D = some (.lst (((ds.take (i + 1)).map fun x => tx (showPr (shFar j) x)).map V.str)) ∧ Same H (upd H2 l (.lst (xs ++ [x]))) := fun y x4 H2 s2 e => by
      refine ⟨D, _, _, rfl, rfl, s2 _ _ hDl, ?_, _, _, _, rfl, ?_, ?_⟩
      · rw [List.length_map, List.length_map, List.length_take]
        exact small1000 (by omega)
      · rw [upd_same, take_more hdi, List.map_append, List.map_append, e]
        rfl
      · intro b o hb
        rw [upd_ne (ne_of_none hb hD)]
        exact s2 _ _ (s1 _ _ hb)
    rcases hq2 with ⟨z, rfl, hz⟩ | hq2
    · rw [show isT "str" (.str z) = true from (isT_str _).mpr ⟨z, rfl⟩]
      cases gp with
      | str _ hzl =>
      have e : tl ((z ++ "*") ++ Str.ofString (toString t)) = tl z ++ 42 :: numT t := by
        rw [tl_app, tl_app, List.append_assoc]
        rfl
      have z20 := hz.2.1
      have lz := len_tl z
      have l2 : (z ++ "*").length ≤ 21 := by
        rw [len_tl, tl_app, List.length_append, ← len_tl]
        show _ + 1 ≤ 21
        omega
      have l1 : ("*" : Str).length = 1 := by decide +kernel
      refine iteT ⟨.str z, rfl, ?_⟩
      refine ⟨_, rfl, .inl ⟨rfl, _, .inl (.inl hDl)⟩, .str z, rfl, z, _, rfl, rfl, by omega, _, rfl, t, rfl, log_k h1 h2, _, _, rfl, rfl, by omega, ?_⟩
      exact fin _ _ H' (fun _ _ e => e) (pr_str e)
    · obtain ⟨_, es, _, rfl⟩ := sz_tuple hq2
      rw [show isT "str" (.tuple es) = false from Bool.eq_false_iff.mpr fun h => by obtain ⟨z, e⟩ := (isT_str _).mp h; cases e]
      have sh := sh_short (by omega) hq2
      have e : tl ((((("(" : Str) ++ shT j (.tuple es)) ++ ")") ++ "*") ++ Str.ofString (toString t)) = 40 :: (shFar j (.tuple es) ++ [41]) ++ 42 :: numT t := by
        rw [tl_app, tl_app, tl_app, tl_app]
        show ((([40] ++ shFar j (.tuple es)) ++ [41]) ++ [42]) ++ numT t = _
        simp
      have l0 : ("(" : Str).length = 1 := by decide +kernel
      have l00 : (")" : Str).length = 1 := by decide +kernel
      have l01 : ("*" : Str).length = 1 := by decide +kernel
      have lS : (shT j (.tuple es)).length ≤ 66822 := by
        rw [len_tl]
        exact sh
      have l1 : (("(" : Str) ++ shT j (.tuple es)).length ≤ 66823 := by
        rw [len_tl, tl_app, List.length_append, ← len_tl]
        show 1 + (shFar j (.tuple es)).length ≤ _
        omega
      have l2 : ((("(" : Str) ++ shT j (.tuple es)) ++ ")").length ≤ 66824 := by
        rw [len_tl, tl_app, List.length_append, ← len_tl]
        show _ + 1 ≤ _
        omega
      have l3 : (((("(" : Str) ++ shT j (.tuple es)) ++ ")") ++ "*").length ≤ 66825 := by
        rw [len_tl, tl_app, List.length_append, ← len_tl]
        show _ + 1 ≤ _
        omega
      refine iteF ⟨vp, rfl, vp, .tuple es, rfl, gp, hq2, fun H2 s2 => ⟨_, _, rfl, rfl, by omega, _, _, rfl, rfl, by omega, ?_⟩⟩
      refine ⟨_, rfl, .inl ⟨rfl, _, .inl (.inl (s2 _ _ hDl))⟩, _, rfl, _, _, rfl, rfl, by omega, _, rfl, t, rfl, log_k h1 h2, _, _, rfl, rfl, by omega, ?_⟩
      exact fin _ _ H2 s2 (pr_tup e)
  · rintro σ H' ⟨x2, x3, x4, rfl, hDl, s1⟩
    rw [hlen, List.take_length] at hDl
    refine ⟨⟨_, rfl⟩, _, rfl, "+", D, _, rfl, rfl, .inl (.inl (.inl hDl)), ?_, ?_⟩
    · have : ((ds.map fun x => tx (showPr (shFar j) x)).map (·.length)).sum ≤ (ds.map fun x => tx (showPr (shFar j) x)).length * 66822 := sum_short fun x hx => by
        obtain ⟨y, hy, rfl⟩ := List.mem_map.mp hx
        rw [tx_len]
        exact pr_short hk (gd y hy)
      rw [List.length_map] at *
      show _ + ds.length * 1 ≤ _
      have : ds.length * 66822 ≤ 6 * 66822 := Nat.mul_le_mul_right _ c.2
      omega
    · rw [join_shows]
      exact q H' s1
theorem ok_lshownT {f : Addr} {fd : FuncData} (F : Fun K "_law_shown" "_law_shown" s__law_shown f fd) (T : Bare mg) (C : Con K mg) (m : mg "_law_shown" = some (.ref f)) (kk : PySem.W.keepIn K (.ref f) = true) (b : Binds K fd ["_law_far_here"] []) : ∀ k, k ≤ 4 → FnOk P w K mg base CX0 (k + 1) f fd ["_law_far_here"] (spSigns K k)
  | 0, _ => vac_ok signs0
  | k + 1, h => ok_lshown (k := k + 1) F T C h (fun j e => by rw [show k = j by omega]) ⟨f, fd, ok_lshownT F T C m kk b k (by omega), m, kk, b⟩
end
end Fs
set_option Elab.async false
set_option linter.all false
set_option maxRecDepth 100000
set_option maxHeartbeats 2000000
namespace Fs
open PySem PySem.NumText L2
/-! ### the law's own tower, its length -/
def rIsD (K : PySem.W.Frag) : List V → Hp → VK → Prop := fun xs H Q => ∃ (v : V) (d : PyData) (T : String), xs = [v, .ty T] ∧ Dv K H v d ∧ (T = "tuple" ∨ T = "str" ∨ T = "int" ∨ T = "bool") ∧ Q (.bl (isT T d)) H
theorem call_isB {X : Cx} {K : PySem.W.Frag} (hK : X.K = K) : CallR X (.builtin "isinstance") (rIsD K) := by
  subst hK
  exact call_isD
def rLenK (K : PySem.W.Frag) : List V → Hp → VK → Prop := fun xs H Q => ∃ (p : Addr) (ys : List V), xs = [.ref p] ∧ (SqL K H p ys ∨ SqT K H p ys) ∧ Q (.int ys.length) H
theorem call_lenB {X : Cx} {K : PySem.W.Frag} (hK : X.K = K) : CallR X (.builtin "len") (rLenK K) := by
  subst hK
  exact call_len_seq
def rLenS : List V → Hp → VK → Prop := fun xs H Q => ∃ z : Str, xs = [.str z] ∧ z.length ≤ sizeLine ∧ Q (.int (z.length : Int)) H
theorem call_lenS {X : Cx} : CallR X (.builtin "len") rLenS := by
  intro pins s σ H xs us Q I r h
  obtain ⟨z, rfl, hk, q⟩ := h
  exact call_len pins s σ H _ us Q I r ⟨.str z, z.length, rfl, ⟨hk, rfl⟩, q⟩
abbrev s__law_long : Stmt := top 36
abbrev sc__law_longN : List Str := ["_law_far_here", "_law_piece", "_law_times"]
theorem sc__law_long : FnScope sc__law_longN ["_law_far_here"] (defScope s__law_long) := ⟨rfl, rfl, rfl, by decide +kernel, rfl, by decide +kernel, by decide +kernel⟩
abbrev s__law_is_piece : Stmt := top 37
abbrev sc__law_is_pieceN : List Str := ["_law_value", "_law_deep", "_law_letter"]
theorem sc__law_is_piece : FnScope sc__law_is_pieceN ["_law_value", "_law_deep"] (defScope s__law_is_piece) := ⟨rfl, rfl, rfl, by decide +kernel, rfl, by decide +kernel, by decide +kernel⟩
abbrev s__law_is_tower : Stmt := top 38
abbrev sc__law_is_towerN : List Str := ["_law_value", "_law_deep", "_law_piece", "_law_times", "_law_pair"]
theorem sc__law_is_tower : FnScope sc__law_is_towerN ["_law_value", "_law_deep"] (defScope s__law_is_tower) := ⟨rfl, rfl, rfl, by decide +kernel, rfl, by decide +kernel, by decide +kernel⟩
abbrev s__law_is_far : Stmt := top 39
abbrev sc__law_is_farN : List Str := ["_law_value"]
theorem sc__law_is_far : FnScope sc__law_is_farN ["_law_value"] (defScope s__law_is_far) := ⟨rfl, rfl, rfl, by decide +kernel, rfl, by decide +kernel, by decide +kernel⟩
def spLong (K : PySem.W.Frag) (k : Nat) : Sp := fun vs H Q _ => ∃ (v : V) (d : PyData), vs = [v] ∧ Dv K H v d ∧ sz k d ≠ 0 ∧ ∀ H', Same H H' → Q (.int (sz k d : Nat)) H'
def pieceB (j : Nat) : PyData → Bool
  | .str z => decide (1 ≤ z.length ∧ z.length ≤ 20) && ofL z
  | p => decide (sz j p ≠ 0)
def spIsPiece (K : PySem.W.Frag) (j : Nat) : Sp := fun vs H Q _ => ∃ (v : V) (d : PyData), vs = [v, .int (4 - (j : Int))] ∧ Dv K H v d ∧ ∀ H', Same H H' → Q (.bl (pieceB j d)) H'
def spTower (K : PySem.W.Frag) (k : Nat) : Sp := fun vs H Q _ => ∃ (v : V) (d : PyData), vs = [v, .int (5 - (k : Int))] ∧ Dv K H v d ∧ ∀ H', Same H H' → Q (.bl (decide (sz k d ≠ 0))) H'
def spIsFar (K : PySem.W.Frag) : Sp := fun vs H Q _ => ∃ (v : V) (d : PyData), vs = [v] ∧ Dv K H v d ∧ ∀ H', Same H H' → Q (.bl (decide (far d ≠ 0))) H'
theorem pieceB_iff {j : Nat} {p : PyData} : pieceB j p = true ↔ (∃ z, p = .str z ∧ Small z) ∨ (sz j p ≠ 0 ∧ ∀ z, p ≠ .str z) := by
  cases p with
  | str z =>
    show (decide (1 ≤ z.length ∧ z.length ≤ 20) && ofL z) = true ↔ _
    rw [Bool.and_eq_true, decide_eq_true_iff]
    constructor
    · intro h
      exact .inl ⟨z, rfl, h.1.1, h.1.2, h.2⟩
    · rintro (⟨y, e, h⟩ | ⟨_, h⟩)
      · cases e
        exact ⟨⟨h.1, h.2.1⟩, h.2.2⟩
      · exact absurd rfl (h z)
  | _ =>
    show decide _ = true ↔ _
    rw [decide_eq_true_iff]
    constructor
    · intro h
      exact .inr ⟨h, nofun⟩
    · rintro (⟨y, e, h⟩ | ⟨h, _⟩)
      · cases e
      · exact h
theorem szP_iff {j : Nat} {p : PyData} {t : Int} : szP (sz j) (.tuple [p, .int t]) ≠ 0 ↔ (1 ≤ t ∧ t ≤ 1000000000000000000) ∧ pieceB j p = true := by
  rw [pieceB_iff]
  constructor
  · intro h
    obtain ⟨q, s, e, h1, h2, hq⟩ := szP_shape h
    cases e
    refine ⟨⟨h1, h2⟩, ?_⟩
    rcases hq with hq | hq
    · exact .inl hq
    · refine .inr ⟨hq, fun z e => ?_⟩
      obtain ⟨_, ds, _, e2⟩ := sz_tuple hq
      rw [e2] at e
      cases e
  · rintro ⟨⟨h1, h2⟩, h⟩
    exact szP_back h1 h2 h
theorem sz_iff {j : Nat} {ds : List PyData} (h : 1 ≤ ds.length ∧ ds.length ≤ 6) : sz (j + 1) (.tuple ds) ≠ 0 ↔ ∀ x ∈ ds, szP (sz j) x ≠ 0 := by
  constructor
  · exact fun z => (sz_good z).2
  · intro g
    have e : sz (j + 1) (.tuple ds) = if 1 ≤ ds.length ∧ ds.length ≤ 6 then (if 0 ∈ ds.map (szP (sz j)) then 0 else (ds.map (szP (sz j))).sum) else 0 := rfl
    have n0 : 0 ∉ ds.map (szP (sz j)) := fun z => by
      obtain ⟨x, hx, e⟩ := List.mem_map.mp z
      exact g x hx e
    rw [e, if_pos h, if_neg n0]
    exact sum_ne (by rw [List.length_map]; exact h.1) n0
theorem sums_int (f : PyData → Nat) : ∀ (l : List PyData), (l.map fun d => ((f d : Nat) : Int)).sum = (((l.map f).sum : Nat) : Int)
  | [] => rfl
  | d :: l => by rw [List.map_cons, List.map_cons, List.sum_cons, List.sum_cons, sums_int f l, Int.natCast_add]
theorem one_lt (c d : Nat) : ([c] < [d]) ↔ c < d := by
  rw [List.cons_lt_cons_iff]
  constructor
  · rintro (h | ⟨_, h⟩)
    · exact h
    · exact absurd h (by simp)
  · exact .inl
theorem tl_a : tl ("a" : Str) = [97] := by decide +kernel
theorem tl_z : tl ("z" : Str) = [122] := by decide +kernel
section
variable {P : Program} {w : World} {K : PySem.W.Frag} {mg : Str → Option Value} {base : Heap}
theorem ok_long {f : Addr} {fd : FuncData} {k lev : Nat} {spP : Sp} (F : Fun K "_law_long" "_law_long" s__law_long f fd) (T : Bare mg) (C : Con K mg) (hP : ∀ j, k = j + 1 → spP = spLong K j)
    (CP : Callee P w K mg base lev "_law_long" ["_law_far_here"] spP) : FnOk P w K mg base CX0 (lev + 1) f fd ["_law_far_here"] (spLong K k) := by
  refine F.ok sc__law_long (fun vs H Q E h => ?_) (fun cdv A outer s H vs Q E hr h => ?_)
  · obtain ⟨v, d, rfl, _⟩ := h
    rfl
  obtain ⟨v, d, rfl, hd, hsz, q⟩ := h
  refine ⟨_, (pss_one (ps_ret (pe_callB (cr_sum rfl) (by rfl) C.sum (by decide +kernel) (pa_cons (pe_lc (own := [("_law_piece", 1), ("_law_times", 2)]) (g := gTup K 2 (gCons (gName 1) (gCons (gName 2) gNil))) rfl sc__law_long.nd (pi_tup (pv 0)) (blkOk_by (N := sc__law_longN) (sc := defScope s__law_long) (by decide +kernel)) (fun _ _ _ _ _ => pg_tup (by rfl) (pgs_cons (pg_name (i := 1) sc__law_long.nd rfl (Or.inl rfl)) (pgs_cons (pg_name (i := 2) sc__law_long.nd rfl (Or.inl rfl)) pgs_nil))) (fun _ _ _ _ _ => pts_nil) (fun _ _ _ _ _ => (pe_op op_mul (pe_ifExp (pt_val (pe_callB (call_isB (K := K) rfl) (by rfl) C.isi boot_isi (pa_cons (pv 1) (pa_cons (pe_bltn (v := .ty "str") (u := .type "str") (by rfl) T.str (by decide +kernel) rfl) pa_nil)))) (pe_callB call_lenS (by rfl) T.len PySem.boot_len (pa_cons (pv 1) pa_nil)) (pe_call CP.ok hr rfl CP.mg CP.kp CP.b .nil pass0 (pa_cons (pv 1) pa_nil))) (pv 2)))) pa_nil)))), ?_⟩
  obtain ⟨j, ds, rfl, rfl⟩ := sz_tuple hsz
  obtain ⟨c, gd⟩ := sz_good hsz
  have hsP := hP j rfl
  subst hsP
  cases hd with
  | @tup a xs _ hq g =>
  have hlen := g.len
  refine ⟨.ref a, rfl, a, rfl, ⟨_, hq⟩, fun D hD => lc_it (walk_tup (xs := xs)) (fun i H' => H' D = some (.lst (((ds.take i).map fun d => ((szP (sz j) d : Nat) : Int)).map V.int)) ∧ Same H H') ?_ ?_ ?_ ?_⟩
  · exact ⟨upd_same, same_new hD _⟩
  · exact fun i H' _ p => same_sqT p.2 hq
  · rintro i x H1 H2 hi ⟨hl, hs⟩ ⟨rfl, hx⟩
    obtain ⟨d, hdi, hdx⟩ := g.get hx
    have hmem : d ∈ ds := List.mem_of_getElem? hdi
    obtain ⟨p, t, rfl, h1, h2, hq2⟩ := szP_shape (gd d hmem)
    have val : szP (sz j) (.tuple [p, .int t]) = szQ (sz j) t p := szT_in _ _ ⟨h1, h2⟩
    cases hdx.same hs with
    | @tup b ys _ hb gb =>
    cases gb with
    | @cons vp _ _ _ gp gb =>
    cases gb with
    | @cons vt _ _ _ gt gb =>
    cases gb
    cases gt
    refine ⟨b, _, rfl, hb, rfl, vp, _, rfl, _, _, rfl, rfl, rfl, ?_⟩
    simp only [tYes, ↓reduceIte]
    have fin : ∀ (n : Nat) (H3 : Hp), Same H2 H3 → szP (sz j) (.tuple [p, .int t]) = t.toNat * n → ∃ i' j' : Int, (V.int (n : Int)) = .int i' ∧ (V.int t) = .int j' ∧ ((-(2 ^ 64) < i' ∧ i' < 2 ^ 64) ∨ (-(2 ^ 64) < j' ∧ j' < 2 ^ 64)) ∧ ∃ acc, H3 D = some (.lst acc) ∧ acc.length < sizeLine ∧ (upd H3 D (.lst (acc ++ [V.int (i' * j')]))) D = some (.lst (((ds.take (i + 1)).map fun d => ((szP (sz j) d : Nat) : Int)).map V.int)) ∧ Same H (upd H3 D (.lst (acc ++ [V.int (i' * j')]))) := fun n H3 s3 e => by
      refine ⟨_, _, rfl, rfl, .inr ⟨by omega, by omega⟩, _, s3 _ _ hl, ?_, ?_, ?_⟩
      · rw [List.length_map, List.length_map, List.length_take]
        exact small1000 (by omega)
      · rw [upd_same, take_more hdi, List.map_append, List.map_append]
        show some (HO.lst (_ ++ [V.int ((n : Int) * t)])) = some (HO.lst (_ ++ [V.int ((szP (sz j) (.tuple [p, .int t]) : Nat) : Int)]))
        rw [e, Int.natCast_mul, Int.toNat_of_nonneg (by omega), Int.mul_comm]
      · intro b o hb
        rw [upd_ne (ne_of_none hb hD)]
        exact s3 _ _ (hs _ _ hb)
    refine ⟨vp, rfl, vp, p, "str", rfl, gp, .inr (.inl rfl), _, rfl, ?_⟩
    rcases hq2 with ⟨z, rfl, hz⟩ | hq2
    · rw [show isT "str" (.str z) = true from (isT_str _).mpr ⟨z, rfl⟩]
      cases gp with
      | str _ hzl =>
      refine iteT ⟨.str z, rfl, z, rfl, len_k hzl, _, rfl, ?_⟩
      refine fin z.length H2 (fun _ _ e => e) ?_
      rw [val]
      have e : szQ (sz j) t (.str z) = if z.length ≤ 20 ∧ ofL z = true then t.toNat * z.length else 0 := rfl
      rw [e, if_pos ⟨hz.2.1, hz.2.2⟩]
    · obtain ⟨_, es, _, rfl⟩ := sz_tuple hq2
      rw [show isT "str" (.tuple es) = false from Bool.eq_false_iff.mpr fun h => by obtain ⟨z, e⟩ := (isT_str _).mp h; cases e]
      refine iteF ⟨vp, rfl, vp, .tuple es, rfl, gp, hq2, fun H3 s3 => ⟨_, rfl, ?_⟩⟩
      exact fin _ H3 s3 val
  · rintro H1 ⟨hl, hs⟩
    rw [hlen, List.take_length] at hl
    refine ⟨D, _, rfl, .inl (.inl hl), ?_⟩
    rw [sums_int]
    have z := q H1 hs
    have n0 : 0 ∉ ds.map (szP (sz j)) := fun z => by
      obtain ⟨x, hx, e⟩ := List.mem_map.mp z
      exact gd x hx e
    have e : sz (j + 1) (.tuple ds) = if 1 ≤ ds.length ∧ ds.length ≤ 6 then (if 0 ∈ ds.map (szP (sz j)) then 0 else (ds.map (szP (sz j))).sum) else 0 := rfl
    rw [e, if_pos c, if_neg n0] at z
    exact z
theorem ok_longT {f : Addr} {fd : FuncData} (F : Fun K "_law_long" "_law_long" s__law_long f fd) (T : Bare mg) (C : Con K mg) (m : mg "_law_long" = some (.ref f)) (kk : PySem.W.keepIn K (.ref f) = true) (b : Binds K fd ["_law_far_here"] []) : ∀ k, FnOk P w K mg base CX0 (k + 1) f fd ["_law_far_here"] (spLong K k)
  | 0 => vac_ok fun vs H Q E h => by
    obtain ⟨v, d, _, _, n, _⟩ := h
    exact n (sz_zero d)
  | k + 1 => ok_long (k := k + 1) F T C (fun j e => by rw [show k = j by omega]) ⟨f, fd, ok_longT F T C m kk b k, m, kk, b⟩
theorem ok_isPiece {f : Addr} {fd : FuncData} {j lev : Nat} (F : Fun K "_law_is_piece" "_law_is_piece" s__law_is_piece f fd) (T : Bare mg) (C : Con K mg)
    (CP : Callee P w K mg base lev "_law_is_tower" ["_law_value", "_law_deep"] (spTower K j)) : FnOk P w K mg base CX0 (lev + 1) f fd ["_law_value", "_law_deep"] (spIsPiece K j) := by
  refine F.ok sc__law_is_piece (fun vs H Q E h => ?_) (fun cdv A outer st H vs Q E hr h => ?_)
  · obtain ⟨v, d, rfl, _⟩ := h
    rfl
  obtain ⟨v, d, rfl, hd, q⟩ := h
  refine ⟨_, (pss_cons (ps_if (pt_val (pe_callB call_isD (by rfl) C.isi boot_isi (pa_cons (pv 0) (pa_cons (pe_bltn (v := .ty "str") (u := .type "str") (by rfl) T.str (by decide +kernel) rfl) pa_nil))))
(pss_one (ps_ret (pe_and (pe_chain op_le op_le pe_int (pe_callB call_len (by rfl) T.len PySem.boot_len (pa_cons (pv 0) pa_nil)) pe_int) (pe_one (pe_callB (cr_all rfl) (by rfl) C.all (by decide +kernel) (pa_cons (pe_lc (own := [("_law_letter", 2)]) (g := gName 2) rfl sc__law_is_piece.nd (pi_str (pv 0)) (blkOk_by (N := sc__law_is_pieceN) (sc := defScope s__law_is_piece) (by decide +kernel)) (fun _ _ _ _ _ => pg_name (i := 2) sc__law_is_piece.nd rfl (Or.inl rfl)) (fun _ _ _ _ _ => pts_nil) (fun _ _ _ _ _ => (pe_chain op_le_str op_le_str pe_str (pv 2) pe_str))) pa_nil))))))
pss_nil)
(pss_one (ps_ret (pe_call CP.ok hr rfl CP.mg CP.kp CP.b .nil pass0 (pa_cons (pv 0) (pa_cons (pe_op op_add (pv 1) pe_int) pa_nil)))))), ?_⟩
  refine ⟨v, rfl, v, d, "str", rfl, hd, .inr (.inl rfl), _, rfl, ?_⟩
  by_cases hs : isT "str" d = true
  rotate_left
  · rw [Bool.eq_false_iff.mpr hs]
    refine iteF ⟨v, rfl, _, rfl, _, 1, rfl, rfl, v, d, ?_, hd, fun H1 s1 => ?_⟩
    · show [v, V.int (4 - (j : Int) + 1)] = _
      rw [show (4 - (j : Int) + 1) = 5 - (j : Int) by omega]
    · have e : pieceB j d = decide (sz j d ≠ 0) := by
        cases d with
        | str z => exact absurd ((isT_str _).mpr ⟨z, rfl⟩) hs
        | _ => rfl
      have z := q H1 s1
      rw [e] at z
      exact z
  obtain ⟨z, rfl⟩ := (isT_str d).mp hs
  rw [hs]
  refine iteT ?_
  cases hd with
  | str _ hz =>
  have hk := len_k hz
  have fin : ∀ (b : Bool) H', Same H H' → b = (decide (1 ≤ z.length ∧ z.length ≤ 20) && ofL z) → Q (.bl b) H' := fun b H' s e => by
    rw [e]
    exact q H' s
  refine ⟨.str z, rfl, .str z, z.length, rfl, ⟨hk, rfl⟩, 1, _, rfl, rfl, _, rfl, ?_⟩
  refine ite2 (fun h1 => ?_) (fun h1 => ?_)
  rotate_left
  · refine ⟨_, rfl, iteF (fin _ H (fun _ _ e => e) ?_)⟩
    have : ¬ (1 ≤ z.length ∧ z.length ≤ 20) := fun h => h1 (decide_eq_true (by omega))
    rw [decide_eq_false this]
    rfl
  have h1 := of_decide_eq_true h1
  refine ⟨_, 20, rfl, rfl, _, rfl, ?_⟩
  refine ite2 (fun h2 => ?_) (fun h2 => ?_)
  rotate_left
  · refine fin _ H (fun _ _ e => e) ?_
    have : ¬ (1 ≤ z.length ∧ z.length ≤ 20) := fun h => h2 (decide_eq_true (by omega))
    rw [decide_eq_false this]
    rfl
  have h2 := of_decide_eq_true h2
  have ok : 1 ≤ z.length ∧ z.length ≤ 20 := ⟨by omega, by omega⟩
  refine ⟨.str z, rfl, z, rfl, fun D hD => lc_signs z isA (fun _ => rfl) (by omega) (fun c H' Q' k => ?_) ?_⟩
  · refine ⟨_, rfl, "a", ⟨#[c]⟩, rfl, rfl, _, rfl, ?_⟩
    have e1 : decide (tl (⟨#[c]⟩ : Str) < tl ("a" : Str)) = decide (c < 97) := by
      rw [tl_a]
      exact decide_eq_decide.mpr (one_lt c 97)
    have e2 : decide (tl ("z" : Str) < tl (⟨#[c]⟩ : Str)) = decide (122 < c) := by
      rw [tl_z]
      exact decide_eq_decide.mpr (one_lt 122 c)
    rw [show decide ((⟨#[c]⟩ : Str).cps.toList < ("a" : Str).cps.toList) = decide (c < 97) from e1]
    by_cases c1 : c < 97
    · rw [decide_eq_true c1]
      refine iteF ?_
      have : isA c = false := Bool.eq_false_iff.mpr fun h => by have := (isA_iff c).mp h; omega
      rw [this] at k
      exact k
    · rw [decide_eq_false c1]
      refine iteT ⟨_, _, rfl, rfl, ?_⟩
      rw [show decide (("z" : Str).cps.toList < (⟨#[c]⟩ : Str).cps.toList) = decide (122 < c) from e2]
      by_cases c2 : 122 < c
      · rw [decide_eq_true c2]
        have : isA c = false := Bool.eq_false_iff.mpr fun h => by have := (isA_iff c).mp h; omega
        rw [this] at k
        exact k
      · rw [decide_eq_false c2]
        have : isA c = true := (isA_iff c).mpr ⟨by omega, by omega⟩
        rw [this] at k
        exact k
  · refine ⟨D, _, rfl, .inl (.inl upd_same), ?_⟩
    rw [all_id]
    refine fin _ _ (same_new hD _) ?_
    rw [decide_eq_true ok]
    rfl
theorem ok_isFar {f : Addr} {fd : FuncData} (F : Fun K "_law_is_far" "_law_is_far" s__law_is_far f fd)
    (CP : Callee P w K mg base 9 "_law_is_tower" ["_law_value", "_law_deep"] (spTower K 4)) (CL : Callee P w K mg base 5 "_law_long" ["_law_far_here"] (spLong K 4)) : FnOk P w K mg base CX0 10 f fd ["_law_value"] (spIsFar K) := by
  refine F.ok sc__law_is_far (fun vs H Q E h => ?_) (fun cdv A outer st H vs Q E hr h => ?_)
  · obtain ⟨v, d, rfl, _⟩ := h
    rfl
  obtain ⟨v, d, rfl, hd, q⟩ := h
  refine ⟨_, (pss_one (ps_ret (pe_and (pe_call CP.ok hr rfl CP.mg CP.kp CP.b .nil pass0 (pa_cons (pv 0) (pa_cons pe_int pa_nil))) (pe_one (pe_cmpR op_le (pe_call CL.ok (hr.mono (by decide)) rfl CL.mg CL.kp CL.b .nil pass0 (pa_cons (pv 0) pa_nil)) (pe_op op_pow pe_int pe_int) (nomark _)))))), ?_⟩
  refine ⟨v, rfl, v, d, rfl, hd, fun H1 s1 => ⟨_, rfl, ?_⟩⟩
  refine ite2 (fun h => ?_) (fun h => ?_)
  · have h := of_decide_eq_true h
    refine ⟨v, rfl, v, d, rfl, hd.same s1, h, fun H2 s2 => ⟨10, 24, rfl, rfl, ⟨by decide, by decide, by decide⟩, _, _, rfl, rfl, ?_⟩⟩
    have e24 : (10 : Int) ^ (24 : Int).toNat = 1000000000000000000000000 := by decide +kernel
    rw [e24]
    have z := q H2 (Same.trans s1 s2)
    have e : decide (far d ≠ 0) = decide (((sz 4 d : Nat) : Int) ≤ 1000000000000000000000000) := by
      refine decide_eq_decide.mpr ?_
      unfold far
      by_cases c : sz 4 d ≤ 1000000000000000000000000
      · rw [if_pos c]
        exact ⟨fun _ => by omega, fun _ => h⟩
      · rw [if_neg c]
        exact ⟨fun n => absurd rfl n, fun n => by omega⟩
    rw [e] at z
    exact z
  · have h : ¬ sz 4 d ≠ 0 := fun n => h (decide_eq_true n)
    have z := q H1 s1
    rw [decide_eq_false (fun n => h (far_sz n))] at z
    exact z
end
end Fs
set_option Elab.async false
set_option linter.all false
set_option maxRecDepth 100000
set_option maxHeartbeats 2000000
namespace Fs
open PySem PySem.NumText L2
def isPairB : PyData → Bool
  | .tuple ds => decide (ds.length = 2)
  | _ => false
theorem szP_pair {f : PyData → Nat} {x : PyData} (h : szP f x ≠ 0) : isPairB x = true := by
  obtain ⟨p, t, rfl, _⟩ := szP_shape h
  rfl
theorem szP_num {f : PyData → Nat} {p dt : PyData} (h : szP f (.tuple [p, dt]) ≠ 0) : ∃ t, dt = .int t ∧ 1 ≤ t ∧ t ≤ 1000000000000000000 := by
  obtain ⟨q, t, e, h1, h2, _⟩ := szP_shape h
  cases e
  exact ⟨t, rfl, h1, h2⟩
section
variable {P : Program} {w : World} {K : PySem.W.Frag} {mg : Str → Option Value} {base : Heap}
theorem ok_isTower {f : Addr} {fd : FuncData} {k lev : Nat} {spP : Sp} (F : Fun K "_law_is_tower" "_law_is_tower" s__law_is_tower f fd) (T : Bare mg) (C : Con K mg) (hk : k ≤ 4) (hP : ∀ j, k = j + 1 → spP = spIsPiece K j)
    (CP : Callee P w K mg base lev "_law_is_piece" ["_law_value", "_law_deep"] spP) : FnOk P w K mg base CX0 (lev + 1) f fd ["_law_value", "_law_deep"] (spTower K k) := by
  refine F.ok sc__law_is_tower (fun vs H Q E h => ?_) (fun cdv A outer st H vs Q E hr h => ?_)
  · obtain ⟨v, d, rfl, _⟩ := h
    rfl
  obtain ⟨v, d, rfl, hd, q⟩ := h
  refine ⟨_, (pss_cons (ps_if (PW.pt (pw_or (pt_not (pt_val (pe_callB call_isD (by rfl) C.isi boot_isi (pa_cons (pv 0) (pa_cons (pe_bltn (v := .ty "tuple") (u := .type "tuple") (by rfl) T.tuple (by decide +kernel) rfl) pa_nil))))) (pw_or (pt_not (pt_chain op_le op_le pe_int (pe_callB call_len_seq (by rfl) T.len PySem.boot_len (pa_cons (pv 0) pa_nil)) pe_int)) (pw_or1 (pt_cmpR op_gt (pv 1) pe_int (nomark _))))))
(pss_one (ps_ret pe_bl))
pss_nil)
(pss_cons (ps_if (pt_not (pt_val (pe_callB (cr_all rfl) (by rfl) C.all (by decide +kernel) (pa_cons (pe_lc (own := [("_law_pair", 4)]) (g := gName 4) rfl sc__law_is_tower.nd (pi_tup (pv 0)) (blkOk_by (N := sc__law_is_towerN) (sc := defScope s__law_is_tower) (by decide +kernel)) (fun _ _ _ _ _ => pg_name (i := 4) sc__law_is_tower.nd rfl (Or.inl rfl)) (fun _ _ _ _ _ => pts_nil) (fun _ _ _ _ _ => (pe_and (pe_callB (call_isB (K := K) rfl) (by rfl) C.isi boot_isi (pa_cons (pv 4) (pa_cons (pe_bltn (v := .ty "tuple") (u := .type "tuple") (by rfl) T.tuple (by decide +kernel) rfl) pa_nil))) (pe_one (pe_cmpR op_eq (pe_callB (call_lenB (K := K) rfl) (by rfl) T.len PySem.boot_len (pa_cons (pv 4) pa_nil)) pe_int (nomark _)))))) pa_nil))))
(pss_one (ps_ret pe_bl))
pss_nil)
(pss_cons (ps_for PassesOwn.never rfl (pi_tup (pv 0)) (pg_tup (by rfl) (pgs_cons (pg_name (i := 2) sc__law_is_tower.nd rfl (Or.inl rfl)) (pgs_cons (pg_name (i := 3) sc__law_is_tower.nd rfl (Or.inl rfl)) pgs_nil)))
(pss_cons (ps_if (PW.pt (pw_or (pt_not (pt_val (pe_callB call_isD (by rfl) C.isi boot_isi (pa_cons (pv 3) (pa_cons (pe_bltn (v := .ty "int") (u := .type "int") (by rfl) T.int (by decide +kernel) rfl) pa_nil))))) (pw_or (pt_val (pe_callB call_isD (by rfl) C.isi boot_isi (pa_cons (pv 3) (pa_cons (pe_bltn (v := .ty "bool") (u := .type "bool") (by rfl) C.bool (by decide +kernel) rfl) pa_nil)))) (pw_or1 (pt_not (pt_chain op_le op_le pe_int (pv 3) (pe_op op_pow pe_int pe_int)))))))
(pss_one (ps_ret pe_bl))
pss_nil)
(pss_one (ps_if (pt_not (pt_val (pe_call CP.ok hr rfl CP.mg CP.kp CP.b .nil pass0 (pa_cons (pv 2) (pa_cons (pv 1) pa_nil)))))
(pss_one (ps_ret pe_bl))
pss_nil))))
(pss_one (ps_ret pe_bl))))), ?_⟩
  have no : ∀ H', Same H H' → sz k d = 0 → Q (.bl false) H' := fun H' s e => by
    have z := q H' s
    rw [decide_eq_false (fun n => n e)] at z
    exact z
  have same0 : Same H H := fun _ _ e => e
  refine ⟨v, rfl, v, d, "tuple", rfl, hd, .inl rfl, _, rfl, ?_⟩
  by_cases ht : isT "tuple" d = true
  rotate_left
  · rw [Bool.eq_false_iff.mpr ht]
    refine iteT (iteT (no H same0 ?_))
    cases d with
    | tuple xs => exact absurd ((isT_tuple _).mpr ⟨xs, rfl⟩) ht
    | _ => cases k <;> rfl
  obtain ⟨ds, rfl⟩ := (isT_tuple d).mp ht
  rw [ht]
  refine iteF ?_
  cases hd with
  | @tup a xs _ hq g =>
  have hlen := g.len
  have short : ¬ (1 ≤ ds.length ∧ ds.length ≤ 6) → sz k (.tuple ds) = 0 := fun h => by
    cases k with
    | zero => exact sz_zero _
    | succ j =>
      show (if _ then _ else _) = 0
      rw [if_neg h]
  refine ⟨.ref a, rfl, a, xs, rfl, .inr hq, 1, (xs.length : Int), rfl, rfl, _, rfl, ?_⟩
  refine ite2 (fun h1 => ?_) (fun h1 => ?_)
  rotate_left
  · refine ⟨_, rfl, iteT (no H same0 (short fun h => h1 (decide_eq_true ?_)))⟩
    omega
  have h1 := of_decide_eq_true h1
  refine ⟨(xs.length : Int), 6, rfl, rfl, _, rfl, ?_⟩
  refine ite2 (fun h2 => no H same0 (short fun h => ?_)) (fun h2 => ?_)
  · have h2 : decide ((xs.length : Int) ≤ 6) = false := by simpa using h2
    exact absurd (of_decide_eq_false h2) (by omega)
  have h2 : (xs.length : Int) ≤ 6 := by simpa using h2
  have cc : 1 ≤ ds.length ∧ ds.length ≤ 6 := ⟨by omega, by omega⟩
  refine ⟨_, rfl, _, 4, rfl, rfl, _, rfl, ?_⟩
  cases k with
  | zero =>
    refine ite2 (fun _ => no H same0 (sz_zero _)) (fun h => absurd (decide_eq_true (by decide)) h)
  | succ j =>
    refine ite2 (fun h => absurd (of_decide_eq_true h) (by omega)) (fun _ => ?_)
    have hsP := hP j rfl
    subst hsP
    have yes : ∀ H', Same H H' → (∀ x ∈ ds, szP (sz j) x ≠ 0) → Q (.bl true) H' := fun H' s g => by
      have z := q H' s
      rw [decide_eq_true ((sz_iff cc).mpr g)] at z
      exact z
    have noP : ∀ H' x, Same H H' → x ∈ ds → szP (sz j) x = 0 → Q (.bl false) H' := fun H' x s hx e => no H' s (Classical.byContradiction fun n => (sz_iff cc).mp n x hx e)
    refine ⟨.ref a, rfl, a, rfl, ⟨_, hq⟩, fun D hD => lc_it (walk_tup (xs := xs)) (fun i H' => H' D = some (.lst (((ds.take i).map isPairB).map V.bl)) ∧ Same H H') ?_ ?_ ?_ ?_⟩
    · exact ⟨upd_same, same_new hD _⟩
    · exact fun i H' _ p => same_sqT p.2 hq
    · rintro i x H1 H2 hi ⟨hl, hs⟩ ⟨rfl, hx⟩
      obtain ⟨d, hdi, hdx⟩ := g.get hx
      have hdx := hdx.same hs
      refine ⟨rfl, ?_⟩
      simp only [tYes, ↓reduceIte]
      have fin : ∀ b, b = isPairB d → ∃ acc, H2 D = some (.lst acc) ∧ acc.length < sizeLine ∧ (upd H2 D (.lst (acc ++ [V.bl b]))) D = some (.lst (((ds.take (i + 1)).map isPairB).map V.bl)) ∧ Same H (upd H2 D (.lst (acc ++ [V.bl b]))) := fun b e => by
        refine ⟨_, hl, ?_, ?_, ?_⟩
        · rw [List.length_map, List.length_map, List.length_take]
          exact small1000 (by omega)
        · rw [upd_same, take_more hdi, List.map_append, List.map_append, e]
          rfl
        · intro b o hb
          rw [upd_ne (ne_of_none hb hD)]
          exact hs _ _ hb
      refine ⟨x, rfl, x, d, "tuple", rfl, hdx, .inl rfl, _, rfl, ?_⟩
      by_cases ht : isT "tuple" d = true
      rotate_left
      · rw [Bool.eq_false_iff.mpr ht]
        refine iteF (fin false ?_)
        cases d with
        | tuple xs => exact absurd ((isT_tuple _).mpr ⟨xs, rfl⟩) ht
        | _ => rfl
      obtain ⟨es, rfl⟩ := (isT_tuple d).mp ht
      rw [ht]
      refine iteT ?_
      cases hdx with
      | @tup b ys _ hb gb =>
      have hl2 := gb.len
      refine ⟨.ref b, rfl, b, ys, rfl, .inr hb, rfl, ?_⟩
      refine fin _ ?_
      show decide (V.int (ys.length : Int) = V.int 2) = decide (es.length = 2)
      refine decide_eq_decide.mpr ⟨fun h => by have := V.int.inj h; omega, fun h => congrArg V.int (by omega)⟩
    rintro H1 ⟨hl, hs⟩
    rw [hlen, List.take_length] at hl
    refine ⟨D, _, rfl, .inl (.inl hl), _, rfl, ?_⟩
    by_cases hall : (ds.map isPairB).all id = true
    rotate_left
    · rw [Bool.eq_false_iff.mpr hall]
      refine iteT ?_
      have : ∃ x ∈ ds, isPairB x = false := by
        refine Classical.byContradiction fun n => hall (List.all_eq_true.mpr fun b hb => ?_)
        obtain ⟨x, hx, rfl⟩ := List.mem_map.mp hb
        cases e : isPairB x with
        | true => rfl
        | false => exact absurd ⟨x, hx, e⟩ n
      obtain ⟨x, hx, e⟩ := this
      exact noP H1 x hs hx (Classical.byContradiction fun n => by rw [szP_pair n] at e; cases e)
    rw [hall]
    refine iteF ?_
    refine ⟨.ref a, rfl, a, rfl, ⟨_, same_sqT hs hq⟩, for_tup (xs := xs) (fun i σ H' => ∃ x2 x3 : Option V, σ = [some (.ref a), some (.int (5 - ((j + 1 : Nat) : Int))), x2, x3, none] ∧ (∀ x ∈ ds.take i, szP (sz j) x ≠ 0) ∧ Same H H') ?_ ?_ ?_ ?_⟩
    · exact ⟨_, _, rfl, (fun _ h => absurd h List.not_mem_nil), hs⟩
    · rintro i σ H' _ ⟨_, _, _, _, s1⟩
      exact same_sqT s1 hq
    · rintro i x σ H' hx ⟨x2, x3, rfl, hgood, s1⟩
      obtain ⟨d, hdi, hdx⟩ := g.get hx
      have hmem : d ∈ ds := List.mem_of_getElem? hdi
      have isP : isPairB d = true := List.all_eq_true.mp hall _ (List.mem_map.mpr ⟨d, hmem, rfl⟩)
      obtain ⟨p, dt, rfl⟩ : ∃ p dt, d = .tuple [p, dt] := by
        cases d with
        | tuple es =>
          obtain ⟨p, dt, e⟩ := two_of (of_decide_eq_true isP)
          exact ⟨p, dt, by rw [e]⟩
        | _ => cases isP
      cases hdx.same s1 with
      | @tup b ys _ hb gb =>
      cases gb with
      | @cons vp _ _ _ gp gb =>
      cases gb with
      | @cons vt _ _ _ gt gb =>
      cases gb
      refine ⟨b, _, rfl, hb, rfl, vp, _, rfl, vt, _, rfl, rfl, ?_⟩
      have bad : ∀ H2, Same H' H2 → szP (sz j) (.tuple [p, dt]) = 0 → Q (.bl false) H2 := fun H2 s2 e => noP H2 _ (Same.trans s1 s2) hmem e
      have sam : Same H' H' := fun _ _ e => e
      refine ⟨vt, rfl, vt, dt, "int", rfl, gt, .inr (.inr (.inl rfl)), _, rfl, ?_⟩
      by_cases hn : isNum dt = true
      rotate_left
      · have b0 : szP (sz j) (.tuple [p, dt]) = 0 := Classical.byContradiction fun n => by
          obtain ⟨t, rfl, _⟩ := szP_num n
          exact hn ((isNum_iff _).mpr ⟨t, rfl⟩)
        unfold isNum at hn
        cases e1 : isT "int" dt with
        | false => exact iteT (iteT (bad H' sam b0))
        | true =>
          rw [e1] at hn
          have e2 : isT "bool" dt = true := by
            cases e : isT "bool" dt with
            | true => rfl
            | false => rw [e] at hn; exact absurd rfl hn
          refine iteF ⟨vt, rfl, vt, dt, "bool", rfl, gt, .inr (.inr (.inr rfl)), _, rfl, ?_⟩
          rw [e2]
          exact iteT (iteT (bad H' sam b0))
      have hn' := hn
      obtain ⟨t, rfl⟩ := (isNum_iff dt).mp hn
      unfold isNum at hn'
      rw [(Bool.and_eq_true_iff.mp hn').1]
      refine iteF ⟨vt, rfl, vt, _, "bool", rfl, gt, .inr (.inr (.inr rfl)), _, rfl, ?_⟩
      have e2 : isT "bool" (.int t) = false := by
        have := (Bool.and_eq_true_iff.mp hn').2
        cases e : isT "bool" (.int t) with
        | false => rfl
        | true => rw [e] at this; cases this
      rw [e2]
      cases gt
      have range : ¬ (1 ≤ t ∧ t ≤ 1000000000000000000) → Q (.bl false) H' := fun h => bad H' sam (Classical.byContradiction fun n => h (szP_iff.mp n).1)
      refine iteF ⟨.int t, rfl, 1, t, rfl, rfl, _, rfl, ?_⟩
      refine ite2 (fun h1 => ?_) (fun h1 => ⟨_, rfl, iteT (range fun h => h1 (decide_eq_true h.1))⟩)
      have h1 := of_decide_eq_true h1
      refine ⟨10, 18, rfl, rfl, ⟨by decide, by decide, by decide⟩, t, _, rfl, rfl, _, rfl, ?_⟩
      have e18 : (10 : Int) ^ (18 : Int).toNat = 1000000000000000000 := by decide +kernel
      rw [e18]
      cases e3 : decide (t ≤ 1000000000000000000) with
      | false => exact iteT (range fun h => by rw [decide_eq_true h.2] at e3; cases e3)
      | true =>
      have h2 := of_decide_eq_true e3
      refine iteF ?_
      refine ⟨vp, rfl, _, rfl, vp, p, ?_, gp, fun H2 s2 => ⟨_, rfl, ?_⟩⟩
      · show [vp, V.int (5 - ((j + 1 : Nat) : Int))] = _
        rw [show (5 - ((j + 1 : Nat) : Int)) = 4 - (j : Int) by omega]
      cases e4 : pieceB j p with
      | false => exact iteT (bad H2 s2 (Classical.byContradiction fun n => by rw [(szP_iff.mp n).2] at e4; cases e4))
      | true =>
      refine iteF ⟨_, _, rfl, ?_, Same.trans s1 s2⟩
      rw [take_more hdi]
      intro x hx
      rcases List.mem_append.mp hx with hx | hx
      · exact hgood x hx
      · rw [List.mem_singleton.mp hx]
        exact szP_iff.mpr ⟨⟨h1, h2⟩, e4⟩
    · rintro σ H' ⟨x2, x3, rfl, hgood, s1⟩
      rw [hlen, List.take_length] at hgood
      exact yes H' s1 hgood
theorem ok_towerT {fA fB : Addr} {fdA fdB : FuncData} (FA : Fun K "_law_is_tower" "_law_is_tower" s__law_is_tower fA fdA) (FB : Fun K "_law_is_piece" "_law_is_piece" s__law_is_piece fB fdB) (T : Bare mg) (C : Con K mg)
    (mA : mg "_law_is_tower" = some (.ref fA)) (kA : PySem.W.keepIn K (.ref fA) = true) (bA : Binds K fdA ["_law_value", "_law_deep"] [])
    (mB : mg "_law_is_piece" = some (.ref fB)) (kB : PySem.W.keepIn K (.ref fB) = true) (bB : Binds K fdB ["_law_value", "_law_deep"] []) : ∀ k, k ≤ 4 → FnOk P w K mg base CX0 (2 * k + 1) fA fdA ["_law_value", "_law_deep"] (spTower K k)
  | 0, h => ok_isTower (k := 0) (lev := 0) (spP := spNo) FA T C h (fun j e => by omega) ⟨fB, fdB, never_ok, mB, kB, bB⟩
  | k + 1, h => by
    have o := ok_isPiece (j := k) FB T C ⟨fA, fdA, ok_towerT FA FB T C mA kA bA mB kB bB k (by omega), mA, kA, bA⟩
    have o2 := ok_isTower (k := k + 1) FA T C h (fun j e => by rw [show k = j by omega]) ⟨fB, fdB, o, mB, kB, bB⟩
    rw [show 2 * (k + 1) + 1 = 2 * k + 1 + 1 + 1 by omega]
    exact o2
end
end Fs
set_option Elab.async false
set_option linter.all false
set_option maxRecDepth 100000
set_option maxHeartbeats 2000000
namespace Fs
open PySem PySem.NumText L2
/-! ### the law's reader -/
abbrev s__law_pairs : Stmt := top 40
abbrev sc__law_pairsN : List Str := ["_law_text", "_law_at", "_law_deep", "_law_found", "_law_piece", "_law_begin", "_law_digits"]
theorem sc__law_pairs : FnScope sc__law_pairsN ["_law_text", "_law_at", "_law_deep"] (defScope s__law_pairs) := ⟨rfl, rfl, rfl, by decide +kernel, rfl, by decide +kernel, by decide +kernel⟩
theorem ps_weak {X : Cx} {s : Stmt} {t t' : TS} (h : PS X s t) (i : ∀ D σ H, t' D σ H → t D σ H) : PS X s t' := ⟨fun pins s σ H D I q => h.run pins s σ H D I (i _ _ _ q)⟩
/-- a while that goes on as long as the signs are of one kind -/
theorem scan_by {tc : TT} {tb : TS} {D : Ends} {H : Hp} {z : Str} {r : List Nat} (p : Nat → Bool) (st : Int → L2.St) (hr : r <:+ tl z)
    (hc : ∀ r', r' <:+ tl z → ∀ Q : Bool → Hp → Prop, (∀ c, r'.head? = some c → p c = true → Q true H) → ((∀ c, r'.head? = some c → p c = false) → Q false H) → tc (st ((pos (tl z) r' : Nat) : Int)) H Q)
    (hb : ∀ (i : Int) (D' : Ends), D'.nx (st (i + 1)) H → tb D' (st i) H)
    (fin : D.nx (st ((pos (tl z) (r.dropWhile p) : Nat) : Int)) H) : tWhile tc tb D (st ((pos (tl z) r : Nat) : Int)) H := by
  refine ⟨fun m σ H' => H' = H ∧ ∃ r' : List Nat, σ = st ((pos (tl z) r' : Nat) : Int) ∧ r' <:+ tl z ∧ r'.dropWhile p = r.dropWhile p ∧ m = r'.length, ⟨_, rfl, r, rfl, hr, rfl, rfl⟩, ?_⟩
  rintro m σ H' ⟨rfl, r', rfl, hr1, hdw, hm⟩
  refine hc r' hr1 _ (fun c hc hp => ?_) (fun h => ?_)
  · refine iteT ⟨_, fun σ' H' z => z, hb _ _ ⟨r'.tail.length, by rw [hm]; exact tail_lt hc, rfl, r'.tail, ?_, suf_tail hr1, (dw_step hc hp).trans hdw, rfl⟩⟩
    rw [pos_tail hr1 hc, Int.natCast_add]
    rfl
  · rw [dw_stop h] at hdw
    refine iteF ?_
    rw [hdw]
    exact fin
def spLPairs (K : PySem.W.Frag) (h : Nat) : Sp := fun vs H Q _ => ∃ (z : Str) (r : List Nat), vs = [.str z, .int ((pos (tl z) r : Nat) : Int), .int (30 - (h : Int))] ∧ z.length ≤ 1000000 ∧ r <:+ tl z ∧
  (lawPairs h r = none → ∀ q rr H', rr <:+ tl z → Same H H' → H' q = some (.tup [.non, .int ((pos (tl z) rr : Nat) : Int)]) → Q (.ref q) H') ∧
  ∀ ds r1, lawPairs h r = some (ds, r1) → ∀ q v H', Same H H' → H' q = some (.tup [v, .int ((pos (tl z) r1 : Nat) : Int)]) → Dv K H' v (.tuple ds) → Q (.ref q) H'
/-- the piece, told -/
def tPc (K : PySem.W.Frag) (h : Nat) : TS := fun D σ H => ∃ (z : Str) (r : List Nat) (x3 x6 : Option V), σ = [some (.str z), some (.int ((pos (tl z) r : Nat) : Int)), some (.int (30 - (h : Int))), x3, some .non, some (.int ((pos (tl z) r : Nat) : Int)), x6] ∧ z.length ≤ 1000000 ∧ r <:+ tl z ∧
  (lawPiece h r = none → ∀ rr H', rr <:+ tl z → Same H H' → D.nx [some (.str z), some (.int ((pos (tl z) rr : Nat) : Int)), some (.int (30 - (h : Int))), x3, some .non, some (.int ((pos (tl z) r : Nat) : Int)), x6] H') ∧
  ∀ p r1, lawPiece h r = some (p, r1) → ∀ v H', Same H H' → Dv K H' v p → v ≠ .non → D.nx [some (.str z), some (.int ((pos (tl z) r1 : Nat) : Int)), some (.int (30 - (h : Int))), x3, some v, some (.int ((pos (tl z) r : Nat) : Int)), x6] H'
theorem az_test {c : Nat} {Q : Bool → Prop} (h1 : isA c = true → Q true) (h2 : isA c = false → Q false) :
    if (!decide ((⟨#[c]⟩ : Str).cps.toList < ("a" : Str).cps.toList)) = true then Q (!decide (("z" : Str).cps.toList < (⟨#[c]⟩ : Str).cps.toList)) else Q false := by
  have e1 : decide (tl (⟨#[c]⟩ : Str) < tl ("a" : Str)) = decide (c < 97) := by
    rw [tl_a]
    exact decide_eq_decide.mpr (one_lt c 97)
  have e2 : decide (tl ("z" : Str) < tl (⟨#[c]⟩ : Str)) = decide (122 < c) := by
    rw [tl_z]
    exact decide_eq_decide.mpr (one_lt 122 c)
  rw [show decide ((⟨#[c]⟩ : Str).cps.toList < ("a" : Str).cps.toList) = decide (c < 97) from e1, show decide (("z" : Str).cps.toList < (⟨#[c]⟩ : Str).cps.toList) = decide (122 < c) from e2]
  by_cases c1 : c < 97
  · rw [decide_eq_true c1]
    refine iteF (h2 (Bool.eq_false_iff.mpr fun h => by have := (isA_iff c).mp h; omega))
  · rw [decide_eq_false c1]
    refine iteT ?_
    by_cases c2 : 122 < c
    · rw [decide_eq_true c2]
      exact h2 (Bool.eq_false_iff.mpr fun h => by have := (isA_iff c).mp h; omega)
    · rw [decide_eq_false c2]
      exact h1 ((isA_iff c).mpr ⟨by omega, by omega⟩)
theorem pieceN_none {r : List Nat} (h : r.head? = some 40) : lawPiece 0 r = none := if_pos h
theorem pairL_none1 {f : List Nat → PR} {r : List Nat} (e : f r = none) : pairL f r = none := by
  unfold pairL
  rw [e]
  rfl
theorem pairL_none2 {f : List Nat → PR} {r : List Nat} {p : PyData} {r2 : List Nat} (e : f r = some (p, r2)) (c : r2.head? ≠ some 42) : pairL f r = none := by
  unfold pairL
  rw [e]
  exact if_neg c
theorem pairL_none3 {f : List Nat → PR} {r : List Nat} {p : PyData} {r2 : List Nat} (e : f r = some (p, r2)) (c : r2.head? = some 42) (n : numL (r2.tail.takeWhile isD) = none) : pairL f r = none := by
  unfold pairL
  rw [e]
  show (if r2.head? = some 42 then (numL (r2.tail.takeWhile isD)).map _ else none) = none
  rw [if_pos c, n]
  rfl
theorem pairL_in {f : List Nat → PR} {r : List Nat} {p : PyData} {r2 : List Nat} {k : Nat} (e : f r = some (p, r2)) (c : r2.head? = some 42) (n : numL (r2.tail.takeWhile isD) = some k) : pairL f r = some (.tuple [p, .int (k : Nat)], r2.tail.dropWhile isD) := by
  unfold pairL
  rw [e]
  show (if r2.head? = some 42 then (numL (r2.tail.takeWhile isD)).map (fun k => (PyData.tuple [p, .int (k : Nat)], r2.tail.dropWhile isD)) else none) = _
  rw [if_pos c, n]
  rfl
/-- how the law's reading goes on -/
def contL (pair : List Nat → PR) (n : Nat) (acc : List PyData) (r : List Nat) : PsR := (many pair n r).map fun y => (acc ++ y.1, y.2)
theorem contL_none {pair : List Nat → PR} {n : Nat} {acc : List PyData} {r : List Nat} (h : pair r = none) : contL pair (n + 1) acc r = none := by
  unfold contL
  rw [many_none h]
  rfl
theorem contL_end {pair : List Nat → PR} {n : Nat} {acc : List PyData} {r r1 : List Nat} {x : PyData} (h : pair r = some (x, r1)) (c : r1.head? ≠ some 43) : contL pair (n + 1) acc r = some (acc ++ [x], r1) := by
  unfold contL
  rw [many_first h, cont_end c]
  rfl
theorem contL_more {pair : List Nat → PR} {n : Nat} {acc : List PyData} {r r1 : List Nat} {x : PyData} (h : pair r = some (x, r1)) (c : r1.head? = some 43) : contL pair (n + 1) acc r = contL pair n (acc ++ [x]) r1.tail := by
  unfold contL
  rw [many_first h]
  unfold cont
  rw [if_pos c]
  cases many pair n r1.tail with
  | none => rfl
  | some y =>
    show some (acc ++ ([x] ++ y.1), y.2) = some ((acc ++ [x]) ++ y.1, y.2)
    rw [List.append_assoc]
theorem contL_start {pair : List Nat → PR} {n : Nat} {r : List Nat} : contL pair n [] r = many pair n r := by
  unfold contL
  cases many pair n r with
  | none => rfl
  | some y => rfl
end Fs
set_option Elab.async false
set_option linter.all false
set_option maxRecDepth 100000
set_option maxHeartbeats 4000000
namespace Fs
open PySem PySem.NumText L2
section
variable {P : Program} {w : World} {K : PySem.W.Frag} {mg : Str → Option Value} {base : Heap}
theorem ok_lpairs {f : Addr} {fd : FuncData} {h lev : Nat} {spP : Sp} (F : Fun K "_law_pairs" "_law_pairs" s__law_pairs f fd) (T : Bare mg) (C : Con K mg) (hh : h ≤ 29) (hP : ∀ j, h = j + 1 → spP = spLPairs K j)
    (CP : Callee P w K mg base lev "_law_pairs" ["_law_text", "_law_at", "_law_deep"] spP) : FnOk P w K mg base CX0 (lev + 1) f fd ["_law_text", "_law_at", "_law_deep"] (spLPairs K h) := by
  refine F.ok sc__law_pairs (fun vs H Q E h => ?_) (fun cdv A outer s H vs Q E hr hsp => ?_)
  · obtain ⟨z, r, rfl, _⟩ := h
    rfl
  obtain ⟨z, r, rfl, hz, hr0, qn, qs⟩ := hsp
  refine ⟨_, (pss_cons (ps_set (i := 3) sc__law_pairs.nd rfl (Or.inl rfl) (pe_lst pa_nil))
(pss_one (ps_while PassesOwn.never (pt_truth pe_bl (by intro _; rfl))
(pss_cons (ps_par (i := 4) (j := 5) (by rfl) sc__law_pairs.nd rfl rfl (by decide) rfl rfl (pa_cons pe_non (pa_cons (pv 1) pa_nil)) (by rfl))
(pss_cons (ps_weak (t' := tPc K h) (ps_if (pt_cmpR op_eq (pe_slice sl_str (pv 0) (po_some (pv 1)) (po_some (pe_op op_add (pv 1) pe_int))) pe_str (nomark _))
(pss_cons (ps_asg (pe_ifExp (pt_cmpR op_lt (pv 2) pe_int (nomark _)) (pe_call CP.ok hr rfl CP.mg CP.kp CP.b .nil pass0 (pa_cons (pv 0) (pa_cons (pe_op op_add (pv 1) pe_int) (pa_cons (pe_op op_add (pv 2) pe_int) pa_nil)))) (pe_tup (pa_cons pe_non (pa_cons (pv 1) pa_nil)))) (pg_tup (by rfl) (pgs_cons (pg_name (i := 4) sc__law_pairs.nd rfl (Or.inl rfl)) (pgs_cons (pg_name (i := 1) sc__law_pairs.nd rfl (Or.inl rfl)) pgs_nil))))
(pss_one (ps_asg (pe_ifExp (pt_cmpR op_ne (pe_slice sl_str (pv 0) (po_some (pv 1)) (po_some (pe_op op_add (pv 1) pe_int))) pe_str (nomark _)) (pe_tup (pa_cons pe_non (pa_cons (pv 1) pa_nil))) (pe_tup (pa_cons (pv 4) (pa_cons (pe_op op_add (pv 1) pe_int) pa_nil)))) (pg_tup (by rfl) (pgs_cons (pg_name (i := 4) sc__law_pairs.nd rfl (Or.inl rfl)) (pgs_cons (pg_name (i := 1) sc__law_pairs.nd rfl (Or.inl rfl)) pgs_nil))))))
(pss_cons (ps_while PassesOwn.never (PW.pt (pw_and (pt_cmpR op_lt (pv 1) (pe_callB call_len (by rfl) T.len PySem.boot_len (pa_cons (pv 0) pa_nil)) (nomark _)) (pw_and1 (pt_chain op_le_str op_le_str pe_str (pe_ix ix_str (pv 0) (pv 1) (fun _ _ => rfl)) pe_str))))
(pss_one (ps_set (i := 1) sc__law_pairs.nd rfl (Or.inl rfl) (pe_op op_add (pv 1) pe_int))))
(pss_one (ps_set (i := 4) sc__law_pairs.nd rfl (Or.inl rfl) (pe_slice sl_str (pv 0) (po_some (pv 5)) (po_some (pv 1))))))) (fun D σ H hw => by
    obtain ⟨z, r, x3, x6, rfl, hz, hr0, qn, qs⟩ := hw
    have hk := len_k hz
    have hl0 := len_tl z
    have hrl := suf_len hr0
    have sam : Same H H := fun _ _ e => e
    refine ⟨.str z, rfl, _, rfl, _, rfl, _, rfl, _, _, rfl, rfl, _, rfl, z, rfl, hk, rfl, _, rfl, ?_⟩
    rw [look hr0 op40]
    by_cases c : r.head? = some 40
    · rw [decide_eq_true c]
      refine iteT ⟨_, rfl, _, _, rfl, rfl, _, rfl, ?_⟩
      cases h with
      | zero =>
        refine ite2 (fun e => absurd (of_decide_eq_true e) (by omega)) (fun _ => ?_)
        refine ⟨_, rfl, small (by show 2 ≤ 1000; decide), fun q hq => ?_⟩
        have m1 := same_new hq (.tup [V.non, .int ((pos (tl z) r : Nat) : Int)])
        refine ⟨q, _, rfl, .inl (.inl upd_same), rfl, .non, _, rfl, _, _, rfl, rfl, ?_⟩
        refine ⟨.str z, rfl, _, rfl, _, rfl, _, rfl, _, _, rfl, rfl, _, rfl, z, rfl, hk, rfl, _, rfl, ?_⟩
        rw [look hr0 op41, decide_eq_false (show ¬ r.head? = some 41 from fun e => by rw [c] at e; cases e)]
        refine iteT ⟨_, rfl, small (by show 2 ≤ 1000; decide), fun q2 hq2 => ?_⟩
        have m2 := same_new hq2 (.tup [V.non, .int ((pos (tl z) r : Nat) : Int)])
        refine ⟨q2, _, rfl, .inl (.inl upd_same), rfl, .non, _, rfl, _, _, rfl, rfl, ?_⟩
        exact qn (pieceN_none c) r _ hr0 (Same.trans m1 m2)
      | succ j =>
        refine ite2 (fun _ => ?_) (fun e => absurd (decide_eq_true (by omega)) e)
        have hsP := hP j rfl
        subst hsP
        have vsE : ([V.str z, V.int (((pos (tl z) r : Nat) : Int) + 1), V.int (30 - ((j + 1 : Nat) : Int) + 1)] : List V) = [V.str z, V.int ((pos (tl z) r.tail : Nat) : Int), V.int (30 - (j : Int))] := by
          rw [pos_tail hr0 c, show (30 - ((j + 1 : Nat) : Int) + 1) = 30 - (j : Int) by omega, Int.natCast_add]
          rfl
        refine ⟨_, rfl, _, rfl, _, 1, rfl, rfl, _, rfl, _, 1, rfl, rfl, z, r.tail, vsE, hz, suf_tail hr0, fun e q rr H1 hrr s1 hq => ?_, fun es r2 e q vt H1 s1 hq hdv => ?_⟩
        · refine ⟨q, _, rfl, .inl (.inl hq), rfl, .non, _, rfl, _, _, rfl, rfl, ?_⟩
          refine ⟨.str z, rfl, _, rfl, _, rfl, _, rfl, _, _, rfl, rfl, _, rfl, z, rfl, hk, rfl, _, rfl, ?_⟩
          have pn : lawPiece (j + 1) r = none := pieceP_none1 c e
          rw [look hrr op41]
          by_cases c2 : rr.head? = some 41
          · rw [decide_eq_true c2]
            refine iteF ⟨_, rfl, _, rfl, _, 1, rfl, rfl, small (by show 2 ≤ 1000; decide), fun q2 hq2 => ?_⟩
            have m2 := same_new hq2 (.tup [V.non, .int (((pos (tl z) rr : Nat) : Int) + 1)])
            refine ⟨q2, _, rfl, .inl (.inl upd_same), rfl, .non, _, rfl, _, _, rfl, rfl, ?_⟩
            have k := qn pn rr.tail _ (suf_tail hrr) (Same.trans s1 m2)
            rw [pos_tail hrr c2, Int.natCast_add] at k
            exact k
          · rw [decide_eq_false c2]
            refine iteT ⟨_, rfl, small (by show 2 ≤ 1000; decide), fun q2 hq2 => ?_⟩
            have m2 := same_new hq2 (.tup [V.non, .int ((pos (tl z) rr : Nat) : Int)])
            refine ⟨q2, _, rfl, .inl (.inl upd_same), rfl, .non, _, rfl, _, _, rfl, rfl, ?_⟩
            exact qn pn rr _ hrr (Same.trans s1 m2)
        · have hr2 : r2 <:+ tl z := ((lawPairs_pfs j _ _ _ e).1.trans (List.tail_suffix r)).trans hr0
          refine ⟨q, _, rfl, .inl (.inl hq), rfl, vt, _, rfl, _, _, rfl, rfl, ?_⟩
          refine ⟨.str z, rfl, _, rfl, _, rfl, _, rfl, _, _, rfl, rfl, _, rfl, z, rfl, hk, rfl, _, rfl, ?_⟩
          rw [look hr2 op41]
          by_cases c2 : r2.head? = some 41
          · rw [decide_eq_true c2]
            refine iteF ⟨_, rfl, _, rfl, _, 1, rfl, rfl, small (by show 2 ≤ 1000; decide), fun q2 hq2 => ?_⟩
            have m2 := same_new hq2 (.tup [vt, .int (((pos (tl z) r2 : Nat) : Int) + 1)])
            refine ⟨q2, _, rfl, .inl (.inl upd_same), rfl, vt, _, rfl, _, _, rfl, rfl, ?_⟩
            have nn : vt ≠ .non := fun z => by rw [z] at hdv; cases hdv
            have k := qs (.tuple es) r2.tail (pieceP_in c e c2) vt _ (Same.trans s1 m2) (hdv.same m2) nn
            rw [pos_tail hr2 c2, Int.natCast_add] at k
            exact k
          · rw [decide_eq_false c2]
            refine iteT ⟨_, rfl, small (by show 2 ≤ 1000; decide), fun q2 hq2 => ?_⟩
            have m2 := same_new hq2 (.tup [V.non, .int ((pos (tl z) r2 : Nat) : Int)])
            refine ⟨q2, _, rfl, .inl (.inl upd_same), rfl, .non, _, rfl, _, _, rfl, rfl, ?_⟩
            exact qn (pieceP_none2 c e c2) r2 _ hr2 (Same.trans s1 m2)
    · rw [decide_eq_false c]
      refine iteF ?_
      refine scan_by isA (fun i => [some (.str z), some (.int i), some (.int (30 - (h : Int))), x3, some .non, some (.int ((pos (tl z) r : Nat) : Int)), x6]) hr0 (fun r' hr1 Q' y n => ?_) (fun i D' k => ?_) ?_
      · refine ⟨_, rfl, .str z, rfl, .str z, z.length, rfl, ⟨hk, rfl⟩, _, _, rfl, rfl, _, rfl, ?_⟩
        refine ite2 (fun h1 => ?_) (fun h1 => ?_)
        · have h1 := of_decide_eq_true h1
          have ne : r' ≠ [] := (pos_lt hr1).mp (by omega)
          obtain ⟨d, hd⟩ : ∃ d, r'.head? = some d := by
            cases r' with
            | nil => exact absurd rfl ne
            | cons a r' => exact ⟨a, rfl⟩
          refine ⟨.str z, rfl, _, rfl, z, _, d, rfl, rfl, hk, at_pos hr1 hd, "a", ⟨#[d]⟩, rfl, rfl, _, rfl, ?_⟩
          have e := az_test (c := d) (Q := fun b => Q' b H) (fun e => y d hd e) (fun e => n fun x hx => by rw [hd] at hx; rw [← Option.some.inj hx]; exact e)
          refine ite2 (fun h2 => ?_) (fun h2 => ?_)
          · rw [h2, if_pos rfl] at e
            exact ⟨_, _, rfl, rfl, _, rfl, e⟩
          · rw [if_neg h2] at e
            exact ⟨_, rfl, e⟩
        · refine n fun x hx => ?_
          have : ¬ r' ≠ [] := fun ne => h1 (decide_eq_true (by have := (pos_lt hr1).mpr ne; omega))
          rw [Classical.not_not.mp this] at hx
          cases hx
      · exact ⟨_, rfl, i, 1, rfl, rfl, k⟩
      · refine ⟨.str z, rfl, _, rfl, _, rfl, _, rfl, _, rfl, z, rfl, hk, ?_⟩
        rw [cut_run isA hr0]
        have tl1 := tw_len isA r
        exact qs (.str (tx (r.takeWhile isA))) (r.dropWhile isA) ((lawPiece_str c h).trans rfl) _ _ sam (.str _ (by rw [tx_len]; omega)) nofun))
(pss_cons (ps_if (PW.pt (pw_or (pt_cmpR op_isN (pv 4) pe_non (nomark _)) (pw_or1 (pt_cmpR op_ne (pe_slice sl_str (pv 0) (po_some (pv 1)) (po_some (pe_op op_add (pv 1) pe_int))) pe_str (nomark _)))))
(pss_one (ps_ret (pe_tup (pa_cons pe_non (pa_cons (pv 1) pa_nil)))))
pss_nil)
(pss_cons (ps_par (i := 5) (j := 1) (by rfl) sc__law_pairs.nd rfl rfl (by decide) rfl rfl (pa_cons (pe_op op_add (pv 1) pe_int) (pa_cons (pe_op op_add (pv 1) pe_int) pa_nil)) (by rfl))
(pss_cons (ps_while PassesOwn.never (PW.pt (pw_and (pt_cmpR op_lt (pv 1) (pe_callB call_len (by rfl) T.len PySem.boot_len (pa_cons (pv 0) pa_nil)) (nomark _)) (pw_and1 (pt_cmpR op_in_sign (pe_ix ix_str (pv 0) (pv 1) (fun _ _ => rfl)) pe_str (by rfl)))))
(pss_one (ps_set (i := 1) sc__law_pairs.nd rfl (Or.inl rfl) (pe_op op_add (pv 1) pe_int))))
(pss_cons (ps_set (i := 6) sc__law_pairs.nd rfl (Or.inl rfl) (pe_slice sl_str (pv 0) (po_some (pv 5)) (po_some (pv 1))))
(pss_cons (ps_if (PW.pt (pw_or (pt_cmpR op_eq (pv 6) pe_str (nomark _)) (pw_or (pt_cmpR op_eq (pe_ix ix_str (pv 6) pe_int (fun _ _ => rfl)) pe_str (nomark _)) (pw_or1 (pt_cmpR op_gt (pe_callB call_len (by rfl) T.len PySem.boot_len (pa_cons (pv 6) pa_nil)) pe_int (nomark _))))))
(pss_one (ps_ret (pe_tup (pa_cons pe_non (pa_cons (pv 1) pa_nil)))))
pss_nil)
(pss_cons (ps_expr (pe_bm PySem.F.plainAttrs_list PySem.F.slot_list_append PySem.F.type_list_append mt_append (pv 3) (pa_cons (pe_tup (pa_cons (pv 4) (pa_cons (pe_callTy call_int_str (by rfl) T.int (by decide +kernel) (pa_cons (pv 6) pa_nil)) pa_nil))) pa_nil)))
(pss_cons (ps_if (pt_cmpR op_ne (pe_slice sl_str (pv 0) (po_some (pv 1)) (po_some (pe_op op_add (pv 1) pe_int))) pe_str (nomark _))
(pss_one (ps_ret (pe_tup (pa_cons (pe_callTy call_tuple_of (by rfl) T.tuple (by decide +kernel) (pa_cons (pv 3) pa_nil)) (pa_cons (pv 1) pa_nil)))))
pss_nil)
(pss_one (ps_set (i := 1) sc__law_pairs.nd rfl (Or.inl rfl) (pe_op op_add (pv 1) pe_int))))))))))))))), ?_⟩
  have hk := len_k hz
  have hl0 := len_tl z
  have hrl := suf_len hr0
  refine ⟨small (by show 0 ≤ 1000; decide), fun D hD => ?_⟩
  have m0 := same_new hD (.lst [])
  refine ⟨fun m σ H' => ∃ (n : Nat) (acc : List PyData) (rr : List Nat) (x4 x5 x6 : Option V) (vs : List V), σ = [some (.str z), some (.int ((pos (tl z) rr : Nat) : Int)), some (.int (30 - (h : Int))), some (.ref D), x4, x5, x6] ∧ rr <:+ tl z ∧ rr.length < n ∧ m = rr.length ∧
    H' D = some (.lst vs) ∧ DvAll K H' vs acc ∧ noListAll acc = true ∧ acc.length + rr.length ≤ r.length ∧ Same H H' ∧ lawPairs h r = contL (pairL (lawPiece h)) n acc rr, ⟨_, r.length + 1, [], r, _, _, _, [], rfl, hr0, by omega, rfl, upd_same, .nil, by simp only [noListAll], by rw [List.length_nil]; omega, m0, by rw [contL_start]; exact lawPairs_eq h r⟩, ?_⟩
  rintro m σ H1 ⟨n, acc, rr, x4, x5, x6, vs, rfl, hrr, hn, hm, hDv, hds, nl, hal, s1, heq⟩
  obtain ⟨n, rfl⟩ : ∃ k, n = k + 1 := ⟨n - 1, by omega⟩
  have hlen := hds.len
  refine ⟨true, rfl, iteT ⟨_, fun σ' H' z => z, ?_⟩⟩
  refine ⟨_, rfl, _, _, rfl, ?_⟩
  refine ⟨z, rr, some (.ref D), x6, rfl, hz, hrr, fun e rr2 H2 hrr2 s2 => ?_, fun p r1 e v H2 s2 hdv nn => ?_⟩
  · refine ⟨_, rfl, rfl, _, rfl, ?_⟩
    rw [decide_eq_true (rfl : V.non = V.non)]
    refine iteT (iteT ⟨_, rfl, small (by show 2 ≤ 1000; decide), fun q hq => ?_⟩)
    exact qn (heq.trans (contL_none (pairL_none1 e))) q rr2 _ hrr2 (Same.trans s1 (Same.trans s2 (same_new hq _))) upd_same
  obtain ⟨sf1, nlp⟩ := lawPiece_pf h _ _ _ e
  have hr1 : r1 <:+ tl z := sf1.trans hrr
  have fail : ∀ rr2 H3, rr2 <:+ tl z → Same H2 H3 → pairL (lawPiece h) rr = none → ∀ q, H3 q = none → Q (.ref q) (upd H3 q (.tup [V.non, .int ((pos (tl z) rr2 : Nat) : Int)])) := fun rr2 H3 hrr2 s3 e2 q hq =>
    qn (heq.trans (contL_none e2)) q rr2 _ hrr2 (Same.trans s1 (Same.trans s2 (Same.trans s3 (same_new hq _)))) upd_same
  refine ⟨v, rfl, rfl, _, rfl, ?_⟩
  rw [decide_eq_false nn]
  refine iteF ⟨.str z, rfl, _, rfl, _, rfl, _, rfl, _, _, rfl, rfl, _, rfl, z, rfl, hk, rfl, _, rfl, ?_⟩
  rw [look hr1 op42]
  by_cases c : r1.head? = some 42
  rotate_left
  · rw [decide_eq_false c]
    refine iteT ⟨_, rfl, small (by show 2 ≤ 1000; decide), fun q hq => ?_⟩
    exact fail r1 H2 hr1 (fun _ _ e => e) (pairL_none2 e c) q hq
  rw [decide_eq_true c]
  have ht := suf_tail hr1
  have pt : ((pos (tl z) r1 : Nat) : Int) + 1 = ((pos (tl z) r1.tail : Nat) : Int) := by
    rw [pos_tail hr1 c, Int.natCast_add]
    rfl
  refine iteF ⟨_, rfl, _, 1, rfl, rfl, _, rfl, _, 1, rfl, rfl, V.int ((pos (tl z) r1.tail : Nat) : Int), V.int ((pos (tl z) r1.tail : Nat) : Int), ?_, ?_⟩
  · show [V.int (((pos (tl z) r1 : Nat) : Int) + 1), V.int (((pos (tl z) r1 : Nat) : Int) + 1)] = _
    rw [pt]
  refine scan_by isD (fun i => [some (.str z), some (.int i), some (.int (30 - (h : Int))), some (.ref D), some v, some (.int ((pos (tl z) r1.tail : Nat) : Int)), x6]) ht (fun r' hr' Q' y n => ?_) (fun i D' k => ?_) ?_
  · refine ⟨_, rfl, .str z, rfl, .str z, z.length, rfl, ⟨hk, rfl⟩, _, _, rfl, rfl, _, rfl, ?_⟩
    refine ite2 (fun h1 => ?_) (fun h1 => ?_)
    · have h1 := of_decide_eq_true h1
      have ne : r' ≠ [] := (pos_lt hr').mp (by omega)
      obtain ⟨d, hd⟩ : ∃ d, r'.head? = some d := by
        cases r' with
        | nil => exact absurd rfl ne
        | cons a r' => exact ⟨a, rfl⟩
      refine ⟨.str z, rfl, _, rfl, z, _, d, rfl, rfl, hk, at_pos hr' hd, d, dgs, rfl, rfl, _, rfl, ?_⟩
      show Q' (isD d) H2
      cases e : isD d with
      | true => exact y d hd e
      | false => exact n fun x hx => by rw [hd] at hx; rw [← Option.some.inj hx]; exact e
    · refine n fun x hx => ?_
      have : ¬ r' ≠ [] := fun ne => h1 (decide_eq_true (by have := (pos_lt hr').mpr ne; omega))
      rw [Classical.not_not.mp this] at hx
      cases hx
  · exact ⟨_, rfl, i, 1, rfl, rfl, k⟩
  have hr2 := suf_dw isD ht
  have sf2 : r1.tail.dropWhile isD <:+ r1.tail := List.dropWhile_suffix _
  have len2 := sf2.length_le
  have len1 := sf1.length_le
  have lt1 := tail_lt c
  have dig := tw_all isD r1.tail
  have tl1 := tw_len isD r1.tail
  refine ⟨.str z, rfl, _, rfl, _, rfl, _, rfl, _, rfl, z, rfl, hk, ?_⟩
  rw [cut_run isD ht]
  generalize hw : r1.tail.takeWhile isD = w at dig tl1 ⊢
  generalize hr2e : r1.tail.dropWhile isD = r2 at hr2 sf2 len2 ⊢
  have lw := tx_len w
  have wk : (tx w).length ≤ sizeLine := Nat.le_trans (by have := suf_len hr1; omega : (tx w).length ≤ z.length) hk
  have strEq : ∀ (s : Str) (l : List Nat), tl s = l → (V.str (tx w) = V.str s ↔ w = l) := fun s l hs => by
    constructor
    · intro h
      have := congrArg tl (V.str.inj h)
      rw [tl_tx, hs] at this
      exact this
    · intro h
      rw [h, ← hs, tx_tl]
  have noNum : (w = [] ∨ w.head? = some 48 ∨ 30 < w.length) → pairL (lawPiece h) rr = none := fun hn => pairL_none3 e c (by rw [hw]; exact if_pos hn)
  have failW : ∀ q, H2 q = none → (w = [] ∨ w.head? = some 48 ∨ 30 < w.length) → Q (.ref q) (upd H2 q (.tup [V.non, .int ((pos (tl z) r2 : Nat) : Int)])) := fun q hq hn => fail r2 H2 hr2 (fun _ _ e => e) (noNum hn) q hq
  refine ⟨_, rfl, rfl, _, rfl, ?_⟩
  by_cases e0 : w = []
  · rw [decide_eq_true ((strEq _ [] (by decide +kernel)).mpr e0)]
    exact iteT (iteT ⟨_, rfl, small (by show 2 ≤ 1000; decide), fun q hq => failW q hq (.inl e0)⟩)
  rw [decide_eq_false fun h => e0 ((strEq _ [] (by decide +kernel)).mp h)]
  obtain ⟨d, ws, ew⟩ : ∃ d ws, w = d :: ws := by
    cases w with
    | nil => exact absurd rfl e0
    | cons d ws => exact ⟨d, ws, rfl⟩
  have hat : atI (tx w).cps.toList 0 = some d := by
    rw [ew]
    exact (show atI (d :: ws) ((0 : Nat) : Int) = some d from atI_nat rfl)
  have hhd : w.head? = some d := by rw [ew]; rfl
  refine iteF ⟨_, rfl, tx w, 0, d, rfl, rfl, wk, hat, rfl, _, rfl, ?_⟩
  by_cases ed : d = 48
  · have : (V.str (⟨#[d]⟩ : Str) = V.str "0") := by
      rw [ed]
      decide +kernel
    rw [decide_eq_true this]
    exact iteT (iteT ⟨_, rfl, small (by show 2 ≤ 1000; decide), fun q hq => failW q hq (.inr (.inl (by rw [hhd, ed])))⟩)
  have : ¬ (V.str (⟨#[d]⟩ : Str) = V.str "0") := fun h => ed (by
    have := congrArg tl (V.str.inj h)
    have e2 : tl ("0" : Str) = [48] := by decide +kernel
    rw [e2] at this
    exact (List.cons.inj this).1)
  rw [decide_eq_false this]
  refine iteF ⟨_, rfl, .str (tx w), (tx w).length, rfl, ⟨wk, rfl⟩, _, 30, rfl, rfl, _, rfl, ?_⟩
  refine ite2 (fun h30 => ?_) (fun h30 => ?_)
  · have h30 := of_decide_eq_true h30
    exact ⟨_, rfl, small (by show 2 ≤ 1000; decide), fun q hq => failW q hq (.inr (.inr (by omega)))⟩
  have h30 : w.length ≤ 30 := by
    have : ¬ ((30 : Int) < ((tx w).length : Int)) := fun e => h30 (decide_eq_true e)
    omega
  have num : numL w = some (digitsVal w) := by
    unfold numL
    rw [if_neg]
    rintro (z | z | z)
    · exact e0 z
    · rw [hhd] at z
      exact ed (Option.some.inj z)
    · omega
  have pair : pairL (lawPiece h) rr = some (.tuple [p, .int (digitsVal w : Nat)], r2) := by
    rw [← hr2e]
    exact pairL_in e c (by rw [hw]; exact num)
  have hD2 := s2 _ _ hDv
  refine ⟨_, rfl, .inl ⟨rfl, _, .inl (.inl hD2)⟩, _, rfl, _, rfl, tx w, _, rfl, intText_digits (x := tx w) (dig_of dig) (by rw [ew]; exact nofun) (by omega), by omega, small (by show 2 ≤ 1000; decide), fun t ht2 => ?_⟩
  have mt := same_new ht2 (.tup [v, .int ((digitsVal (tx w).cps.toList : Nat) : Int)])
  have hD3 := mt _ _ hD2
  have ntD : t ≠ D := (ne_of_none hD2 ht2).symm
  refine ⟨D, vs, _, rfl, rfl, hD3, ?_, ?_⟩
  · rw [hlen]
    have := suf_len hr0
    rw [sizeLine_eq] at *
    omega
  generalize hH3 : upd H2 t (.tup [v, .int ((digitsVal (tx w).cps.toList : Nat) : Int)]) = H3 at mt hD3 ⊢
  have up : But D H3 (upd H3 D (.lst (vs ++ [.ref t]))) := But.upd
  have nlx : noList (.tuple [p, .int (digitsVal w : Nat)]) = true := by simp only [noList, noListAll, nlp, Bool.and_self]
  have hdx : Dv K H3 (.ref t) (.tuple [p, .int (digitsVal w : Nat)]) := .tup (.inl (.inl (by rw [← hH3]; exact upd_same))) (.cons (hdv.same mt) (.cons (.int _) .nil))
  have hacc : DvAll K (upd H3 D (.lst (vs ++ [.ref t]))) (vs ++ [.ref t]) (acc ++ [.tuple [p, .int (digitsVal w : Nat)]]) := (DvAll.but up ⟨_, hD3⟩ nl (hds.same (Same.trans s2 mt))).append (.cons (Dv.but up ⟨_, hD3⟩ nlx hdx) .nil)
  have sH : Same H (upd H3 D (.lst (vs ++ [.ref t]))) := fun b o hb => by
    rw [upd_ne (ne_of_none hb hD)]
    exact mt _ _ (s2 _ _ (s1 _ _ hb))
  have hD4 : (upd H3 D (.lst (vs ++ [.ref t]))) D = some (.lst (vs ++ [.ref t])) := upd_same
  generalize upd H3 D (.lst (vs ++ [.ref t])) = H4 at hacc sH hD4 ⊢
  refine ⟨.str z, rfl, _, rfl, _, rfl, _, rfl, _, _, rfl, rfl, _, rfl, z, rfl, hk, rfl, _, rfl, ?_⟩
  rw [look hr2 op43]
  by_cases c3 : r2.head? = some 43
  · rw [decide_eq_true c3]
    refine iteF ⟨_, rfl, _, 1, rfl, rfl, ?_⟩
    have lt3 := tail_lt c3
    refine ⟨r2.tail.length, by omega, n, acc ++ [.tuple [p, .int (digitsVal w : Nat)]], r2.tail, some v, some (.int ((pos (tl z) r1.tail : Nat) : Int)), some (.str (tx w)), vs ++ [.ref t], ?_, suf_tail hr2, by omega, rfl, hD4, hacc, ?_, ?_, sH, heq.trans (contL_more pair c3)⟩
    · rw [pos_tail hr2 c3, Int.natCast_add]
      rfl
    · have : ∀ {l : List PyData}, noListAll l = true → noListAll (l ++ [.tuple [p, .int (digitsVal w : Nat)]]) = true := fun {l} => by
        induction l with
        | nil => intro _; show noListAll [_] = true; simp only [noListAll, nlx, Bool.and_self]
        | cons a l ih =>
          intro h
          simp only [noListAll, Bool.and_eq_true] at h
          show noListAll (a :: (l ++ [_])) = true
          simp only [noListAll, h.1, ih h.2, Bool.and_self]
      exact this nl
    · rw [List.length_append, List.length_singleton]
      omega
  · rw [decide_eq_false c3]
    refine iteT ⟨_, rfl, D, _, rfl, .inl ⟨.inl (.inl hD4), fun a ha => ?_⟩⟩
    refine ⟨_, rfl, small (by show 2 ≤ 1000; decide), fun q2 hq2 => ?_⟩
    have m3 := same_new ha (.tup (vs ++ [.ref t]))
    have m4 := same_new hq2 (.tup [V.ref a, .int ((pos (tl z) r2 : Nat) : Int)])
    exact qs _ r2 (heq.trans (contL_end pair c3)) q2 (.ref a) _ (Same.trans sH (Same.trans m3 m4)) upd_same (.tup (.inl (.inl (m4 _ _ upd_same))) (hacc.same (Same.trans m3 m4)))
end
end Fs
set_option Elab.async false
set_option linter.all false
set_option maxRecDepth 100000
set_option maxHeartbeats 2000000
namespace L2
open PySem PySem.Spec PyProof.Rows
/-- a call of a local name that holds a def which may raise -/
def tCallLS (i : Nat) (f : Addr) (sp : Sp) (E : St → XK) (t : TA) : TE := fun σ H Q => σ[i]? = some (some (.ref f)) ∧ t σ H fun vs H1 => sp vs H1 Q (E σ)
section
variable {X : Cx} {CX : CXT} {k i : Nat} {f : Addr} {fd : FuncData} {ps : List Str} {sp : Sp} {E : St → XK} {x : Str} {p pos : Pos} {e : Expr} {es : List Expr} {t : TA}
theorem pe_callLS (F : FnOk X.prog X.w X.K X.mg X.base CX k f fd ps sp) (hr : Room k X.A) (hN : X.N[i]? = some x) (hv : Vis X.env.scope x) (hk : PySem.W.keepIn X.K (.ref f) = true) (hb : Binds X.K fd ps []) (hx : ∀ σ, PassesAt CX X σ (E σ)) (ha : PA X (e :: es) t)
    (hdb : (x == ("__debug__" : Str)) = false := by decide) (hcd : (x == ("__classdict__" : Str)) = false := by decide)
    (he : starEach (e :: es) X.env = (false, eval e X.env) :: starEach es X.env := by rfl) (hpl : (backTo pos (starEach es X.env)).any (·.1) = false := by rfl) : PE X (.Call (.Name x p) (e :: es) [] pos) (tCallLS i f sp E t) := by
  refine ⟨fun pins s σ H Q I h => ?_⟩
  obtain ⟨hs, ht⟩ := h
  refine wpAny_Call_Name_kw (thn ((pe_var (pos := p) hN hv hdb hcd).run pins s σ H (fun v H1 => v = .ref f ∧ H1 = H) I ⟨.ref f, hs, rfl, rfl⟩) fun u s1 ⟨v, H1, I1, r1, q1⟩ => ?_)
  obtain ⟨rfl, rfl⟩ := q1
  cases r1
  refine PySem.W.callWith_K (h₀ := X.base) I.ok.mod.kin hk (thn (ha.run pos pins s1 σ _ _ I1 ht) fun us s2 ⟨vs, H2, I2, r, q⟩ => ⟨I2.kIn, ?_⟩) he hpl
  exact run_fnS F hr hb (hx σ) I2 r q
end
end L2
namespace Fs
open PySem PySem.NumText L2
theorem FnOk.weak {P : Program} {w : World} {K : PySem.W.Frag} {mg : Str → Option Value} {base : Heap} {CX : CXT} {k : Nat} {f : Addr} {fd : FuncData} {ps : List Str} {sp sp' : Sp} (F : FnOk P w K mg base CX k f fd ps sp) (i : ∀ vs H Q E, sp' vs H Q E → sp vs H Q E) : FnOk P w K mg base CX k f fd ps sp' :=
  ⟨fun vs H Q E h => F.len vs H Q E (i _ _ _ _ h), fun A outer s H args us vs Q E hr e b r h => F.run A outer s H args us vs Q E hr e b r (i _ _ _ _ h)⟩
abbrev s__law_due : Stmt := top 41
abbrev sc__law_dueN : List Str := ["_law_text", "_law_found", "_law_at"]
theorem sc__law_due : FnScope sc__law_dueN ["_law_text"] (defScope s__law_due) := ⟨rfl, rfl, rfl, by decide +kernel, rfl, by decide +kernel, by decide +kernel⟩
abbrev s__law_heard : Stmt := top 42
abbrev sc__law_heardN : List Str := ["_law_ask", "_law_value", "_law_caught", "_law_told", "error"]
theorem sc__law_heard : FnScope sc__law_heardN ["_law_ask", "_law_value"] (defScope s__law_heard) := ⟨rfl, rfl, rfl, by decide +kernel, rfl, by decide +kernel, by decide +kernel⟩
def spDue (K : PySem.W.Frag) : Sp := fun vs H Q _ => ∃ (v : V) (d : PyData), vs = [v] ∧ Dv K H v d ∧ (readD d = none → ∀ H', Same H H' → Q .non H') ∧ ∀ ds, readD d = some ds → ∀ v' H', Same H H' → Dv K H' v' (.tuple ds) → Q v' H'
/-- what a function of the program tells or refuses -/
def spAsk (K : PySem.W.Frag) (CB : Addr) (o : PyData → Option PyData) : Sp := fun vs H Q E => ∃ (v : V) (d : PyData), vs = [v] ∧ Dv K H v d ∧ (o d = none → Refused CB v H E) ∧ ∀ x, o d = some x → ∀ v' H', Same H H' → Dv K H' v' x → Q v' H'
def oRead (d : PyData) : Option PyData := (readD d).map PyData.tuple
def oShow (d : PyData) : Option PyData := if far d = 0 then none else some (.str (shT 4 d))
def oLong (d : PyData) : Option PyData := if far d = 0 then none else some (.int (far d : Nat))
def heardD (o : PyData → Option PyData) (d : PyData) : PyData := match o d with
  | some x => .tuple [.str "told", x]
  | none => .tuple [.str "refused", d]
def spHeard (K : PySem.W.Frag) (g : Addr) (o : PyData → Option PyData) : Sp := fun vs H Q _ => ∃ (v : V) (d : PyData), vs = [.ref g, v] ∧ Dv K H v d ∧ ∀ v' H', Same H H' → Dv K H' v' (heardD o d) → Q v' H'
/-- the facts of the classes that are asked of a kept exception -/
structure KeptTxt (K : PySem.W.Frag) (mg : Str → Option Value) (CB CP : Addr) : Prop where
  fr : PySem.W.FrC K CB
  nv : PySem.W.findIn K (.ref CB) "value" = some none
  mP : mg "PassError" = some (.ref CP)
  mB : mg "BadFar" = some (.ref CB)
  ex : PySem.W.exmOne K (.ref CB) (.ref CP) = some true
  kB : PySem.W.kitOne K (.ref CB) (.ref CB) = some true
  kV : PySem.W.kitOne K (.ref CB) (.type "ValueError") = some true
theorem boot_verr : bootBuiltins "ValueError" = some (.type "ValueError") := by decide +kernel
theorem short2 : ("refused" : Str).length ≤ 1000000 ∧ ("told" : Str).length ≤ 1000000 := by decide +kernel
section
variable {P : Program} {w : World} {K : PySem.W.Frag} {mg : Str → Option Value} {base : Heap}
theorem ask_read {CB f : Addr} {fd : FuncData} {k : Nat} (F : FnOk P w K mg base (L2.CX P w) k f fd ["text"] (spRead K CB)) : FnOk P w K mg base (L2.CX P w) k f fd ["text"] (spAsk K CB oRead) := FnOk.weak F fun vs H Q E h => by
  obtain ⟨v, d, rfl, hd, qn, qs⟩ := h
  refine ⟨v, d, rfl, hd, fun e => qn (by unfold oRead; rw [e]; rfl), fun ds e => qs _ (by unfold oRead; rw [e]; rfl)⟩
theorem ask_show {CB f : Addr} {fd : FuncData} {k : Nat} (F : FnOk P w K mg base (L2.CX P w) k f fd ["far"] (spShow K CB)) : FnOk P w K mg base (L2.CX P w) k f fd ["far"] (spAsk K CB oShow) := FnOk.weak F fun vs H Q E h => by
  obtain ⟨v, d, rfl, hd, qn, qs⟩ := h
  refine ⟨v, d, rfl, hd, fun n H' s => qs (.str (shT 4 d)) (if_neg n) _ H' s (.str _ ?_), fun e => qn (if_pos e)⟩
  have := sh_short (Nat.le_refl 4) (far_sz n)
  have e : (shT 4 d).length = (shFar 4 d).length := tx_len _
  omega
theorem ask_long {CB f : Addr} {fd : FuncData} {k : Nat} (F : FnOk P w K mg base (L2.CX P w) k f fd ["far"] (spLength K CB)) : FnOk P w K mg base (L2.CX P w) k f fd ["far"] (spAsk K CB oLong) := FnOk.weak F fun vs H Q E h => by
  obtain ⟨v, d, rfl, hd, qn, qs⟩ := h
  exact ⟨v, d, rfl, hd, fun n H' s => qs (.int (far d : Nat)) (if_neg n) _ H' s (.int _), fun e => qn (if_pos e)⟩
theorem ok_lpairsT {f : Addr} {fd : FuncData} (F : Fun K "_law_pairs" "_law_pairs" s__law_pairs f fd) (T : Bare mg) (C : Con K mg) (m : mg "_law_pairs" = some (.ref f)) (kk : PySem.W.keepIn K (.ref f) = true) (b : Binds K fd ["_law_text", "_law_at", "_law_deep"] []) : ∀ h, h ≤ 29 → FnOk P w K mg base CX0 (h + 1) f fd ["_law_text", "_law_at", "_law_deep"] (spLPairs K h)
  | 0, l => ok_lpairs (h := 0) (lev := 0) (spP := spNo) F T C l (fun j e => by omega) ⟨f, fd, never_ok, m, kk, b⟩
  | h + 1, l => ok_lpairs (h := h + 1) F T C l (fun j e => by rw [show h = j by omega]) ⟨f, fd, ok_lpairsT F T C m kk b h (by omega), m, kk, b⟩
theorem ok_due {f : Addr} {fd : FuncData} (F : Fun K "_law_due" "_law_due" s__law_due f fd) (T : Bare mg) (C : Con K mg) (CP : Callee P w K mg base 30 "_law_pairs" ["_law_text", "_law_at", "_law_deep"] (spLPairs K 29)) (CF : Callee P w K mg base 10 "_law_is_far" ["_law_value"] (spIsFar K)) : FnOk P w K mg base CX0 31 f fd ["_law_text"] (spDue K) := by
  refine F.ok sc__law_due (fun vs H Q E h => ?_) (fun cdv A outer s H vs Q E hr h => ?_)
  · obtain ⟨v, d, rfl, _⟩ := h
    rfl
  obtain ⟨v, d, rfl, hd, qn, qs⟩ := h
  refine ⟨_, (pss_cons (ps_if (pt_not (pt_val (pe_callB call_isD (by rfl) C.isi boot_isi (pa_cons (pv 0) (pa_cons (pe_bltn (v := .ty "str") (u := .type "str") (by rfl) T.str (by decide +kernel) rfl) pa_nil)))))
(pss_one (ps_ret pe_non))
pss_nil)
(pss_cons (ps_asg (pe_call CP.ok (hr.mono (by decide)) rfl CP.mg CP.kp CP.b .nil pass0 (pa_cons (pv 0) (pa_cons pe_int (pa_cons pe_int pa_nil)))) (pg_tup (by rfl) (pgs_cons (pg_name (i := 1) sc__law_due.nd rfl (Or.inl rfl)) (pgs_cons (pg_name (i := 2) sc__law_due.nd rfl (Or.inl rfl)) pgs_nil))))
(pss_one (ps_ret (pe_ifExp (PW.pt (pw_and (pt_cmpR op_notN (pv 1) pe_non (nomark _)) (pw_and (pt_cmpR op_eq (pv 2) (pe_callB call_len (by rfl) T.len PySem.boot_len (pa_cons (pv 0) pa_nil)) (nomark _)) (pw_and1 (pt_val (pe_call CF.ok (hr.mono (by decide)) rfl CF.mg CF.kp CF.b .nil pass0 (pa_cons (pv 1) pa_nil))))))) (pv 1) pe_non))))), ?_⟩
  refine ⟨v, rfl, v, d, "str", rfl, hd, .inr (.inl rfl), _, rfl, ?_⟩
  by_cases hs : isT "str" d = true
  rotate_left
  · rw [Bool.eq_false_iff.mpr hs]
    refine iteT (qn ?_ H (fun _ _ e => e))
    cases d with
    | str z => exact absurd ((isT_str _).mpr ⟨z, rfl⟩) hs
    | _ => rfl
  obtain ⟨z, rfl⟩ := (isT_str d).mp hs
  rw [hs]
  refine iteF ?_
  cases hd with
  | str _ hz =>
  have hk := len_k hz
  have hl0 := len_tl z
  have eq : readD (.str z) = dueBy (lawPairs 29) (tl z) := (due_eq (tl z)).symm
  rw [eq] at qn qs
  refine ⟨_, rfl, z, tl z, ?_, hz, List.suffix_refl _, fun e q rr H1 hrr s1 hq => ?_, fun ds r2 e q vt H1 s1 hq hdv => ?_⟩
  · show [V.str z, V.int 0, V.int 1] = [V.str z, V.int ((pos (tl z) (tl z) : Nat) : Int), V.int (30 - ((29 : Nat) : Int))]
    rw [pos_self]
    rfl
  · refine ⟨q, _, rfl, .inl (.inl hq), rfl, .non, _, rfl, _, _, rfl, rfl, ?_⟩
    refine ⟨_, rfl, rfl, _, rfl, ?_⟩
    rw [decide_eq_true (rfl : V.non = V.non)]
    refine iteF (iteF (qn ?_ H1 s1))
    unfold dueBy
    rw [e]
    rfl
  · have hr2 : r2 <:+ tl z := (lawPairs_pfs 29 _ _ _ e).1
    have both : dueBy (lawPairs 29) (tl z) = if r2 = [] ∧ far (.tuple ds) ≠ 0 then some ds else none := by
      unfold dueBy
      rw [e]
      rfl
    have nn : vt ≠ .non := fun z => by rw [z] at hdv; cases hdv
    refine ⟨q, _, rfl, .inl (.inl hq), rfl, vt, _, rfl, _, _, rfl, rfl, ?_⟩
    refine ⟨vt, rfl, rfl, _, rfl, ?_⟩
    rw [decide_eq_false nn]
    refine iteT ⟨_, rfl, .str z, rfl, .str z, _, rfl, ⟨hk, rfl⟩, rfl, _, rfl, ?_⟩
    by_cases c1 : r2 = []
    rotate_left
    · have : ¬ (V.int ((pos (tl z) r2 : Nat) : Int) = V.int (z.length : Int)) := fun e => c1 ((pos_end hr2).mp (by have := V.int.inj e; omega))
      rw [decide_eq_false this]
      exact iteF (iteF (qn (by rw [both, if_neg fun c => c1 c.1]) H1 s1))
    have : V.int ((pos (tl z) r2 : Nat) : Int) = V.int (z.length : Int) := congrArg V.int (by have := (pos_end hr2).mpr c1; omega)
    rw [decide_eq_true this]
    refine iteT ⟨vt, rfl, vt, .tuple ds, rfl, hdv, fun H2 s2 => ⟨_, rfl, ?_⟩⟩
    refine ite2 (fun c2 => ?_) (fun c2 => ?_)
    · have c2 := of_decide_eq_true c2
      exact ⟨vt, rfl, qs ds (by rw [both, if_pos ⟨c1, c2⟩]) vt H2 (Same.trans s1 s2) (hdv.same s2)⟩
    · exact qn (by rw [both, if_neg fun c => c2 (decide_eq_true c.2)]) H2 (Same.trans s1 s2)
theorem ok_heard {f CB CP g : Addr} {fd fdg : FuncData} {k : Nat} {y : Str} {o : PyData → Option PyData} (F : Fun K "_law_heard" "_law_heard" s__law_heard f fd) (T : Bare mg) (C : Con K mg) (TK : KeptTxt K mg CB CP) (OG : FnOk P w K mg base (L2.CX P w) k g fdg [y] (spAsk K CB o))
    (kg : PySem.W.keepIn K (.ref g) = true) (bg : Binds K fdg [y] []) : FnOk P w K mg base CX0 (k + 1) f fd ["_law_ask", "_law_value"] (spHeard K g o) := by
  refine F.ok sc__law_heard (fun vs H Q E h => ?_) (fun cdv A outer s H vs Q E hr h => ?_)
  · obtain ⟨v, d, rfl, _⟩ := h
    rfl
  obtain ⟨v, d, rfl, hd, q⟩ := h
  refine ⟨_, (pss_cons (ps_asg (pe_tup (pa_cons pe_non (pa_cons pe_non pa_nil))) (pg_tup (by rfl) (pgs_cons (pg_name (i := 2) sc__law_heard.nd rfl (Or.inl rfl)) (pgs_cons (pg_name (i := 3) sc__law_heard.nd rfl (Or.inl rfl)) pgs_nil))))
(pss_cons (ps_try_kept (i := 4) rfl rfl rfl sc__law_heard.nd rfl rfl ⟨rfl, by decide, .inl TK.mP⟩ takes0 (fun W pn xe tk _ => pss_one (ps_set (i := 3) sc__law_heard.nd rfl (Or.inl rfl) (pe_callLS (i := 0) OG hr rfl (Or.inl rfl) kg bg (fun σ => passAt tk σ) (pa_cons (pv 1) pa_nil)))) (fun a oe cls d pn hz hf => pss_one (ps_set (i := 2) sc__law_heard.nd rfl (Or.inl rfl) (pv 4))))
(pss_cons (ps_if (pt_cmpR op_isN (pv 2) pe_non (nomark _))
(pss_one (ps_ret (pe_tup (pa_cons pe_str (pa_cons (pv 3) pa_nil)))))
pss_nil)
(pss_one (ps_ret (pe_ifExp (PW.pt (pw_and (pt_val (pe_callB call_isK (by rfl) C.isi boot_isi (pa_cons (pv 2) (pa_cons (pe_glob (v := .ref CB) (by rfl) TK.mB rfl) pa_nil)))) (pw_and1 (pt_val (pe_callB call_isK (by rfl) C.isi boot_isi (pa_cons (pv 2) (pa_cons (pe_bltn (v := .ty "ValueError") (u := .type "ValueError") (by rfl) C.verr (by decide +kernel) rfl) pa_nil))))))) (pe_tup (pa_cons pe_str (pa_cons (pe_kept (pv 2)) pa_nil))) (pe_tup (pa_cons pe_str (pa_cons pe_int pa_nil))))))))), ?_⟩
  refine ⟨small (by show 2 ≤ 1000; decide), fun r0 e0 => ?_⟩
  have sm0 := same_new e0 (.tup [V.non, V.non])
  refine ⟨r0, [.non, .non], rfl, .inl (.inl upd_same), rfl, .non, _, rfl, .non, _, rfl, rfl, ?_⟩
  refine ⟨rfl, v, rfl, v, d, rfl, hd.same sm0, fun h0 dd H1 nd sm1 hx => ?_, fun x hx v' H1 sm1 hdv => ?_⟩
  · refine ⟨true, TK.ex, fun _ a na => ⟨.ref a, rfl, fun _ => ?_⟩, nofun⟩
    have sa := same_new na (ExD (.ref CB) (some dd) a)
    have hx' := sa _ _ hx
    refine ⟨_, rfl, rfl, _, rfl, iteF ?_⟩
    refine ⟨.ref a, rfl, a, CB, dd, [("value", v)], .ref CB, .ref CB, true, rfl, upd_same, hx', TK.fr, .own CB, TK.kB, _, rfl, iteT ?_⟩
    refine ⟨.ref a, rfl, a, CB, dd, [("value", v)], _, .type "ValueError", true, rfl, upd_same, hx', TK.fr, .ty _, TK.kV, _, rfl, iteT ?_⟩
    refine ⟨.ref a, rfl, a, CB, dd, [("value", v)], v, rfl, upd_same, hx', TK.fr, TK.nv, rfl, small (by show 2 ≤ 1000; decide), fun r er => ?_⟩
    have sr := same_new er (.tup [V.str "refused", v])
    refine q (.ref r) _ (Same.trans sm0 (Same.trans sm1 (Same.trans sa sr))) ?_
    unfold heardD
    rw [h0]
    exact .tup (.inl (.inl upd_same)) (.cons (.str _ short2.1) (.cons (hd.same (Same.trans sm0 (Same.trans sm1 (Same.trans sa sr)))) .nil))
  · refine ⟨_, rfl, rfl, _, rfl, iteT ⟨_, rfl, small (by show 2 ≤ 1000; decide), fun r er => ?_⟩⟩
    have sr := same_new er (.tup [V.str "told", v'])
    refine q (.ref r) _ (Same.trans sm0 (Same.trans sm1 sr)) ?_
    unfold heardD
    rw [hx]
    exact .tup (.inl (.inl upd_same)) (.cons (.str _ short2.2) (.cons (hdv.same sr) .nil))
end
end Fs
set_option Elab.async false
set_option linter.all false
set_option maxRecDepth 100000
set_option maxHeartbeats 2000000
namespace Fs
open PySem PySem.Spec PyProof.Rows L2
/-! ### repr of a list whose items alone hold dicts -/
theorem repr_outer {P : Program} {w : World} {h0 : Heap} {a : Addr} {ob : Obj} {y : Value} {ys : List Value} {m : Nat} {es : List PyData} {bs0 : List Addr} {A : Around} {E : Value → Shared → Prop} {s : Shared} {Q : Value → Shared → Prop}
    (e1 : h0.get? a = some ob) (e2 : ob.cls = .type "list") (e3 : ob.data = .seq (y :: ys).toArray m) (e4 : ReadsAll h0 (y :: ys) es bs0) (sh : PyData.showableAll es = true) (sm : PyData.hasDictAll es = true → sysModules ∉ bs0)
    (hg : A.guards = some []) (hu : A.units + (PyData.depthAll es + 2) < cLine) (hk : ∀ b o, h0.get? b = some o → s.heap.get? b = some o) (hz : (listText (PyData.shownAll es)).length ≤ sizeLine)
    (q : ∀ h' u tk, (∀ b o, s.heap.get? b = some o → h'.get? b = some o) → Q (.str (listText (PyData.shownAll es)) u) { s with heap := h', toks := tk }) : wpAny (model P w) A (call (.builtin "repr") [.ref a]) Q E s := by
  have each : ∀ t ∈ PyData.shownAll es, t.length ≤ sizeLine := fun t m => Nat.le_trans (listText_mem_le m) hz
  obtain ⟨cs, c1, c2⟩ := ReprAllK.of_readsAll (prog := P) (w := w) e4 sh sm each
  have apart : a ∉ cs := by
    refine not_mem_of_deeper (Reads.list e1 e2 e3 e4) ?_ c1
    simp only [PyData.depth]
    omega
  have many : (PyData.shownAll es).length = (y :: ys).toArray.size := by simpa using c2.length_eq
  refine call_repr_slot (T := "list") (idr := "list.__repr__") (by omega) ⟨ob, hk _ _ e1, e2⟩ F.slot_list_repr.toG ?_
  refine call_list_reprK e1 e2 e3 apart many (fun i v hv => c2.item i v (by simpa using hv)) hg (fun b _ => Clear.nil b) ?_ hk (fun h' u tk kp => ⟨_, _, rfl, q h' u tk kp⟩) hz
  show A.units + 1 + (PyData.depthAll es + 1) < cLine
  omega
/-- data that can be shown; an outer list may hold dicts -/
structure DokW (n m : Nat) (d : PyData) : Prop where
  sh : d.showable = true
  sys : d.hasDict = false ∨ noList d = true ∨ ∃ e es, d = .list (e :: es) ∧ noListAll (e :: es) = true
  dp : d.depth ≤ m
  len : d.shown.length ≤ n
theorem Dok.wide {n m : Nat} {d : PyData} (h : Dok n m d) : DokW n m d := ⟨h.sh, h.sys.elim .inl fun z => .inr (.inl z), h.dp, h.len⟩
section
variable {X : Cx}
theorem call_reprW (hgu : X.A.guards = some []) (hu : X.A.units + 64 < cLine) : CallR X (.builtin "repr") (fun xs H Q => ∃ (v : V) (d : PyData) (n : Nat), xs = [v] ∧ Dv X.K H v d ∧ DokW n 40 d ∧ n ≤ sizeLine ∧ Q (.str d.shown) H) := by
  intro pins s σ H xs us Q I rv h
  obtain ⟨v, d, n, rfl, hd, ok, hn, q⟩ := h
  by_cases c : d.hasDict = false ∨ noList d = true
  · exact call_reprV hgu hu pins s σ H _ us Q I rv ⟨v, d, n, rfl, hd, ⟨ok.sh, c, ok.dp, ok.len⟩, hn, q⟩
  obtain ⟨e, es, rfl, nl⟩ : ∃ e es, d = .list (e :: es) ∧ noListAll (e :: es) = true := by
    rcases ok.sys with z | z | z
    · exact absurd (.inl z) c
    · exact absurd (.inr z) c
    · exact z
  obtain ⟨u, rfl, ru⟩ := rv.one
  cases hd with
  | @lst a xs _ hq ga =>
  cases ru
  obtain ⟨its, rv2, ⟨o, k, ho, hc, _, hdt⟩, _⟩ := I.list hq
  obtain ⟨as, hr, hs⟩ := Dv.readsAll I (e :: es) _ its ga rv2
  cases its with
  | nil => cases hr
  | cons y ys =>
  have hz := Nat.le_trans ok.len hn
  have dp := ok.dp
  simp only [PyData.depth] at dp
  refine repr_outer ho hc hdt hr (by have := ok.sh; simpa [PyData.showable] using this) (fun _ => hs nl) hgu (by omega) (fun _ _ e => e) (by have z := hz; simp only [PyData.shown] at z; exact z) (fun h' u tk kp => ?_)
  exact ⟨.str (PyData.list (e :: es)).shown, H, I.kept (t' := tk) kp, ⟨u, by simp only [PyData.shown]⟩, q⟩
end
end Fs
set_option Elab.async false
set_option linter.all false
set_option maxRecDepth 100000
set_option maxHeartbeats 2000000
namespace Fs
open PySem PySem.Spec PyProof.Rows L2
/-! ### _law_is_read, _law_is_shown -/
theorem shown_pair (a b : PyData) : (PyData.tuple [a, b]).shown.length ≤ a.shown.length + b.shown.length + 7 := by
  simp only [PyData.shown]
  have h1 := tupleText_len_le (PyData.shownAll [a, b])
  have h2 := lens_shown [a, b]
  rw [lens_cons, lens_cons, lens_nil] at h2
  omega
theorem dok_pair {N M : Nat} {z : Str} {d : PyData} (hz : (PyData.str z).shown.length ≤ 20) (h : Dok N M d) : Dok (N + 30) (M + 1) (.tuple [.str z, d]) := ⟨by
  simp only [PyData.showable, PyData.showableAll, h.sh, Bool.and_self], by
  rcases h.sys with k | k
  · left
    simp only [PyData.hasDict, PyData.hasDictAll, k, Bool.or_self]
  · right
    simp only [noList, noListAll, k, Bool.and_self], by
  have := h.dp
  simp only [PyData.depth, PyData.depthAll]
  omega, by
  have := shown_pair (.str z) d
  have := h.len
  omega⟩
theorem dok_int {n : Nat} (h : n ≤ 1000000000000000000000000) : Dok 26 0 (.int (n : Int)) := ⟨by
  simp only [PyData.showable]
  refine decide_eq_true ?_
  by_cases z : (n : Int).natAbs = 0
  · rw [z]; decide
  · rw [Nat.log2_lt z]
    exact Nat.lt_of_lt_of_le (show (n : Int).natAbs < 2 ^ 80 by
      have : (1000000000000000000000000 : Nat) < 2 ^ 80 := by decide
      omega) (Nat.pow_le_pow_right (by decide) (by decide)), .inl (by simp only [PyData.hasDict]), by simp only [PyData.depth]; omega, by
  simp only [PyData.shown]
  have e := int_text_length_le10 (a := (n : Int)) (k := 25) (by decide) (by
    have : (1000000000000000000000000 : Nat) < 10 ^ 25 := by decide
    omega)
  show (Str.ofString (toString (n : Int))).length ≤ 26
  rw [PySem.ofString_length]
  omega⟩
/-- what is told has no dict and is short -/
def Told (o : PyData → Option PyData) : Prop := ∀ d x, o d = some x → Dok 1000000 8 x ∧ x.hasDict = false
theorem tn4 : tn 4 = 472929 := by decide
theorem readD_some {d : PyData} {ds : List PyData} (h : readD d = some ds) : far (.tuple ds) ≠ 0 := by
  cases d with
  | str z => exact (dueBy_iff.mp h).2
  | _ => cases h
theorem told_read : Told oRead := fun d x h => by
  unfold oRead at h
  cases e : readD d with
  | none => rw [e] at h; cases h
  | some ds =>
    rw [e] at h
    cases h
    have k := tale_ok (tale_of_sz (far_sz (readD_some e)))
    rw [tn4] at k
    exact ⟨k.dok.mono (by decide) (by decide), k.nd⟩
theorem told_show : Told oShow := fun d x h => by
  unfold oShow at h
  by_cases z : far d = 0
  · rw [if_pos z] at h; cases h
  · rw [if_neg z] at h
    cases h
    have s := sh_short (Nat.le_refl 4) (far_sz z)
    have e : (shT 4 d).length = (shFar 4 d).length := tx_len _
    have k : Ok 1000000 0 (.str (shT 4 d)) := ok_str (n := 66822) (fun c hc => by
      have := (sh_len (tale_of_sz (far_sz z))).2 c hc
      have : (128 : Nat) ≤ 16 ^ 8 := by decide
      omega) (by omega) (by decide)
    exact ⟨k.dok.mono (Nat.le_refl _) (by decide), k.nd⟩
theorem far_le (d : PyData) : far d ≤ 1000000000000000000000000 := by
  unfold far
  split <;> omega
theorem told_long : Told oLong := fun d x h => by
  unfold oLong at h
  by_cases z : far d = 0
  · rw [if_pos z] at h; cases h
  · rw [if_neg z] at h
    cases h
    exact ⟨(dok_int (far_le d)).mono (by decide) (by decide), by simp only [PyData.hasDict]⟩
theorem sh_words : (PyData.str "told").shown.length ≤ 20 ∧ (PyData.str "refused").shown.length ≤ 20 := by decide +kernel
theorem dok_heard {o : PyData → Option PyData} (ho : Told o) {N M : Nat} {d : PyData} (hM : 8 ≤ M) (h : Dok N M d) : Dok (N + 1000060) (M + 1) (heardD o d) := by
  unfold heardD
  cases e : o d with
  | none => exact (dok_pair sh_words.2 h).mono (by omega) (Nat.le_refl _)
  | some x => exact (dok_pair sh_words.1 (ho d x e).1).mono (by omega) (by omega)
abbrev s__law_is_read : Stmt := top 43
abbrev sc__law_is_readN : List Str := ["_law_value", "_law_kept", "_law_due_here"]
theorem sc__law_is_read : FnScope sc__law_is_readN ["_law_value"] (defScope s__law_is_read) := ⟨rfl, rfl, rfl, by decide +kernel, rfl, by decide +kernel, by decide +kernel⟩
abbrev s__law_is_shown : Stmt := top 44
abbrev sc__law_is_shownN : List Str := ["_law_value", "_law_kept", "_law_has_form", "_law_due_here", "_law_told"]
theorem sc__law_is_shown : FnScope sc__law_is_shownN ["_law_value"] (defScope s__law_is_shown) := ⟨rfl, rfl, rfl, by decide +kernel, rfl, by decide +kernel, by decide +kernel⟩
def spIs (K : PySem.W.Frag) : Sp := fun vs H Q _ => ∃ (v : V) (d : PyData) (N : Nat), vs = [v] ∧ Dv K H v d ∧ Dok N 30 d ∧ N ≤ 6000000 ∧ ∀ H', Same H H' → Q (.bl true) H'
def tFin (K : PySem.W.Frag) : TS := fun D σ H => ∃ (v : V) (d : PyData) (N : Nat) (x : V), σ = [some v, some (.str d.shown), some x] ∧ Dv K H v d ∧ Dok N 30 d ∧ N ≤ 6000000 ∧ Dv K H x (heardD oRead d) ∧ ∀ H', Same H H' → D.rt (.bl true) H'
/-- what is due of show_far and far_length -/
def dueL (d : PyData) : PyData := .list [heardD oShow d, heardD oLong d]
theorem dokW_dueL {N : Nat} {d : PyData} (h : Dok N 30 d) : DokW (2 * (N + 1000062) + 3) 40 (dueL d) := by
  have k1 := dok_heard told_show (by decide) h
  have k2 := dok_heard told_long (by decide) h
  refine ⟨?_, ?_, ?_, ?_⟩
  · unfold dueL
    simp only [PyData.showable, PyData.showableAll, k1.sh, k2.sh, Bool.and_self]
  · by_cases z : far d = 0
    · have e1 : heardD oShow d = .tuple [.str "refused", d] := by
        unfold heardD oShow
        rw [if_pos z]
      have e2 : heardD oLong d = .tuple [.str "refused", d] := by
        unfold heardD oLong
        rw [if_pos z]
      unfold dueL
      rw [e1, e2]
      rcases h.sys with k | k
      · left
        simp only [PyData.hasDict, PyData.hasDictAll, k, Bool.or_self]
      · right; right
        exact ⟨_, _, rfl, by simp only [noList, noListAll, k, Bool.and_self]⟩
    · left
      have e1 : heardD oShow d = .tuple [.str "told", .str (shT 4 d)] := by
        unfold heardD oShow
        rw [if_neg z]
      have e2 : heardD oLong d = .tuple [.str "told", .int (far d : Nat)] := by
        unfold heardD oLong
        rw [if_neg z]
      unfold dueL
      rw [e1, e2]
      simp only [PyData.hasDict, PyData.hasDictAll, Bool.or_self]
  · have d1 := k1.dp
    have d2 := k2.dp
    unfold dueL
    simp only [PyData.depth, PyData.depthAll]
    omega
  · have l1 := k1.len
    have l2 := k2.len
    unfold dueL
    simp only [PyData.shown]
    have := listText_len_le (PyData.shownAll [heardD oShow d, heardD oLong d])
    have e := lens_shown [heardD oShow d, heardD oLong d]
    rw [lens_cons, lens_cons, lens_nil] at e
    omega
def tDue (K : PySem.W.Frag) : TS := fun D σ H => ∃ (v : V) (d : PyData) (x1 : V), σ = [some v, some x1, some (.bl (decide (far d ≠ 0))), none, none] ∧ Dv K H v d ∧ ∀ l H', Same H H' → Dv K H' (.ref l) (dueL d) → D.nx [some v, some x1, some (.bl (decide (far d ≠ 0))), some (.ref l), none] H'
section
variable {P : Program} {w : World} {K : PySem.W.Frag} {mg : Str → Option Value} {base : Heap}
theorem ok_is_read {f g : Addr} {fd : FuncData} (F : Fun K "_law_is_read" "_law_is_read" s__law_is_read f fd) (C : Con K mg) (CD : Callee P w K mg base 31 "_law_due" ["_law_text"] (spDue K))
    (CH : Callee P w K mg base 17 "_law_heard" ["_law_ask", "_law_value"] (spHeard K g oRead)) (mg_ : mg "read_far" = some (.ref g)) : FnOkG P w K mg base 32 f fd ["_law_value"] (spIs K) := by
  refine Fun.okG F sc__law_is_read (fun vs H Q E h => ?_) (fun cdv A outer s H vs Q E hgu hr h => ?_)
  · obtain ⟨v, d, N, rfl, _⟩ := h
    rfl
  obtain ⟨v, d, N, rfl, hd, ok, hN, q⟩ := h
  refine ⟨_, (pss_cons (ps_par (i := 1) (j := 2) (by rfl) sc__law_is_read.nd rfl rfl (by decide) rfl rfl (pa_cons (pe_callB (call_reprV hgu hr.units) (by rfl) C.repr (by decide +kernel) (pa_cons (pv 0) pa_nil)) (pa_cons (pe_tup (pa_cons pe_str (pa_cons (pe_call CD.ok hr rfl CD.mg CD.kp CD.b .nil pass0 (pa_cons (pv 0) pa_nil)) pa_nil))) pa_nil)) (by rfl))
(pss_cons (ps_if (pt_cmpR op_isN (pe_ix ix_tup (pv 2) pe_int (fun _ _ => rfl)) pe_non (nomark _))
(pss_one (ps_set (i := 2) sc__law_is_read.nd rfl (Or.inl rfl) (pe_tup (pa_cons pe_str (pa_cons (pv 0) pa_nil)))))
pss_nil)
(pss_one (ps_weak (t' := tFin K) (ps_ret (pe_and (pe_cmpR op_eq (pe_callB (call_reprV hgu hr.units) (by rfl) C.repr (by decide +kernel) (pa_cons (pe_call CH.ok (hr.mono (by decide)) rfl CH.mg CH.kp CH.b .nil pass0 (pa_cons (pe_glob (v := .ref g) (by rfl) mg_ rfl) (pa_cons (pv 0) pa_nil))) pa_nil)) (pe_callB (call_reprV hgu hr.units) (by rfl) C.repr (by decide +kernel) (pa_cons (pv 2) pa_nil)) (nomark _)) (pe_one (pe_cmpR op_eq (pe_callB (call_reprV hgu hr.units) (by rfl) C.repr (by decide +kernel) (pa_cons (pv 0) pa_nil)) (pv 1) (nomark _))))) (fun D σ H h => by
    obtain ⟨v, d, N, x, rfl, hd, ok, hN, hx, q⟩ := h
    have okD : Dok (N + 1000060) 40 (heardD oRead d) := (dok_heard told_read (by decide) ok).mono (Nat.le_refl _) (by decide)
    have sl := sizeLine_eq
    refine ⟨v, rfl, v, d, rfl, hd, fun v' H1 s1 hv' => ⟨v', heardD oRead d, N + 1000060, rfl, hv', okD, by omega, ?_⟩⟩
    refine ⟨x, rfl, x, heardD oRead d, N + 1000060, rfl, hx.same s1, okD, by omega, rfl, _, rfl, ?_⟩
    rw [decide_eq_true rfl]
    refine iteT ⟨v, rfl, v, d, N, rfl, hd.same s1, ok.mono (Nat.le_refl _) (by decide), by omega, .str d.shown, rfl, rfl, ?_⟩
    have z := q H1 s1
    rw [decide_eq_true rfl]
    exact z))))), ?_⟩
  have sl := sizeLine_eq
  refine ⟨v, rfl, v, d, N, rfl, hd, ok.mono (Nat.le_refl _) (by decide), by omega, v, rfl, v, d, rfl, hd, fun e H1 s1 => ?_, fun ds e v' H1 s1 hv' => ?_⟩
  · refine ⟨small (by show 2 ≤ 1000; decide), fun r hr => ⟨_, _, rfl, ?_⟩⟩
    have m1 := same_new hr (.tup [V.str "told", .non])
    refine ⟨.ref r, rfl, r, _, 1, .non, rfl, rfl, .inl (.inl upd_same), rfl, rfl, _, rfl, ?_⟩
    rw [decide_eq_true (rfl : V.non = V.non)]
    refine iteT ⟨v, rfl, small (by show 2 ≤ 1000; decide), fun r2 hr2 => ?_⟩
    have m2 := same_new hr2 (.tup [V.str "refused", v])
    have s2 := Same.trans s1 (Same.trans m1 m2)
    refine ⟨v, d, N, .ref r2, rfl, hd.same s2, ok, hN, ?_, fun H' s' => q H' (Same.trans s2 s')⟩
    unfold heardD oRead
    rw [e]
    exact .tup (.inl (.inl upd_same)) (.cons (.str _ short2.1) (.cons (hd.same s2) .nil))
  · refine ⟨small (by show 2 ≤ 1000; decide), fun r hr => ⟨_, _, rfl, ?_⟩⟩
    have m1 := same_new hr (.tup [V.str "told", v'])
    have nn : v' ≠ .non := fun z => by rw [z] at hv'; cases hv'
    refine ⟨.ref r, rfl, r, _, 1, v', rfl, rfl, .inl (.inl upd_same), rfl, rfl, _, rfl, ?_⟩
    rw [decide_eq_false nn]
    refine iteF ?_
    have s2 := Same.trans s1 m1
    refine ⟨v, d, N, .ref r, rfl, hd.same s2, ok, hN, ?_, fun H' s' => q H' (Same.trans s2 s')⟩
    unfold heardD oRead
    rw [e]
    exact .tup (.inl (.inl upd_same)) (.cons (.str _ short2.2) (.cons (hv'.same m1) .nil))
theorem ok_is_shown {f g1 g2 : Addr} {fd : FuncData} (F : Fun K "_law_is_shown" "_law_is_shown" s__law_is_shown f fd) (C : Con K mg) (CF : Callee P w K mg base 10 "_law_is_far" ["_law_value"] (spIsFar K)) (CS : Callee P w K mg base 5 "_law_shown" ["_law_far_here"] (spSigns K 4)) (CL : Callee P w K mg base 5 "_law_long" ["_law_far_here"] (spLong K 4))
    (C1 : Callee P w K mg base 14 "_law_heard" ["_law_ask", "_law_value"] (spHeard K g1 oShow)) (m1_ : mg "show_far" = some (.ref g1)) (C2 : Callee P w K mg base 14 "_law_heard" ["_law_ask", "_law_value"] (spHeard K g2 oLong)) (m2_ : mg "far_length" = some (.ref g2)) : FnOkG P w K mg base 15 f fd ["_law_value"] (spIs K) := by
  refine Fun.okG F sc__law_is_shown (fun vs H Q E h => ?_) (fun cdv A outer s H vs Q E hgu hr h => ?_)
  · obtain ⟨v, d, N, rfl, _⟩ := h
    rfl
  obtain ⟨v, d, N, rfl, hd, ok, hN, q⟩ := h
  refine ⟨_, (pss_cons (ps_par (i := 1) (j := 2) (by rfl) sc__law_is_shown.nd rfl rfl (by decide) rfl rfl (pa_cons (pe_callB (call_reprV hgu hr.units) (by rfl) C.repr (by decide +kernel) (pa_cons (pv 0) pa_nil)) (pa_cons (pe_call CF.ok (hr.mono (by decide)) rfl CF.mg CF.kp CF.b .nil pass0 (pa_cons (pv 0) pa_nil)) pa_nil)) (by rfl))
(pss_cons (ps_weak (t' := tDue K) (ps_set (i := 3) sc__law_is_shown.nd rfl (Or.inl rfl) (pe_ifExp (pt_val (pv 2)) (pe_lst (pa_cons (pe_tup (pa_cons pe_str (pa_cons (pe_call CS.ok (hr.mono (by decide)) rfl CS.mg CS.kp CS.b .nil pass0 (pa_cons (pv 0) pa_nil)) pa_nil))) (pa_cons (pe_tup (pa_cons pe_str (pa_cons (pe_call CL.ok (hr.mono (by decide)) rfl CL.mg CL.kp CL.b .nil pass0 (pa_cons (pv 0) pa_nil)) pa_nil))) pa_nil))) (pe_op op_rep (pe_lst (pa_cons (pe_tup (pa_cons pe_str (pa_cons (pv 0) pa_nil))) pa_nil)) pe_int))) (fun D σ H h => by
    obtain ⟨v, d, x1, rfl, hd, q⟩ := h
    refine ⟨_, rfl, _, rfl, ?_⟩
    refine ite2 (fun h => ?_) (fun h => ?_)
    · have h := of_decide_eq_true h
      refine ⟨v, rfl, v, d, rfl, hd, far_sz h, fun H1 s1 => ⟨small (by show 2 ≤ 1000; decide), fun r hr => ?_⟩⟩
      have m1 := same_new hr (.tup [V.str "told", .str (shT 4 d)])
      have s2 := Same.trans s1 m1
      refine ⟨v, rfl, v, d, rfl, hd.same s2, far_sz h, fun H2 s3 => ⟨small (by show 2 ≤ 1000; decide), fun r2 hr2 => ⟨small (by show 2 ≤ 1000; decide), fun l hl => ?_⟩⟩⟩
      have m2 := same_new hr2 (.tup [V.str "told", .int (sz 4 d : Nat)])
      have m3 := same_new hl (.lst [V.ref r, .ref r2])
      have e0 : far d = sz 4 d := by
        unfold far
        rw [if_pos]
        refine Classical.byContradiction fun n => h ?_
        unfold far
        rw [if_neg n]
      refine q l _ (Same.trans s2 (Same.trans s3 (Same.trans m2 m3))) ?_
      unfold dueL heardD oShow oLong
      rw [if_neg h, if_neg h, e0]
      have ls : (shT 4 d).length ≤ 1000000 := by
        have s := sh_short (Nat.le_refl 4) (far_sz h)
        have e : (shT 4 d).length = (shFar 4 d).length := tx_len _
        omega
      exact .lst (.inl (.inl upd_same)) (.cons (.tup (.inl (.inl (m3 _ _ (m2 _ _ (s3 _ _ upd_same))))) (.cons (.str _ short2.2) (.cons (.str _ ls) .nil))) (.cons (.tup (.inl (.inl (m3 _ _ upd_same))) (.cons (.str _ short2.2) (.cons (.int _) .nil))) .nil))
    · have h : far d = 0 := Classical.byContradiction fun n => h (decide_eq_true n)
      refine ⟨v, rfl, small (by show 2 ≤ 1000; decide), fun r hr => ⟨small (by show 1 ≤ 1000; decide), fun l hl => ?_⟩⟩
      have m1 := same_new hr (.tup [V.str "refused", v])
      have m2 := same_new hl (.lst [V.ref r])
      refine ⟨l, 2, [V.ref r], rfl, rfl, upd_same, by decide, by decide, small (by show 1 * 2 ≤ 1000; decide), fun l2 hl2 => ?_⟩
      have m3 := same_new hl2 (.lst [V.ref r, .ref r])
      have s3 := Same.trans m1 (Same.trans m2 m3)
      refine q l2 _ s3 ?_
      unfold dueL heardD oShow oLong
      rw [if_pos h, if_pos h]
      have one : Dv K (upd (upd (upd H r (.tup [V.str "refused", v])) l (.lst [V.ref r])) l2 (.lst [V.ref r, .ref r])) (.ref r) (.tuple [.str "refused", d]) := .tup (.inl (.inl (m3 _ _ (m2 _ _ upd_same)))) (.cons (.str _ short2.1) (.cons (hd.same s3) .nil))
      exact .lst (.inl (.inl upd_same)) (.cons one (.cons one .nil))))
(pss_cons (ps_set (i := 4) sc__law_is_shown.nd rfl (Or.inl rfl) (pe_lst (pa_cons (pe_call C1.ok hr rfl C1.mg C1.kp C1.b .nil pass0 (pa_cons (pe_glob (v := .ref g1) (by rfl) m1_ rfl) (pa_cons (pv 0) pa_nil))) (pa_cons (pe_call C2.ok hr rfl C2.mg C2.kp C2.b .nil pass0 (pa_cons (pe_glob (v := .ref g2) (by rfl) m2_ rfl) (pa_cons (pv 0) pa_nil))) pa_nil))))
(pss_one (ps_ret (pe_and (pe_cmpR op_eq (pe_callB (call_reprW hgu hr.units) (by rfl) C.repr (by decide +kernel) (pa_cons (pv 4) pa_nil)) (pe_callB (call_reprW hgu hr.units) (by rfl) C.repr (by decide +kernel) (pa_cons (pv 3) pa_nil)) (nomark _)) (pe_one (pe_cmpR op_eq (pe_callB (call_reprV hgu hr.units) (by rfl) C.repr (by decide +kernel) (pa_cons (pv 0) pa_nil)) (pv 1) (nomark _))))))))), ?_⟩
  have sl := sizeLine_eq
  have okL := dokW_dueL ok
  refine ⟨v, rfl, v, d, N, rfl, hd, ok.mono (Nat.le_refl _) (by decide), by omega, v, rfl, v, d, rfl, hd, fun H1 s1 => ⟨_, _, rfl, ?_⟩⟩
  refine ⟨v, d, .str d.shown, rfl, hd.same s1, fun l H2 s2 hl => ?_⟩
  have s02 := Same.trans s1 s2
  refine ⟨v, rfl, v, d, rfl, hd.same s02, fun a1 H3 s3 ha1 => ⟨v, rfl, v, d, rfl, hd.same (Same.trans s02 s3), fun a2 H4 s4 ha2 => ⟨small (by show 2 ≤ 1000; decide), fun l2 hl2 => ?_⟩⟩⟩
  have m1 := same_new hl2 (.lst [a1, a2])
  have h1 : Dv K (upd H4 l2 (.lst [a1, a2])) (.ref l2) (dueL d) := .lst (.inl (.inl upd_same)) (.cons (ha1.same (Same.trans s4 m1)) (.cons (ha2.same m1) .nil))
  have s24 := Same.trans s3 (Same.trans s4 m1)
  refine ⟨_, rfl, _, _, _, rfl, h1, okL, by omega, _, rfl, _, _, _, rfl, hl.same s24, okL, by omega, rfl, _, rfl, ?_⟩
  rw [decide_eq_true rfl]
  refine iteT ⟨v, rfl, v, d, N, rfl, hd.same (Same.trans s02 s24), ok.mono (Nat.le_refl _) (by decide), by omega, .str d.shown, rfl, rfl, ?_⟩
  have z := q _ (Same.trans s02 s24)
  rw [decide_eq_true rfl]
  exact z
end
end Fs
set_option Elab.async false
set_option linter.all false
set_option maxRecDepth 100000
set_option maxHeartbeats 1000000
namespace Fs
open PySem L2
abbrev s__law_far : Stmt := top 34
abbrev sc__law_farN : List Str := ["_law_pot", "_law_deep", "_law_found", "_law_turn", "_law_piece", "_law_one"]
theorem sc__law_far : FnScope sc__law_farN ["_law_pot", "_law_deep"] (defScope s__law_far) := ⟨rfl, rfl, rfl, by decide +kernel, rfl, by decide +kernel, by decide +kernel⟩
/-- the most numbers that a far text takes -/
def dk : Nat → Nat
  | 0 => 0
  | k + 1 => 1 + 6 * (24 + dk k)
def spDrawn (K : PySem.W.Frag) (k : Nat) : Sp := fun vs H Q _ => ∃ (p : Addr) (n : Nat), vs = [.ref p, .int (k : Int)] ∧ Pot H p n ∧ n + dk k < 1000000 ∧
  ∀ (a : Addr) (d : PyData) (H' : Hp), Pot H' p (n + dk k) → But p H H' → Dv K H' (.ref a) d → Tale k d → Q (.ref a) H'
theorem tl_joined : ∀ {ys : List Str}, (∀ y ∈ ys, ∃ c, tl y = [c] ∧ isA c = true) → (TL.joinL [] (ys.map tl)).length = ys.length ∧ ∀ c ∈ TL.joinL [] (ys.map tl), isA c = true
  | [], _ => ⟨rfl, fun _ h => nomatch h⟩
  | [y], h => by
    obtain ⟨c, e, hc⟩ := h y List.mem_cons_self
    show (tl y).length = 1 ∧ ∀ c ∈ tl y, isA c = true
    rw [e]
    exact ⟨rfl, fun x hx => by rw [List.mem_singleton.mp hx]; exact hc⟩
  | y :: z :: ys, h => by
    obtain ⟨c, e, hc⟩ := h y List.mem_cons_self
    have ih := tl_joined fun x hx => h x (List.mem_cons_of_mem _ hx)
    show (tl y ++ ([] ++ TL.joinL [] ((z :: ys).map tl))).length = _ ∧ ∀ c ∈ tl y ++ ([] ++ TL.joinL [] ((z :: ys).map tl)), isA c = true
    rw [e, List.nil_append]
    refine ⟨?_, fun x hx => ?_⟩
    · show (TL.joinL [] ((z :: ys).map tl)).length + 1 = _
      rw [ih.1]
      rfl
    · rcases List.mem_cons.mp hx with rfl | hx
      · exact hc
      · exact ih.2 x hx
theorem small_join {ys : List Str} (h : ∀ y ∈ ys, ∃ c, tl y = [c] ∧ isA c = true) (l1 : 1 ≤ ys.length) (l : ys.length ≤ 20) : Small (Txt.join "" ys) := by
  have e : tl (Txt.join "" ys) = TL.joinL [] (ys.map tl) := by
    rw [TL.join_eq]
    exact (TL.tl_join "" ys).trans (by rfl)
  have := tl_joined h
  have hz : (Txt.join "" ys).length = (tl (Txt.join "" ys)).length := Array.length_toList.symm
  rw [e, this.1] at hz
  exact ⟨by omega, by omega, List.all_eq_true.mpr fun c hc => this.2 c (e ▸ hc)⟩
theorem sum_ones : ∀ {ys : List Str}, (∀ y ∈ ys, ∃ c, tl y = [c] ∧ isA c = true) → (ys.map (·.length)).sum = ys.length
  | [], _ => rfl
  | y :: ys, h => by
    obtain ⟨c, e, hc⟩ := h y List.mem_cons_self
    have ih := sum_ones fun x hx => h x (List.mem_cons_of_mem _ hx)
    have hz : y.length = (tl y).length := Array.length_toList.symm
    rw [List.map_cons, List.sum_cons, ih, List.length_cons, hz, e]
    simp
    omega
theorem Pot.upd {H : Hp} {p q : Addr} {n : Nat} (h : Pot H p n) (ne : q ≠ p) (o : HO) : Pot (L2.upd H q o) p n := by
  obtain ⟨o', b, c, e, r⟩ := h
  exact ⟨o', b, c, by rw [upd_ne ne.symm]; exact e, r⟩
theorem Pot.ne {H : Hp} {p q : Addr} {n : Nat} (h : Pot H p n) (hq : H q = none) : q ≠ p := by
  obtain ⟨ys, hp⟩ := h.is
  exact (ne_of_none hp hq).symm
/-- what is drawn, or in its place a far text -/
def Piece (j : Nat) (d : PyData) : Prop := (∃ z, d = .str z ∧ Small z) ∨ Tale j d
def tPiece (K : PySem.W.Frag) (j : Nat) : TS := fun D σ H => ∃ (p D0 : Addr) (n : Nat) (x3 : Option V) (z : Str), σ = [some (.ref p), some (.int ((j + 1 : Nat) : Int)), some (.ref D0), x3, some (.str z), none] ∧ Pot H p n ∧ n + (1 + dk j) < 1000000 ∧ Small z ∧
  ∀ (v : V) (d : PyData) (H' : Hp), Piece j d → Dv K H' v d → Pot H' p (n + (1 + dk j)) → But p H H' → D.nx [some (.ref p), some (.int ((j + 1 : Nat) : Int)), some (.ref D0), x3, some v, none] H'
section
variable {P : Program} {w : World} {K : PySem.W.Frag} {mg : Str → Option Value} {base : Heap}
theorem ok_drawn {f : Addr} {fd : FuncData} {k lev : Nat} {spP : Sp} (F : Fun K "_law_far" "_law_far" s__law_far f fd) (T : Bare mg) (hk : 1 ≤ k) (hl : 2 ≤ lev) (hP : ∀ j, k = j + 2 → spP = spDrawn K (j + 1))
    (CT : Callee P w K mg base 1 "_law_take" ["_law_pot", "_law_upto"] spTake) (CO : Callee P w K mg base 2 "_law_of" ["_law_pot", "_law_some"] (spOf K))
    (CP : Callee P w K mg base lev "_law_far" ["_law_pot", "_law_deep"] spP) : FnOk P w K mg base CX0 (lev + 1) f fd ["_law_pot", "_law_deep"] (spDrawn K k) := by
  refine F.ok sc__law_far (fun vs H Q E h => ?_) (fun cdv A outer s H vs Q E hr h => ?_)
  · obtain ⟨p, n, rfl, _⟩ := h
    rfl
  obtain ⟨p, n, rfl, hp, hn, q⟩ := h
  refine ⟨_, (pss_cons (ps_set (i := 2) sc__law_far.nd rfl (Or.inl rfl) (pe_lst pa_nil))
(pss_cons (ps_for PassesOwn.never rfl (pi_range1 (by rfl) T.range (pa_cons (pe_op op_add pe_int (pe_call CO.ok (hr.mono hl) rfl CO.mg CO.kp CO.b .nil pass0 (pa_cons (pv 0) (pa_cons (pe_lst (pa_cons pe_int (pa_cons pe_int (pa_cons pe_int (pa_cons pe_int (pa_cons pe_int (pa_cons pe_int pa_nil))))))) pa_nil)))) pa_nil)) (pg_name (i := 3) sc__law_far.nd rfl (Or.inl rfl))
(pss_cons (ps_set (i := 4) sc__law_far.nd rfl (Or.inl rfl) (pe_join pe_str (pe_lc (own := [("_law_one", 5)]) (g := gName 5) rfl sc__law_far.nd (pi_range1 (by rfl) T.range (pa_cons (pe_call CO.ok (hr.mono hl) rfl CO.mg CO.kp CO.b .nil pass0 (pa_cons (pv 0) (pa_cons (pe_lst (pa_cons pe_int (pa_cons pe_int (pa_cons pe_int (pa_cons pe_int (pa_cons pe_int pa_nil)))))) pa_nil))) pa_nil)) (blkOk_by (N := sc__law_farN) (sc := defScope s__law_far) (by decide +kernel)) (fun _ _ _ _ _ => pg_name (i := 5) sc__law_far.nd rfl (Or.inl rfl)) (fun _ _ _ _ _ => pts_nil) (fun _ _ _ _ _ => (pe_call CO.ok (hr.mono hl) rfl CO.mg CO.kp CO.b .nil pass0 (pa_cons (pv 0) (pa_cons (pe_lst (pa_cons pe_str (pa_cons pe_str (pa_cons pe_str pa_nil)))) pa_nil)))))))
(pss_cons (ps_weak (t' := tPiece K (k - 1)) (ps_if (PW.pt (pw_and (pt_cmpR op_gt (pv 1) pe_int (nomark _)) (pw_and1 (pt_cmpR op_eq (pe_call CT.ok (hr.mono (Nat.le_trans (by decide) hl)) rfl CT.mg CT.kp CT.b .nil pass0 (pa_cons (pv 0) (pa_cons pe_int pa_nil))) pe_int (nomark _)))))
(pss_one (ps_set (i := 4) sc__law_far.nd rfl (Or.inl rfl) (pe_call CP.ok hr rfl CP.mg CP.kp CP.b .nil pass0 (pa_cons (pv 0) (pa_cons (pe_op op_sub (pv 1) pe_int) pa_nil)))))
pss_nil) (fun D σ H h => by
    obtain ⟨p, D0, n, x3, z, rfl, hp, hn, hz, q⟩ := h
    obtain ⟨j, rfl⟩ : ∃ j, k = j + 1 := ⟨k - 1, by omega⟩
    have dz : ∀ H', Dv K H' (.str z) (.str z) := fun H' => .str z (Nat.le_trans hz.2.1 (by decide))
    refine ⟨_, rfl, _, 1, rfl, rfl, _, rfl, ?_⟩
    cases j with
    | zero => exact iteF (q (.str z) (.str z) H (.inl ⟨z, rfl, hz⟩) (dz _) (hp.more (by omega)) (But.refl p H))
    | succ j =>
      refine ite2 (fun _ => ?_) (fun h => absurd (decide_eq_true (by omega)) h)
      refine ⟨.ref p, rfl, p, 3, n, rfl, hp, by omega, by decide, by decide, fun u H1 u0 u1 hp1 b1 => ⟨rfl, _, rfl, ?_⟩⟩
      refine ite2 (fun _ => ?_) (fun _ => q (.str z) (.str z) H1 (.inl ⟨z, rfl, hz⟩) (dz _) (hp1.more (by omega)) b1)
      have hsP := hP j rfl
      subst hsP
      have hn : n + (1 + dk (j + 1)) < 1000000 := hn
      refine ⟨.ref p, rfl, _, rfl, _, 1, rfl, rfl, p, n + 1, ?_, hp1, by omega, fun a d H2 hp2 b2 hd ht => ?_⟩
      · show [V.ref p, V.int (((j + 1 + 1 - 1 + 1 : Nat) : Int) - 1)] = _
        rw [show ((j + 1 + 1 - 1 + 1 : Nat) : Int) - 1 = ((j + 1 : Nat) : Int) by omega]
      · exact q (.ref a) d H2 (.inr ht) hd (hp2.more (by show n + 1 + dk (j + 1) ≤ n + (1 + dk (j + 1)); omega)) (b1.trans b2)))
(pss_one (ps_expr (pe_bm PySem.F.plainAttrs_list PySem.F.slot_list_append PySem.F.type_list_append mt_append (pv 2) (pa_cons (pe_tup (pa_cons (pv 4) (pa_cons (pe_call CO.ok (hr.mono hl) rfl CO.mg CO.kp CO.b .nil pass0 (pa_cons (pv 0) (pa_cons (pe_lst (pa_cons pe_int (pa_cons pe_int (pa_cons pe_int (pa_cons pe_int (pa_cons pe_int (pa_cons (pe_op op_pow pe_int pe_int) (pa_cons (pe_op op_pow pe_int pe_int) pa_nil)))))))) pa_nil))) pa_nil))) pa_nil)))))))
(pss_one (ps_ret (pe_callTy call_tuple_of (by rfl) T.tuple (by decide +kernel) (pa_cons (pv 2) pa_nil)))))), ?_⟩
  obtain ⟨j, rfl⟩ : ∃ j, k = j + 1 := ⟨k - 1, by omega⟩
  have hdk : dk (j + 1) = 1 + 6 * (24 + dk j) := rfl
  rw [hdk] at hn
  refine ⟨small (by show 0 ≤ 1000; decide), fun D hD => ?_⟩
  have neD : D ≠ p := by
    obtain ⟨ys, hp⟩ := hp.is
    exact (ne_of_none hp hD).symm
  have hp1 := hp.new hD (.lst [])
  refine ⟨.ref p, rfl, small (by show 6 ≤ 1000; decide), fun l hl => ?_⟩
  have hp2 := hp1.new hl (.lst [.int 0, .int 0, .int 1, .int 1, .int 2, .int 5])
  have nel : l ≠ p := by
    obtain ⟨ys, hp⟩ := hp1.is
    exact (ne_of_none hp hl).symm
  refine ⟨p, .ref l, [.int 0, .int 0, .int 1, .int 1, .int 2, .int 5], n, rfl, hp2, by omega, .inl ⟨l, rfl, .inl (.inl (.inl upd_same))⟩, fun e => nel (V.ref.inj e), by decide, by decide, fun i0 v H1 hv hp3 b1 => ?_⟩
  obtain ⟨u, rfl, u0, u1⟩ : ∃ u : Int, v = .int u ∧ 0 ≤ u ∧ u ≤ 5 := by
    have := List.mem_of_getElem? hv
    simp only [List.mem_cons, List.not_mem_nil, or_false] at this
    rcases this with rfl | rfl | rfl | rfl | rfl | rfl <;> exact ⟨_, rfl, by decide, by decide⟩
  have B1 : But p (upd H D (.lst [])) H1 := same_but (same_new hl _) b1
  have hD1 : H1 D = some (.lst []) := B1 _ _ upd_same neD
  refine ⟨1, u, rfl, rfl, 1 + u, rfl, by omega, by omega, for_range (lo := 0) (n := (1 + u).toNat) (fun i σ H' => ∃ (x3 x4 : Option V) (vs : List V) (ds : List PyData), σ = [some (.ref p), some (.int ((j + 1 : Nat) : Int)), some (.ref D), x3, x4, none] ∧
    H' D = some (.lst vs) ∧ vs.length = i ∧ DvAll K H' vs ds ∧ (∀ x ∈ ds, ∃ p t, x = .tuple [p, .int t] ∧ 1 ≤ t ∧ t ≤ 1000000000000000000 ∧ ((∃ z, p = .str z ∧ Small z) ∨ Tale j p)) ∧ Pot H' p (n + (1 + i * (24 + dk j))) ∧ But p H H') ?_ ?_ ?_⟩
  · exact ⟨_, _, [], [], rfl, hD1, rfl, .nil, (fun _ h => absurd h List.not_mem_nil), hp3.more (by omega), same_but (same_new hD _) B1⟩
  · rintro i σ H2 hi ⟨x3, x4, vs, ds, rfl, hDv, hlen, hds, htale, hp4, B2⟩
    have hi : i < 6 := by omega
    have him : i * (24 + dk j) + (24 + dk j) ≤ 6 * (24 + dk j) := by
      rw [← Nat.succ_mul]
      exact Nat.mul_le_mul_right _ hi
    refine ⟨⟨_, rfl⟩, .ref p, rfl, small (by show 5 ≤ 1000; decide), fun l hl => ?_⟩
    have nel := hp4.ne hl
    refine ⟨p, .ref l, [.int 1, .int 1, .int 2, .int 3, .int 20], _, rfl, hp4.new hl _, by omega, .inl ⟨l, rfl, .inl (.inl (.inl upd_same))⟩, fun e => nel (V.ref.inj e), by decide, by decide, fun i1 v H3 hv hp5 b3 => ?_⟩
    obtain ⟨c, rfl, c0, c1⟩ : ∃ c : Int, v = .int c ∧ 1 ≤ c ∧ c ≤ 20 := by
      have := List.mem_of_getElem? hv
      simp only [List.mem_cons, List.not_mem_nil, or_false] at this
      rcases this with rfl | rfl | rfl | rfl | rfl <;> exact ⟨_, rfl, by decide, by decide⟩
    have B3 : But p H2 H3 := same_but (same_new hl _) b3
    refine ⟨c, rfl, by omega, by omega, fun D2 hD2 => lc_range (lo := 0) (n := c.toNat) (fun m H' => ∃ ys : List Str, H' D2 = some (.lst (ys.map V.str)) ∧ ys.length = m ∧ (∀ y ∈ ys, ∃ c, tl y = [c] ∧ isA c = true) ∧ Pot H' p (n + (1 + i * (24 + dk j)) + 1 + m) ∧ But p H2 H') ?_ ?_ ?_⟩
    · exact ⟨[], upd_same, rfl, (fun _ h => absurd h List.not_mem_nil), hp5.new hD2 _, B3.trans (But.of_same (same_new hD2 _))⟩
    · rintro m H4 hm ⟨ys, hy, hlen2, hc, hp6, b4⟩
      refine ⟨rfl, ?_⟩
      simp only [tYes, ↓reduceIte]
      refine ⟨.ref p, rfl, small (by show 3 ≤ 1000; decide), fun lq hlq => ?_⟩
      have nelq := hp6.ne hlq
      refine ⟨p, .ref lq, [.str "a", .str "b", .str "z"], _, rfl, hp6.new hlq _, by omega, .inl ⟨lq, rfl, .inl (.inl (.inl upd_same))⟩, fun e => nelq (V.ref.inj e), by decide, by decide, fun i2 v H5 hv hp7 b5 => ?_⟩
      obtain ⟨x, rfl, hx⟩ : ∃ x : Nat, v = .str ⟨#[x]⟩ ∧ isA x = true := by
        have := List.mem_of_getElem? hv
        simp only [List.mem_cons, List.not_mem_nil, or_false] at this
        rcases this with rfl | rfl | rfl
        · exact ⟨97, rfl, by decide +kernel⟩
        · exact ⟨98, rfl, by decide +kernel⟩
        · exact ⟨122, rfl, by decide +kernel⟩
      have b5 : But p H4 H5 := same_but (same_new hlq _) b5
      have ne2 : D2 ≠ p := hp5.ne hD2
      refine ⟨_, b5 _ _ hy ne2, ?_, ys ++ [⟨#[x]⟩], ?_, ?_, ?_, ?_, ?_⟩
      · rw [List.length_map]
        exact small1000 (by omega)
      · rw [upd_same, List.map_append]
        rfl
      · rw [List.length_append, hlen2]
        rfl
      · intro y hy'
        rcases List.mem_append.mp hy' with hy' | hy'
        · exact hc y hy'
        · rw [List.mem_singleton.mp hy']
          exact ⟨x, rfl, hx⟩
      · exact (hp7.upd ne2 _).more (by omega)
      · intro b o e nb
        have e3 := B3 b o e nb
        rw [upd_ne (ne_of_none e3 hD2)]
        exact b5 _ _ (b4 _ _ e nb) nb
    · rintro H4 ⟨ys, hy, hlen2, hc, hp6, b4⟩
      have hz := small_join hc (by omega) (by omega)
      refine ⟨"", D2, ys, rfl, rfl, .inl (.inl (.inl hy)), ?_, ?_⟩
      · rw [sum_ones hc]
        show ys.length + ys.length * 0 ≤ _
        omega
      refine ⟨p, D, n + (1 + i * (24 + dk j)) + 21, _, _, rfl, hp6.more (by omega), ?_, hz, fun v d H5 hpc hd hp7 b5 => ?_⟩
      · show _ + (1 + dk j) < _
        omega
      have hp7 : Pot H5 p (n + (1 + i * (24 + dk j)) + 21 + (1 + dk j)) := hp7
      have hpc : Piece j d := hpc
      have B5 : But p H2 H5 := b4.trans b5
      have hD5 : H5 D = some (.lst vs) := B5 _ _ hDv neD
      refine ⟨_, rfl, .inl ⟨rfl, _, .inl (.inl hD5)⟩, ?_⟩
      refine ⟨_, rfl, .ref p, rfl, 10, 6, rfl, rfl, ⟨by decide, by decide, by decide⟩, 10, 18, rfl, rfl, ⟨by decide, by decide, by decide⟩, small (by show 7 ≤ 1000; decide), fun l hl => ?_⟩
      have nel := hp7.ne hl
      refine ⟨p, .ref l, [.int 1, .int 1, .int 2, .int 10, .int 99, .int (10 ^ (6 : Int).toNat), .int (10 ^ (18 : Int).toNat)], _, rfl, hp7.new hl _, by omega, .inl ⟨l, rfl, .inl (.inl (.inl upd_same))⟩, fun e => nel (V.ref.inj e), (by show 0 < 7; decide), (by show 7 < 1000; decide), fun i2 v2 H7 hv2 hp9 b9 => ?_⟩
      obtain ⟨t, rfl, t0, t1⟩ : ∃ t : Int, v2 = .int t ∧ 1 ≤ t ∧ t ≤ 1000000000000000000 := by
        have := List.mem_of_getElem? hv2
        simp only [List.mem_cons, List.not_mem_nil, or_false] at this
        rcases this with rfl | rfl | rfl | rfl | rfl | rfl | rfl <;> exact ⟨_, rfl, by decide +kernel, by decide +kernel⟩
      have B7 : But p H5 H7 := same_but (same_new hl _) b9
      refine ⟨small (by show 2 ≤ 1000; decide), fun r hr => ?_⟩
      have hD7 : H7 D = some (.lst vs) := B7 _ _ hD5 neD
      have nrD : r ≠ D := (ne_of_none hD7 hr).symm
      have nr : r ≠ p := hp9.ne hr
      refine ⟨D, vs, _, rfl, rfl, by rw [upd_ne nrD.symm]; exact hD7, small1000 (by omega), ?_⟩
      have nld : noList d = true := by
        rcases hpc with ⟨z, rfl, _⟩ | hq
        · simp only [noList]
        · exact tale_nl hq
      have nl : noListAll ds = true := nl_all fun x hx => by
        obtain ⟨p, t, rfl, _, _, hq⟩ := htale x hx
        have hp : noList p = true := by
          rcases hq with ⟨z, rfl, _⟩ | hq
          · simp only [noList]
          · exact tale_nl hq
        simp only [noList, noListAll, hp]
        rfl
      have d7 : Dv K H7 v d := Dv.but B7 hp7.is nld hd
      have ds7 : DvAll K H7 vs ds := DvAll.but (B5.trans B7) hp4.is nl hds
      have up : But D H7 (upd (upd H7 r (.tup [v, .int t])) D (.lst (vs ++ [.ref r]))) := fun b o e nb => by
        rw [upd_ne nb, upd_ne (ne_of_none e hr)]
        exact e
      refine ⟨_, _, vs ++ [.ref r], ds ++ [.tuple [d, .int t]], rfl, upd_same, by rw [List.length_append, hlen]; rfl, ?_, ?_, ?_, ?_⟩
      · refine (DvAll.but up ⟨_, hD7⟩ nl ds7).append (.cons (.tup (.inl (.inl ?_)) (.cons (Dv.but up ⟨_, hD7⟩ nld d7) (.cons (.int t) .nil))) .nil)
        rw [upd_ne nrD, upd_same]
      · intro x hx
        rcases List.mem_append.mp hx with hx | hx
        · exact htale x hx
        · exact ⟨d, t, List.mem_singleton.mp hx, t0, t1, hpc⟩
      · refine ((hp9.new hr _).upd neD _).more ?_
        rw [Nat.succ_mul]
        omega
      · intro b o e nb
        have e7 := (B2.trans (B5.trans B7)) b o e nb
        rw [upd_ne, upd_ne (ne_of_none e7 hr)]
        · exact e7
        · exact ne_of_none e hD
  · rintro σ H2 ⟨x3, x4, vs, ds, rfl, hD2, hlen, hds, htale, hp4, B2⟩
    have hl2 := hds.len
    have nl : noListAll ds = true := nl_all fun x hx => by
      obtain ⟨p, t, rfl, _, _, hq⟩ := htale x hx
      have hp : noList p = true := by
        rcases hq with ⟨z, rfl, _⟩ | hq
        · simp only [noList]
        · exact tale_nl hq
      simp only [noList, noListAll, hp]
      rfl
    refine ⟨.ref D, rfl, D, vs, rfl, .inl ⟨.inl (.inl hD2), fun a ha => q a (.tuple ds) _ ?_ (B2.trans (But.of_same (same_new ha _))) (.tup (.inl (.inl upd_same)) (hds.same (same_new ha _))) ⟨ds, rfl, by omega, by omega, htale⟩⟩⟩
    refine (hp4.new ha _).more ?_
    have : (1 + u).toNat * (24 + dk j) ≤ 6 * (24 + dk j) := Nat.mul_le_mul_right _ (by omega)
    omega
end
end Fs
set_option Elab.async false
set_option linter.all false
set_option maxRecDepth 100000
set_option maxHeartbeats 2000000
namespace Fs
open PySem PySem.NumText L2
/-! ### _law_bent -/
abbrev s__law_bent : Stmt := top 45
abbrev sc__law_bentN : List Str := ["_law_pot", "_law_text", "_law_at", "_law_way", "_law_sign"]
theorem sc__law_bent : FnScope sc__law_bentN ["_law_pot", "_law_text"] (defScope s__law_bent) := ⟨rfl, rfl, rfl, by decide +kernel, rfl, by decide +kernel, by decide +kernel⟩
def Plain (z : Str) : Prop := ∀ c ∈ tl z, c < 128
def spBent : Sp := fun vs H Q _ => ∃ (p : Addr) (z : Str) (n : Nat), vs = [.ref p, .str z] ∧ Pot H p n ∧ n + 3 < 1000000 ∧ z.length ≤ 200000 ∧ Plain z ∧
  ∀ (y : Str) (H' : Hp), y.length ≤ 2 * z.length + 8 → Plain y → Pot H' p (n + 3) → But p H H' → Q (.str y) H'
theorem cut_mem (z : Str) (lo hi : Option Int) : ∀ c ∈ tl (cutS z lo hi), c ∈ tl z := fun c hc => List.mem_of_mem_drop (List.mem_of_mem_take hc)
theorem plain_cut {z : Str} (h : Plain z) (lo hi : Option Int) : Plain (cutS z lo hi) := fun c hc => h c (cut_mem z lo hi c hc)
theorem plain_app {x y : Str} (hx : Plain x) (hy : Plain y) : Plain (x ++ y) := fun c hc => by
  rw [tl_app] at hc
  rcases List.mem_append.mp hc with hc | hc
  · exact hx c hc
  · exact hy c hc
theorem len_app (x y : Str) : (x ++ y).length = x.length + y.length := by
  rw [len_tl, tl_app, List.length_append, ← len_tl, ← len_tl]
abbrev signs15 : List V := [.str "a", .str "z", .str "0", .str "1", .str "9", .str "*", .str "+", .str "(", .str ")", .str " ", .str "A", .str "-", .str "00000000", .str "()", .str "(a*1)"]
section
variable {P : Program} {w : World} {K : PySem.W.Frag} {mg : Str → Option Value} {base : Heap}
theorem ok_bent {f : Addr} {fd : FuncData} (F : Fun K "_law_bent" "_law_bent" s__law_bent f fd) (T : Bare mg) (CT : Callee P w K mg base 1 "_law_take" ["_law_pot", "_law_upto"] spTake) (CO : Callee P w K mg base 2 "_law_of" ["_law_pot", "_law_some"] (spOf K)) : FnOk P w K mg base CX0 3 f fd ["_law_pot", "_law_text"] spBent := by
  refine F.ok sc__law_bent (fun vs H Q E h => ?_) (fun cdv A outer s H vs Q E hr h => ?_)
  · obtain ⟨p, z, n, rfl, _⟩ := h
    rfl
  obtain ⟨p, z, n, rfl, hp, hn, hz, pz, q⟩ := h
  refine ⟨_, (pss_cons (ps_par (i := 2) (j := 3) (by rfl) sc__law_bent.nd rfl rfl (by decide) rfl rfl (pa_cons (pe_call CT.ok (hr.mono (by decide)) rfl CT.mg CT.kp CT.b .nil pass0 (pa_cons (pv 0) (pa_cons (pe_op op_add (pe_callB call_len (by rfl) T.len PySem.boot_len (pa_cons (pv 1) pa_nil)) pe_int) pa_nil))) (pa_cons (pe_call CT.ok (hr.mono (by decide)) rfl CT.mg CT.kp CT.b .nil pass0 (pa_cons (pv 0) (pa_cons pe_int pa_nil))) pa_nil)) (by rfl))
(pss_cons (ps_set (i := 4) sc__law_bent.nd rfl (Or.inl rfl) (pe_call CO.ok hr rfl CO.mg CO.kp CO.b .nil pass0 (pa_cons (pv 0) (pa_cons (pe_lst (pa_cons pe_str (pa_cons pe_str (pa_cons pe_str (pa_cons pe_str (pa_cons pe_str (pa_cons pe_str (pa_cons pe_str (pa_cons pe_str (pa_cons pe_str (pa_cons pe_str (pa_cons pe_str (pa_cons pe_str (pa_cons pe_str (pa_cons pe_str (pa_cons pe_str pa_nil)))))))))))))))) pa_nil))))
(pss_cons (ps_if (pt_cmpR op_eq (pv 3) pe_int (nomark _))
(pss_one (ps_ret (pe_op op_add_str (pe_slice sl_str (pv 1) po_none (po_some (pv 2))) (pe_slice sl_str (pv 1) (po_some (pe_op op_add (pv 2) pe_int)) po_none))))
pss_nil)
(pss_one (ps_ret (pe_op op_add_str (pe_op op_add_str (pe_slice sl_str (pv 1) po_none (po_some (pv 2))) (pv 4)) (pe_slice sl_str (pv 1) (po_some (pe_op op_add (pv 2) (pe_callTy call_int1 (by rfl) T.int (by decide +kernel) (pa_cons (pe_cmpR op_eq (pv 3) pe_int (nomark _)) pa_nil)))) po_none))))))), ?_⟩
  have hk : z.length ≤ sizeLine := len_k (by omega)
  have sl := sizeLine_eq
  refine ⟨.ref p, rfl, .str z, rfl, .str z, z.length, rfl, ⟨hk, rfl⟩, _, 1, rfl, rfl, p, _, n, rfl, hp, by omega, by omega, by omega, fun u H1 u0 u1 hp1 b1 => ?_⟩
  refine ⟨.ref p, rfl, p, 4, _, rfl, hp1, by omega, by decide, by decide, fun v H2 v0 v1 hp2 b2 => ⟨_, _, rfl, ?_⟩⟩
  refine ⟨.ref p, rfl, small (by show 15 ≤ 1000; decide), fun l hl => ?_⟩
  have nel := hp2.ne hl
  refine ⟨p, .ref l, signs15, _, rfl, hp2.new hl _, by omega, .inl ⟨l, rfl, .inl (.inl (.inl upd_same))⟩, fun e => nel (V.ref.inj e), (by show 0 < 15; decide), (by show 15 < 1000; decide), fun i x H3 hx hp3 b3 => ?_⟩
  obtain ⟨y, rfl, y8, py⟩ : ∃ y : Str, x = .str y ∧ y.length ≤ 8 ∧ Plain y := by
    have := List.mem_of_getElem? hx
    simp only [List.mem_cons, List.not_mem_nil, or_false] at this
    rcases this with rfl | rfl | rfl | rfl | rfl | rfl | rfl | rfl | rfl | rfl | rfl | rfl | rfl | rfl | rfl <;> exact ⟨_, rfl, by decide +kernel, by unfold Plain; decide +kernel⟩
  have B3 : But p H H3 := b1.trans (b2.trans (same_but (same_new hl _) b3))
  obtain ⟨u, rfl⟩ : ∃ k : Nat, u = (k : Int) := ⟨u.toNat, by omega⟩
  refine ⟨_, rfl, rfl, _, rfl, ?_⟩
  have c1 := cutS_length z none (some (u : Int))
  refine ite2 (fun _ => ?_) (fun _ => ?_)
  · have c2 := cutS_length z (some ((u : Int) + 1)) none
    refine ⟨.str z, rfl, _, rfl, _, rfl, z, rfl, hk, .str z, rfl, _, rfl, _, 1, rfl, rfl, _, rfl, z, rfl, hk, _, _, rfl, rfl, by omega, ?_⟩
    refine q _ H3 ?_ (plain_app (plain_cut pz _ _) (plain_cut pz _ _)) hp3 B3
    rw [len_app]
    omega
  · refine ⟨.str z, rfl, _, rfl, _, rfl, z, rfl, hk, _, rfl, _, _, rfl, rfl, by omega, .str z, rfl, _, rfl, _, rfl, rfl, .inr ⟨_, rfl, _, _, rfl, rfl, _, rfl, z, rfl, hk, _, _, rfl, rfl, ?_, ?_⟩⟩
    · have c2 := cutS_length z (some ((u : Int) + (if decide (V.int v = V.int 1) = true then 1 else 0))) none
      rw [len_app]
      omega
    · refine q _ H3 ?_ (plain_app (plain_app (plain_cut pz _ _) py) (plain_cut pz _ _)) hp3 B3
      have c2 := cutS_length z (some ((u : Int) + (if decide (V.int v = V.int 1) = true then 1 else 0))) none
      rw [len_app, len_app]
      omega
end
end Fs
set_option Elab.async false
set_option linter.all false
set_option maxRecDepth 100000
set_option maxHeartbeats 1000000
namespace Fs
open PySem L2
/-! ### slices and sums of tuples, the pot hidden -/
section
variable {X : Cx}
def rSlP (K : PySem.W.Frag) (p : Addr) : V → Option Int → Option Int → Hp → VK → Prop := fun x lo hi H Q => ∃ a xs, x = .ref a ∧ (∃ o, H p = some o) ∧ SqT K (hid [p] H) a xs ∧ ∀ q H', Same H H' → SqT K (hid [p] H') q (cutV xs lo hi) → Q (.ref q) H'
def rCatP (K : PySem.W.Frag) (p : Addr) : R2 := fun x y H Q => ∃ a b xs ys, x = .ref a ∧ y = .ref b ∧ (∃ o, H p = some o) ∧ SqT K (hid [p] H) a xs ∧ SqT K (hid [p] H) b ys ∧ xs.length + ys.length ≤ sizeLine ∧ ∀ q H', Same H H' → SqT K (hid [p] H') q (xs ++ ys) → Q (.ref q) H'
theorem hid_new' {H : Hp} {p q : Addr} {o : HO} (hp : ∃ o, H p = some o) (hq : H q = none) : hid [p] (upd H q o) q = some o := by
  obtain ⟨u, hp⟩ := hp
  exact hid_get.mpr ⟨fun z => ne_of_none hp hq (List.mem_singleton.mp z).symm, upd_same⟩
theorem sl_tupP (p : Addr) : SlR X (rSlP X.K p) := by
  intro pins s σ H x v vl vu lo hi sl Q I rx hs pl pu ⟨a, xs, e, hp, hq, q⟩
  refine sl_tupA pins s σ H x v vl vu lo hi sl Q I rx hs pl pu ⟨a, xs, e, same_sqT hid_same hq, fun w => ?_, fun _ r hr => ?_⟩
  · have c : cutV xs lo hi = xs := by
      unfold cutV
      rw [w.1, w.2, Nat.sub_zero, List.drop_zero, List.take_length]
    exact q a H (fun _ _ e => e) (by rw [c]; exact hq)
  · exact q r _ (same_new hr _) (.inl (.inl (hid_new' hp hr)))
theorem op_catP (p : Addr) : OpR X (binaryOp .Add) (rCatP X.K p) := by
  intro pins s σ H x y v u Q I rx ry ⟨a, b, xs, ys, e1, e2, hp, ha, hb, hz, q⟩
  refine op_catA pins s σ H x y v u Q I rx ry ⟨a, b, xs, ys, e1, e2, same_sqT hid_same ha, same_sqT hid_same hb, hz, fun z => ?_, fun _ z => ?_, fun _ _ r hr => ?_⟩
  · exact q b H (fun _ _ e => e) (by rw [z]; exact hb)
  · exact q a H (fun _ _ e => e) (by rw [z, List.append_nil]; exact ha)
  · exact q r _ (same_new hr _) (.inl (.inl (hid_new' hp hr)))
end
theorem cut_data {K : PySem.W.Frag} {H : Hp} {xs : List V} {ds : List PyData} (g : DvAll K H xs ds) (lo hi : Option Int) : ∃ es, DvAll K H (cutV xs lo hi) es ∧ es.length ≤ ds.length ∧ ∀ e ∈ es, e ∈ ds := by
  refine ⟨(ds.drop (HT.sIx xs.length 0 lo)).take (HT.sIx xs.length xs.length hi - HT.sIx xs.length 0 lo), (g.drop _).take _, ?_, fun e he => List.mem_of_mem_drop (List.mem_of_mem_take he)⟩
  rw [List.length_take, List.length_drop]
  omega
theorem pe_weak {X : Cx} {e : Expr} {t t' : TE} (i : ∀ σ H Q, t' σ H Q → t σ H Q) (h : PE X e t) : PE X e t' := ⟨fun pins s σ H Q I q => h.run pins s σ H Q I (i _ _ _ q)⟩
/-- thing[:at] + (e,) + thing[at + 1:] -/
def tAround (K : PySem.W.Frag) (p : Addr) (te : TE) : TE := fun σ H Q => ∃ (a : Addr) (xs : List V) (ds : List PyData) (u : Nat), σ[1]? = some (some (.ref a)) ∧ σ[2]? = some (some (.int (u : Int))) ∧ (∃ o, H p = some o) ∧
  SqT K (hid [p] H) a xs ∧ DvAll K (hid [p] H) xs ds ∧ xs.length ≤ 6 ∧
  ∀ H1, Same H H1 → ∀ C : VK, (∀ x dx H2, But p H1 H2 → (∃ o, H2 p = some o) → Dv K (hid [p] H2) x dx → (∀ q es1 es2 H3, Same H2 H3 → Dv K (hid [p] H3) (.ref q) (.tuple (es1 ++ [dx] ++ es2)) → (∀ e ∈ es1, e ∈ ds) → (∀ e ∈ es2, e ∈ ds) → es1.length ≤ 6 → es2.length ≤ 6 → Q (.ref q) H3) → C x H2) → te σ H1 C
theorem around_of {K : PySem.W.Frag} {p : Addr} {te : TE} (σ : L2.St) (H : Hp) (Q : VK) (h : tAround K p te σ H Q) :
    tOp (rCatP K p) (tOp (rCatP K p) (tSl (rSlP K p) (tVar 1) tNoPart (tPart (tVar 2))) (tTup (tCons te tNil))) (tSl (rSlP K p) (tVar 1) (tPart (tOp (rI0 fun i j => .int (i + j)) (tVar 2) (tC (.int 1)))) tNoPart) σ H Q := by
  obtain ⟨a, xs, ds, u, s1, s2, hp, hq, g, hz, q⟩ := h
  have hl := g.len
  refine ⟨.ref a, s1, _, s2, _, rfl, a, xs, rfl, hp, hq, fun q1 H1 sm1 hq1 => ?_⟩
  obtain ⟨es1, ge1, le1, me1⟩ := cut_data (g.same (Same.hid sm1)) none (some (u : Int))
  refine q H1 sm1 _ fun x dx H2 b2 hp2 hdx fin => ⟨small (by show 1 ≤ 1000; decide), fun r hr => ?_⟩
  have sm2 : Same (hid [p] H1) (hid [p] (upd H2 r (.tup [x]))) := fun b o e => Same.hid (same_new hr _) b o (But.hid b2 List.mem_cons_self b o e)
  have lc1 := ge1.len
  refine ⟨q1, r, _, [x], rfl, rfl, ?_, same_sqT sm2 hq1, .inl (.inl (hid_new' hp2 hr)), ?_, fun q2 H3 sm3 hq2 => ?_⟩
  · obtain ⟨o, hp2⟩ := hp2
    exact ⟨o, same_new hr _ _ _ hp2⟩
  · rw [lc1]
    exact small (by show es1.length + 1 ≤ 1000; omega)
  have sm13 : Same (hid [p] H1) (hid [p] H3) := Same.trans sm2 (Same.hid sm3)
  have sm23 : Same H2 H3 := Same.trans (same_new hr _) sm3
  have hp3 : ∃ o, H3 p = some o := hp2.imp fun o h => sm23 _ _ h
  have ga3 := g.same (Same.trans (Same.hid sm1) sm13)
  obtain ⟨es2, ge2, le2, me2⟩ := cut_data ga3 (some ((u : Int) + 1)) none
  refine ⟨.ref a, s1, _, s2, _, _, rfl, rfl, _, rfl, a, xs, rfl, hp3, same_sqT (Same.trans (Same.hid sm1) sm13) hq, fun q3 H4 sm4 hq3 => ?_⟩
  have lc2 := ge2.len
  refine ⟨q2, q3, _, _, rfl, rfl, hp3.imp fun o h => sm4 _ _ h, same_sqT (Same.hid sm4) hq2, hq3, ?_, fun q4 H5 sm5 hq4 => ?_⟩
  · rw [List.length_append, lc1, lc2]
    exact small (by show es1.length + 1 + es2.length ≤ 1000; omega)
  have sm35 : Same H3 H5 := Same.trans sm4 sm5
  refine fin q4 es1 es2 H5 (Same.trans sm23 sm35) (.tup hq4 ?_) me1 me2 (by omega) (by omega)
  exact ((ge1.same (Same.trans sm13 (Same.hid sm35))).append (.cons (hdx.same (Same.hid (Same.trans sm23 sm35))) .nil)).append (ge2.same (Same.hid sm35))
end Fs
set_option Elab.async false
set_option linter.all false
set_option maxRecDepth 100000
set_option maxHeartbeats 2000000
namespace Fs
open PySem L2
/-! ### an expression that builds data, the pot hidden -/
/-- what the slots hold -/
abbrev Env := Nat → PyData
structure Knows (K : PySem.W.Frag) (D : List Nat) (p : Addr) (η : Env) (σ : L2.St) (H : Hp) : Prop where
  at_ : ∃ o, H p = some o
  kn : ∀ i ∈ D, ∃ v, σ[i]? = some (some v) ∧ Dv K (hid [p] H) v (η i)
theorem Knows.same {K : PySem.W.Frag} {D : List Nat} {p : Addr} {η : Env} {σ : L2.St} {H H' : Hp} (s : Same H H') (h : Knows K D p η σ H) : Knows K D p η σ H' := ⟨h.at_.imp fun _ e => s _ _ e, fun r m => (h.kn r m).imp fun _ z => ⟨z.1, z.2.same (Same.hid s)⟩⟩
def tD (K : PySem.W.Frag) (D : List Nat) (f : Env → PyData) : TE := fun σ H Q => ∃ (p : Addr) (η : Env), Knows K D p η σ H ∧ ∀ v H', Same H H' → Dv K (hid [p] H') v (f η) → Q v H'
def tDs (K : PySem.W.Frag) (D : List Nat) (F : Env → List PyData) : TA := fun σ H Q => ∃ (p : Addr) (η : Env), Knows K D p η σ H ∧ ∀ vs H', Same H H' → DvAll K (hid [p] H') vs (F η) → Q vs H'
theorem paf_weak {X : Cx} {es : List Expr} {t t' : TA} (i : ∀ σ H Q, t' σ H Q → t σ H Q) (h : PA X es t) : PA X es t' := ⟨fun pos pins s σ H Q I q => h.run pos pins s σ H Q I (i _ _ _ q)⟩
/-- a text of one sign, so often -/
theorem op_mulT {X : Cx} : OpR X (binaryOp .Mult) (fun x y H Q => ∃ (z r : Str) (n : Int), x = .str z ∧ y = .int n ∧ 2 ≤ n ∧ n ≤ 100 ∧ z.length = 1 ∧ (⟨(List.replicate n.toNat z.cps).foldl (· ++ ·) #[]⟩ : Str) = r ∧ r.length ≤ 1000 ∧ Q (.str r) H) := by
  intro pins s σ H x y v u Q I rx ry h
  obtain ⟨z, r, n, rfl, rfl, h1, h2, hz, e, hl, q⟩ := h
  obtain ⟨t, rfl⟩ := rx
  obtain ⟨t', rfl⟩ := ry
  refine P.mul_str (by rw [decide_eq_false (by omega), decide_eq_false (by omega)]; rfl) (fun _ _ => ?_) (fun _ _ => ?_) ?_
  · rw [hz]
    have : (1 : Int) ≤ (2 ^ 63 - 1) / n := (Int.le_ediv_iff_mul_le (by omega)).mpr (by omega)
    show ¬ ((1 : Nat) : Int) > _
    omega
  · rw [hz]
    exact decide_eq_false (by rw [sizeLine_eq]; omega)
  · rw [if_neg (by omega), if_neg (by
      rw [hz]
      have : (n == 1) = false := beq_eq_false_iff_ne.mpr (by omega)
      rw [this]
      decide), e]
    exact ⟨small hl, .str r, H, I.tok _, ⟨s.toks, rfl⟩, q⟩
section
variable {X : Cx} {D : List Nat} {e a b : Expr} {es : List Expr} {f : Env → PyData} {F : Env → List PyData} {pos : Pos}
theorem pd_of {v : V} {d : PyData} (hd : ∀ H, Dv X.K H v d) (h : PE X e (tC v)) : PE X e (tD X.K D fun _ => d) := pe_weak (fun _ H _ q => by
  obtain ⟨p, η, kn, q⟩ := q
  exact q v H (fun _ _ e => e) (hd _)) h
theorem pd_int {i : Int} {j pos} : PE X (.Constant (.int i) j pos) (tD X.K D fun _ => .int i) := pd_of (fun _ => .int i) pe_int
theorem pd_neg {i : Int} {j pos pos2} : PE X (.UnaryOp .USub (.Constant (.int i) j pos) pos2) (tD X.K D fun _ => .int (-i)) := pe_weak (fun _ H _ q => by
  obtain ⟨p, η, kn, q⟩ := q
  exact ⟨i, rfl, q _ H (fun _ _ e => e) (.int _)⟩) (pe_un un_neg pe_int)
theorem pd_bl {c : Bool} {j pos} : PE X (.Constant (.bool c) j pos) (tD X.K D fun _ => .bool c) := pd_of (fun _ => .bl c) pe_bl
theorem pd_non {j pos} : PE X (.Constant .none j pos) (tD X.K D fun _ => .none) := pd_of (fun _ => .non) pe_non
theorem pd_str {z : Str} {j pos} (h : z.length ≤ 1000000 := by decide) : PE X (.Constant (.str z) j pos) (tD X.K D fun _ => .str z) := pd_of (fun _ => .str z h) pe_str
theorem pd_var {x : Str} {i : Nat} (m : i ∈ D) (h : PE X (.Name x pos) (tVar i)) : PE X (.Name x pos) (tD X.K D fun η => η i) := pe_weak (fun σ H Q q => by
  obtain ⟨p, η, kn, q⟩ := q
  obtain ⟨v, h1, h2⟩ := kn.kn _ m
  exact ⟨v, h1, q v H (fun _ _ e => e) h2⟩) h
theorem pd_nil : PA X [] (tDs X.K D fun _ => []) := paf_weak (fun σ H Q q => by
  obtain ⟨p, η, kn, q⟩ := q
  exact q [] H (fun _ _ e => e) .nil) pa_nil
theorem pd_cons (h : PE X e (tD X.K D f)) (t : PA X es (tDs X.K D F)) (hs : starEach (e :: es) X.env = (false, eval e X.env) :: starEach es X.env := by rfl) : PA X (e :: es) (tDs X.K D fun η => f η :: F η) :=
  paf_weak (fun σ H Q q => by
    obtain ⟨p, η, kn, q⟩ := q
    exact ⟨p, η, kn, fun v H1 s1 h1 => ⟨p, η, kn.same s1, fun vs H2 s2 h2 => q _ H2 (Same.trans s1 s2) (.cons (h1.same (Same.hid s2)) h2)⟩⟩) (pa_cons h t hs)
theorem pd_tup {x1} (t : PA X es (tDs X.K D F)) (hl : ∀ η, (F η).length ≤ 1000 := by exact fun _ => Nat.le_of_ble_eq_true rfl) : PE X (.Tuple es x1 pos) (tD X.K D fun η => .tuple (F η)) :=
  pe_weak (fun σ H Q q => by
    obtain ⟨p, η, kn, q⟩ := q
    exact ⟨p, η, kn, fun vs H1 s1 h1 => ⟨small (by rw [h1.len]; exact hl η), fun r hr => q _ _ (Same.trans s1 (same_new hr _)) (.tup (.inl (.inl (hid_new' (kn.same s1).at_ hr))) (h1.same (Same.hid (same_new hr _))))⟩⟩) (pe_tup t)
theorem pd_lst (t : PA X es (tDs X.K D F)) (hl : ∀ η, (F η).length ≤ 1000 := by exact fun _ => Nat.le_of_ble_eq_true rfl) : PE X (.List es pos) (tD X.K D fun η => .list (F η)) :=
  pe_weak (fun σ H Q q => by
    obtain ⟨p, η, kn, q⟩ := q
    exact ⟨p, η, kn, fun vs H1 s1 h1 => ⟨small (by rw [h1.len]; exact hl η), fun r hr => q _ _ (Same.trans s1 (same_new hr _)) (.lst (.inl (.inl (hid_new' (kn.same s1).at_ hr))) (h1.same (Same.hid (same_new hr _))))⟩⟩) (pe_lst t)
theorem pd_dict : PE X (.Dict [] [] pos) (tD X.K D fun _ => .dict []) :=
  pe_weak (fun σ H Q q r hr => by
    obtain ⟨p, η, kn, q⟩ := q
    exact q _ _ (same_new hr _) (.dct (hid_new' kn.at_ hr))) pe_dnewK
theorem pd_pow {i j : Int} (h : 0 ≤ j ∧ j ≤ 1000000 ∧ i.natAbs < 2 ^ 64) (ha : PE X a (tC (.int i))) (hb : PE X b (tC (.int j))) : PE X (.BinOp a .Pow b pos) (tC (.int (i ^ j.toNat))) :=
  pe_weak (fun σ H Q q => ⟨i, j, rfl, rfl, h, q⟩) (pe_op op_pow ha hb)
theorem pd_plus {i j : Int} (ha : PE X a (tC (.int i))) (hb : PE X b (tC (.int j))) : PE X (.BinOp a .Add b pos) (tC (.int (i + j))) :=
  pe_weak (fun σ H Q q => ⟨i, j, rfl, rfl, q⟩) (pe_op op_add ha hb)
theorem pd_mulT {z r : Str} {n : Int} (h1 : 2 ≤ n) (h2 : n ≤ 100) (hz : z.length = 1) (e : (⟨(List.replicate n.toNat z.cps).foldl (· ++ ·) #[]⟩ : Str) = r) (hr : r.length ≤ 1000) (ha : PE X a (tC (.str z))) (hb : PE X b (tC (.int n))) : PE X (.BinOp a .Mult b pos) (tC (.str r)) :=
  pe_weak (fun σ H Q q => ⟨z, r, n, rfl, rfl, h1, h2, hz, e, hr, q⟩) (pe_op op_mulT ha hb)
theorem pd_strs {x y : Str} (h : x.length + y.length ≤ 1000) (ha : PE X a (tC (.str x))) (hb : PE X b (tC (.str y))) : PE X (.BinOp a .Add b pos) (tC (.str (x ++ y))) :=
  pe_weak (fun σ H Q q => ⟨x, y, rfl, rfl, small h, q⟩) (pe_op op_add_str ha hb)
end
end Fs
set_option Elab.async false
set_option linter.all false
set_option maxRecDepth 100000
set_option maxHeartbeats 2000000
namespace Fs
open PySem PySem.NumText L2
/-! ### _law_bent_far -/
abbrev s__law_bent_far : Stmt := top 46
abbrev sc__law_bent_farN : List Str := ["_law_pot", "_law_far_here", "_law_at", "_law_piece", "_law_times", "_law_odd", "_law_some", "_law_pair"]
theorem sc__law_bent_far : FnScope sc__law_bent_farN ["_law_pot", "_law_far_here"] (defScope s__law_bent_far) := ⟨rfl, rfl, rfl, by decide +kernel, rfl, by decide +kernel, by decide +kernel⟩
abbrev i18 : Int := 10 ^ (18 : Int).toNat
def oddsD : List PyData := [.int 0, .int (-1), .bool true, .none, .str "2", .int (i18 + 1), .tuple [.int 1], .str "", .str "aaaaaaaaaaaaaaaaaaaaa", .str "aB", .tuple [], .tuple [.tuple []], .int 5, .list [], .int i18]
theorem odds_all : (oddsD.all fun d => d.showable && !d.hasDict && decide (d.depth ≤ 2) && decide (d.shown.length ≤ 254)) = true := by decide +kernel
theorem odd_ok {d : PyData} (h : d ∈ oddsD) : Ok 254 2 d := by
  have z := List.all_eq_true.mp odds_all d h
  simp only [Bool.and_eq_true, Bool.not_eq_true', decide_eq_true_eq] at z
  exact ⟨z.1.1.1, z.1.1.2, z.1.2, z.2⟩
def someD (p o : PyData) (t : Int) : List PyData := [.tuple [o, .int t], .tuple [p, o], .tuple [p], .tuple [p, .int t, .int 1], .list [p, .int t], o, .tuple [.tuple [.tuple [p, .int 2]], .int t]]
theorem ok_many {N M L : Nat} {ds : List PyData} (h : ∀ d ∈ ds, Ok N M d) (l : ds.length * (N + 2) + 3 ≤ L) : Ok L (M + 1) (.tuple ds) ∧ Ok L (M + 1) (.list ds) := by
  have := lens_le fun d hd => (h d hd).len
  exact ⟨ok_tup (fun d hd => ⟨_, h d hd⟩) (by omega), ok_lst (fun d hd => ⟨_, h d hd⟩) (by omega)⟩
theorem some_ok {p o d : PyData} {t : Int} (hp : Ok 100000 6 p) (ho : Ok 254 2 o) (t1 : 1 ≤ t) (t2 : t ≤ 1000000000000000000) (h : d ∈ someD p o t) : Ok 400000 10 d := by
  have ot : Ok 100000 6 (.int t) := ok_int (tnat t1 t2) (by decide)
  have o1 : Ok 100000 6 (.int 1) := ok_int (by decide) (by decide)
  have o2 : Ok 100000 6 (.int 2) := ok_int (by decide) (by decide)
  have ho : Ok 100000 6 o := ho.mono (by decide) (by decide)
  have two : ∀ x y : PyData, Ok 100000 6 x → Ok 100000 6 y → Ok 200007 7 (.tuple [x, y]) ∧ Ok 200007 7 (.list [x, y]) := fun x y hx hy => ok_many (fun d hd => by
    rcases mem2 hd with rfl | rfl
    · exact hx
    · exact hy) (by show 2 * (100000 + 2) + 3 ≤ _; decide)
  unfold someD at h
  simp only [List.mem_cons, List.not_mem_nil, or_false] at h
  rcases h with rfl | rfl | rfl | rfl | rfl | rfl | rfl
  · exact (two _ _ ho ot).1.mono (by decide) (by decide)
  · exact (two _ _ hp ho).1.mono (by decide) (by decide)
  · exact (ok_many (N := 100000) (M := 6) (L := 100005) (fun d hd => by rw [List.mem_singleton.mp hd]; exact hp) (by show 1 * (100000 + 2) + 3 ≤ _; decide)).1.mono (by decide) (by decide)
  · exact (ok_many (N := 100000) (M := 6) (L := 300009) (fun d hd => by
      rcases mem3 hd with rfl | rfl | rfl
      · exact hp
      · exact ot
      · exact o1) (by show 3 * (100000 + 2) + 3 ≤ _; decide)).1.mono (by decide) (by decide)
  · exact (two _ _ hp ot).2.mono (by decide) (by decide)
  · exact ho.mono (by decide) (by decide)
  · have a := (two _ _ hp o2).1
    have b := (ok_many (N := 200007) (M := 7) (L := 200012) (ds := [.tuple [p, .int 2]]) (fun d hd => by rw [List.mem_singleton.mp hd]; exact a) (by show 1 * (200007 + 2) + 3 ≤ _; decide)).1
    have ot : Ok 42 8 (.int t) := ok_int (tnat t1 t2) (by decide)
    exact (ok_pair2 b ot (Nat.le_refl _)).mono (by decide) (by decide)
def spBentFar (K : PySem.W.Frag) : Sp := fun vs H Q _ => ∃ (p a : Addr) (n : Nat) (d : PyData), vs = [.ref p, .ref a] ∧ Pot H p n ∧ n + 4 < 1000000 ∧ Dv K (hid [p] H) (.ref a) d ∧ Tale 4 d ∧
  ∀ (v : V) (d' : PyData) (H' : Hp), Pot H' p (n + 4) → But p H H' → Dv K (hid [p] H') v d' → Ok 6000000 12 d' → Q v H'
theorem tn3 : tn 3 = 78729 := by decide
section
variable {P : Program} {w : World} {K : PySem.W.Frag} {mg : Str → Option Value} {base : Heap}
theorem ok_bentFar {f : Addr} {fd : FuncData} (F : Fun K "_law_bent_far" "_law_bent_far" s__law_bent_far f fd) (T : Bare mg) (CT : Callee P w K mg base 1 "_law_take" ["_law_pot", "_law_upto"] spTake) (CO : Callee P w K mg base 2 "_law_of" ["_law_pot", "_law_some"] (spOf K)) : FnOk P w K mg base CX0 3 f fd ["_law_pot", "_law_far_here"] (spBentFar K) := by
  refine F.ok sc__law_bent_far (fun vs H Q E h => ?_) (fun cdv A outer s H vs Q E hr h => ?_)
  · obtain ⟨p, a, n, d, rfl, _⟩ := h
    rfl
  obtain ⟨p, a, n, d, rfl, hp, hn, hd, ht, q⟩ := h
  obtain ⟨ds, rfl, l1, l6, hpairs⟩ := ht
  cases hd with
  | @tup a xs _ hq g =>
  have hlen := g.len
  have hp18 : (0 : Int) ≤ 18 ∧ (18 : Int) ≤ 1000000 ∧ (10 : Int).natAbs < 2 ^ 64 := ⟨by decide, by decide, by decide⟩
  refine ⟨_, (pss_cons (ps_set (i := 2) sc__law_bent_far.nd rfl (Or.inl rfl) (pe_call CT.ok (hr.mono (by decide)) rfl CT.mg CT.kp CT.b .nil pass0 (pa_cons (pv 0) (pa_cons (pe_callB call_len_seq (by rfl) T.len PySem.boot_len (pa_cons (pv 1) pa_nil)) pa_nil))))
(pss_cons (ps_asg (pe_ix ix_tup (pv 1) (pv 2) (fun _ _ => rfl)) (pg_tup (by rfl) (pgs_cons (pg_name (i := 3) sc__law_bent_far.nd rfl (Or.inl rfl)) (pgs_cons (pg_name (i := 4) sc__law_bent_far.nd rfl (Or.inl rfl)) pgs_nil))))
(pss_cons (ps_set (i := 5) sc__law_bent_far.nd rfl (Or.inl rfl) (pe_call CO.ok hr rfl CO.mg CO.kp CO.b .nil pass0 (pa_cons (pv 0) (pa_cons (pe_lst (pd_cons (D := []) pd_int (pd_cons pd_neg (pd_cons pd_bl (pd_cons pd_non (pd_cons pd_str (pd_cons (pd_of (fun _ => .int _) (pd_plus (pd_pow hp18 pe_int pe_int) pe_int)) (pd_cons (pd_tup (pd_cons pd_int pd_nil)) (pd_cons pd_str (pd_cons (pd_of (fun _ => .str "aaaaaaaaaaaaaaaaaaaaa" (by decide)) (pd_mulT (r := "aaaaaaaaaaaaaaaaaaaaa") (by decide) (by decide) rfl (by decide +kernel) (by decide) pe_str pe_int)) (pd_cons pd_str (pd_cons (pd_tup pd_nil) (pd_cons (pd_tup (pd_cons (pd_tup pd_nil) pd_nil)) (pd_cons pd_int (pd_cons (pd_lst pd_nil) (pd_cons (pd_of (fun _ => .int _) (pd_pow hp18 pe_int pe_int)) pd_nil)))))))))))))))) pa_nil))))
(pss_cons (ps_set (i := 6) sc__law_bent_far.nd rfl (Or.inl rfl) (pe_lst (pd_cons (D := [3, 4, 5]) (pd_tup (pd_cons (pd_var (i := 5) (by decide) (pv 5)) (pd_cons (pd_var (i := 4) (by decide) (pv 4)) pd_nil))) (pd_cons (pd_tup (pd_cons (pd_var (i := 3) (by decide) (pv 3)) (pd_cons (pd_var (i := 5) (by decide) (pv 5)) pd_nil))) (pd_cons (pd_tup (pd_cons (pd_var (i := 3) (by decide) (pv 3)) pd_nil)) (pd_cons (pd_tup (pd_cons (pd_var (i := 3) (by decide) (pv 3)) (pd_cons (pd_var (i := 4) (by decide) (pv 4)) (pd_cons pd_int pd_nil)))) (pd_cons (pd_lst (pd_cons (pd_var (i := 3) (by decide) (pv 3)) (pd_cons (pd_var (i := 4) (by decide) (pv 4)) pd_nil))) (pd_cons (pd_var (i := 5) (by decide) (pv 5)) (pd_cons (pd_tup (pd_cons (pd_tup (pd_cons (pd_tup (pd_cons (pd_var (i := 3) (by decide) (pv 3)) (pd_cons pd_int pd_nil))) pd_nil)) (pd_cons (pd_var (i := 4) (by decide) (pv 4)) pd_nil))) pd_nil)))))))))
(pss_cons (ps_set (i := 7) sc__law_bent_far.nd rfl (Or.inl rfl) (pe_call CO.ok hr rfl CO.mg CO.kp CO.b .nil pass0 (pa_cons (pv 0) (pa_cons (pv 6) pa_nil))))
(pss_one (ps_ret (pe_op (op_catP p) (pe_op (op_catP p) (pe_slice (sl_tupP p) (pv 1) po_none (po_some (pv 2))) (pe_tup (pa_cons (pv 7) pa_nil))) (pe_slice (sl_tupP p) (pv 1) (po_some (pe_op op_add (pv 2) (pe_call CT.ok (hr.mono (by decide)) rfl CT.mg CT.kp CT.b .nil pass0 (pa_cons (pv 0) (pa_cons pe_int pa_nil))))) po_none))))))))), ?_⟩
  refine ⟨.ref p, rfl, .ref a, rfl, a, xs, rfl, .inr (same_sqT hid_same hq), p, (xs.length : Int), n, rfl, hp, by omega, by omega, by omega, fun u H1 u0 u1 hp1 b1 => ?_⟩
  obtain ⟨u, rfl⟩ : ∃ m : Nat, u = m := ⟨u.toNat, by omega⟩
  have s1 := But.hid b1 (List.mem_singleton.mpr rfl)
  have hu : u < xs.length := by omega
  obtain ⟨dx, hdx, hvx⟩ := g.get (List.getElem?_eq_getElem hu)
  have hmem : dx ∈ ds := List.mem_of_getElem? hdx
  obtain ⟨dp, t, rfl, t1, t2, hpc⟩ := hpairs dx hmem
  generalize hx : xs[u] = x at hvx
  cases hvx with
  | @tup b ys _ hqb gb =>
  cases gb with
  | @cons vp _ _ _ gp g1 =>
  cases g1 with
  | @cons vt _ _ _ gt g2 =>
  cases g2
  cases gt
  refine ⟨.ref a, rfl, _, rfl, a, xs, _, _, rfl, rfl, same_sqT hid_same (same_sqT s1 hq), atI_nat (List.getElem?_eq_getElem hu), ?_⟩
  rw [hx]
  refine ⟨b, _, rfl, same_sqT hid_same (same_sqT s1 hqb), rfl, vp, _, rfl, .int t, _, rfl, rfl, ?_⟩
  have is1 : ∃ o, H1 p = some o := hp1.is.elim fun _ e => ⟨_, e⟩
  refine ⟨.ref p, rfl, p, fun _ => .none, ⟨is1, fun _ h => absurd h List.not_mem_nil⟩, fun vs1 H2 sm2 gv1 => ?_⟩
  have lv1 : vs1.length = 15 := gv1.len
  refine ⟨small (by rw [lv1]; decide), fun l hl => ?_⟩
  have nel := (hp1.same sm2).ne hl
  refine ⟨p, .ref l, vs1, _, rfl, (hp1.same sm2).new hl _, by omega, .inl ⟨l, rfl, .inl (.inl (.inl upd_same))⟩, fun e => nel (V.ref.inj e), by omega, by omega, fun i1 vo H3 hvo hp3 b3 => ?_⟩
  obtain ⟨o, ho, hdo⟩ := gv1.get hvo
  have ho : o ∈ oddsD := List.mem_of_getElem? ho
  have B13 : But p H1 H3 := same_but (Same.trans sm2 (same_new hl _)) b3
  have s13 := But.hid B13 (List.mem_singleton.mpr rfl)
  have s03 := Same.trans s1 s13
  have gp3 := gp.same s03
  have go3 : Dv K (hid [p] H3) vo o := hdo.same (But.hid (same_but (same_new hl _) b3) (List.mem_singleton.mpr rfl))
  have is3 : ∃ o, H3 p = some o := hp3.is.elim fun _ e => ⟨_, e⟩
  refine ⟨p, fun i => if i = 3 then dp else if i = 4 then .int t else o, ⟨is3, fun i hi => ?_⟩, fun vs2 H4 sm4 gv2 => ?_⟩
  · rcases mem3 hi with rfl | rfl | rfl
    · exact ⟨vp, rfl, gp3⟩
    · exact ⟨.int t, rfl, .int t⟩
    · exact ⟨vo, rfl, go3⟩
  have gv2 : DvAll K (hid [p] H4) vs2 (someD dp o t) := gv2
  have lv2 : vs2.length = 7 := gv2.len
  refine ⟨small (by rw [lv2]; decide), fun l2 hl2 => ?_⟩
  have nel2 := (hp3.same sm4).ne hl2
  refine ⟨.ref p, rfl, .ref l2, rfl, p, .ref l2, vs2, _, rfl, (hp3.same sm4).new hl2 _, by omega, .inl ⟨l2, rfl, .inl (.inl (.inl upd_same))⟩, fun e => nel2 (V.ref.inj e), by omega, by omega, fun i2 v H5 hv hp5 b5 => ?_⟩
  obtain ⟨d', hd', hdv⟩ := gv2.get hv
  have hd' : d' ∈ someD dp o t := List.mem_of_getElem? hd'
  have B35 : But p H3 H5 := same_but (Same.trans sm4 (same_new hl2 _)) b5
  have s05 := Same.trans s03 (But.hid B35 (List.mem_singleton.mpr rfl))
  have gd5 : Dv K (hid [p] H5) v d' := hdv.same (But.hid (same_but (same_new hl2 _) b5) (List.mem_singleton.mpr rfl))
  have okp : Ok 100000 6 dp := by
    rcases hpc with ⟨z, rfl, hz⟩ | hpc
    · exact ok_str hz.low hz.2.1 (by decide)
    · have k := tale_ok hpc
      rw [tn3] at k
      exact k.mono (by decide) (by decide)
  have okd := some_ok okp (odd_ok ho) t1 t2 hd'
  have is5 : ∃ o, H5 p = some o := hp5.is.elim fun _ e => ⟨_, e⟩
  have b05 : But p H H5 := b1.trans (B13.trans B35)
  refine ⟨.ref a, rfl, _, rfl, _, rfl, a, xs, rfl, is5, same_sqT s05 hq, fun q1 H6 sm6 hq1 => ?_⟩
  obtain ⟨es1, ge1, le1, me1⟩ := cut_data (g.same (Same.trans s05 (Same.hid sm6))) none (some (u : Int))
  have is6 : ∃ o, H6 p = some o := is5.imp fun _ e => sm6 _ _ e
  refine ⟨v, rfl, small (by show 1 ≤ 1000; decide), fun r hr7 => ?_⟩
  have sm7 := same_new hr7 (.tup [v])
  have lc1 := ge1.len
  have is7 := is6.imp fun _ e => sm7 _ _ e
  refine ⟨q1, r, _, [v], rfl, rfl, is7, same_sqT (Same.hid sm7) hq1, .inl (.inl (hid_new' is6 hr7)), ?_, fun q2 H8 sm8 hq2 => ?_⟩
  · rw [lc1]
    exact small (by show es1.length + 1 ≤ 1000; omega)
  have sm58 : Same H5 H8 := Same.trans sm6 (Same.trans sm7 sm8)
  refine ⟨.ref a, rfl, _, rfl, .ref p, rfl, p, 2, _, rfl, hp5.same sm58, by omega, by decide, by decide, fun y H9 y0 y1 hp9 b9 => ⟨_, _, rfl, rfl, _, rfl, ?_⟩⟩
  have s89 := But.hid b9 (List.mem_singleton.mpr rfl)
  have s59 : Same (hid [p] H5) (hid [p] H9) := Same.trans (Same.hid sm58) s89
  have is9 : ∃ o, H9 p = some o := hp9.is.elim fun _ e => ⟨_, e⟩
  refine ⟨a, xs, rfl, is9, same_sqT (Same.trans s05 s59) hq, fun q3 H10 sm10 hq3 => ?_⟩
  obtain ⟨es2, ge2, le2, me2⟩ := cut_data (g.same (Same.trans s05 (Same.trans s59 (Same.hid sm10)))) (some ((u : Int) + y)) none
  have ge2 := ge2
  have lc2 := ge2.len
  have is10 : ∃ o, H10 p = some o := is9.imp fun _ e => sm10 _ _ e
  have s810 := Same.trans s89 (Same.hid sm10)
  refine ⟨q2, q3, _, _, rfl, rfl, is10, same_sqT s810 hq2, hq3, ?_, fun q4 H11 sm11 hq4 => ?_⟩
  · rw [List.length_append, lc1, lc2]
    exact small (by show es1.length + 1 + es2.length ≤ 1000; omega)
  have s511 : Same (hid [p] H5) (hid [p] H11) := Same.trans s59 (Same.hid (Same.trans sm10 sm11))
  have s611 : Same (hid [p] H6) (hid [p] H11) := Same.trans (Same.hid (Same.trans sm7 sm8)) (Same.trans s89 (Same.hid (Same.trans sm10 sm11)))
  refine q (.ref q4) (.tuple (es1 ++ [d'] ++ es2)) H11 ((hp9.same (Same.trans sm10 sm11)).more (by omega)) (b05.trans ((same_but sm58 b9).trans (But.of_same (Same.trans sm10 sm11)))) (.tup hq4 ?_) ?_
  · exact ((ge1.same s611).append (.cons (gd5.same s511) .nil)).append (ge2.same (Same.hid sm11))
  · have each : ∀ e ∈ es1 ++ [d'] ++ es2, Ok 400000 11 e := fun e he => by
      have pe : ∀ x ∈ ds, Ok 400000 11 x := fun x hx => by
        obtain ⟨p1, t', rfl, k1, k2, hq'⟩ := hpairs x hx
        have okq : Ok 100000 6 p1 := by
          rcases hq' with ⟨z, rfl, hz⟩ | hq'
          · exact ok_str hz.low hz.2.1 (by decide)
          · have k := tale_ok hq'
            rw [tn3] at k
            exact k.mono (by decide) (by decide)
        exact (ok_pair2 okq (ok_int (tnat k1 k2) (by decide)) (Nat.le_refl _)).mono (by decide) (by decide)
      rcases List.mem_append.mp he with he | he
      · rcases List.mem_append.mp he with he | he
        · exact pe e (me1 e he)
        · rw [List.mem_singleton.mp he]
          exact okd.mono (Nat.le_refl _) (by decide)
      · exact pe e (me2 e he)
    refine (ok_many each ?_).1
    rw [List.length_append, List.length_append, List.length_singleton]
    have k : es1.length + 1 + es2.length ≤ 13 := by omega
    exact Nat.le_trans (Nat.add_le_add_right (Nat.mul_le_mul_right (400000 + 2) k) 3) (by decide +kernel)
end
end Fs
set_option Elab.async false
set_option linter.all false
set_option maxRecDepth 100000
set_option maxHeartbeats 2000000
namespace Fs
open PySem PySem.NumText L2
/-! ### _law_bounds -/
abbrev s__law_bounds : Stmt := top 47
abbrev sc__law_boundsN : List Str := ["_law_found", "_law_text", "_law_turn", "_law_great", "_law_piece", "_law_many"]
theorem sc__law_bounds : FnScope sc__law_boundsN [] (defScope s__law_bounds) := ⟨rfl, rfl, rfl, by decide +kernel, rfl, by decide +kernel, by decide +kernel⟩
abbrev greatT : Str := "*1000000000000000000"
def Fine (n : Nat) (z : Str) : Prop := z.length ≤ n ∧ Plain z
theorem Fine.mono {n m : Nat} {z : Str} (h : Fine n z) (l : n ≤ m) : Fine m z := ⟨Nat.le_trans h.1 l, h.2⟩
theorem Fine.app {n m : Nat} {x y : Str} (hx : Fine n x) (hy : Fine m y) : Fine (n + m) (x ++ y) := ⟨by rw [len_app]; exact Nat.add_le_add hx.1 hy.1, plain_app hx.2 hy.2⟩
theorem fine_of {n : Nat} {z : Str} (h : (decide (z.length ≤ n) && (tl z).all fun c => decide (c < 128)) = true) : Fine n z := by
  obtain ⟨h1, h2⟩ := Bool.and_eq_true_iff.mp h
  exact ⟨of_decide_eq_true h1, fun c hc => of_decide_eq_true (List.all_eq_true.mp h2 c hc)⟩
def spBounds (K : PySem.W.Frag) : Sp := fun vs H Q _ => vs = [] ∧ ∀ (l : Addr) (zs : List Str) (H' : Hp), Same H H' → H' l = some (.lst (zs.map V.str)) → (∀ z ∈ zs, Fine 1000 z) → zs.length ≤ 100 → Q (.ref l) H'
section
variable {P : Program} {w : World} {K : PySem.W.Frag} {mg : Str → Option Value} {base : Heap}
theorem ok_bounds {f : Addr} {fd : FuncData} (F : Fun K "_law_bounds" "_law_bounds" s__law_bounds f fd) (T : Bare mg) : FnOk P w K mg base CX0 1 f fd [] (spBounds K) := by
  refine F.ok sc__law_bounds (fun vs H Q E h => ?_) (fun cdv A outer s H vs Q E hr h => ?_)
  · obtain ⟨rfl, _⟩ := h
    rfl
  obtain ⟨rfl, q⟩ := h
  refine ⟨_, (pss_cons (ps_par (i := 0) (j := 1) (by rfl) sc__law_bounds.nd rfl rfl (by decide) rfl rfl (pa_cons (pe_lst pa_nil) (pa_cons pe_str pa_nil)) (by rfl))
(pss_cons (ps_for PassesOwn.never rfl (pi_range1 (by rfl) T.range (pa_cons pe_int pa_nil)) (pg_name (i := 2) sc__law_bounds.nd rfl (Or.inl rfl))
(pss_one (ps_par (i := 0) (j := 1) (by rfl) sc__law_bounds.nd rfl rfl (by decide) rfl rfl (pa_cons (pe_op op_cat (pv 0) (pe_lst (pa_cons (pv 1) pa_nil))) (pa_cons (pe_op op_add_str (pe_op op_add_str pe_str (pv 1)) pe_str) pa_nil)) (by rfl))))
(pss_cons (ps_set (i := 3) sc__law_bounds.nd rfl (Or.inl rfl) pe_str)
(pss_cons (ps_for PassesOwn.never rfl (pi_list (pe_lst (pa_cons pe_str (pa_cons pe_str (pa_cons pe_str (pa_cons pe_str (pa_cons pe_str pa_nil))))))) (pg_name (i := 4) sc__law_bounds.nd rfl (Or.inl rfl))
(pss_one (ps_expr (pe_bm PySem.F.plainAttrs_list PySem.F.slot_list_append PySem.F.type_list_append mt_append (pv 0) (pa_cons (pe_op op_add_str (pe_op op_add_str (pe_op op_add_str pe_str (pv 4)) pe_str) (pv 3)) pa_nil)))))
(pss_cons (ps_for PassesOwn.never rfl (pi_list (pe_lst (pa_cons pe_int (pa_cons pe_int pa_nil)))) (pg_name (i := 5) sc__law_bounds.nd rfl (Or.inl rfl))
(pss_one (ps_expr (pe_bm PySem.F.plainAttrs_list PySem.F.slot_list_append PySem.F.type_list_append mt_append (pv 0) (pa_cons (pe_join pe_str (pe_op op_rep (pe_lst (pa_cons pe_str pa_nil)) (pv 5))) pa_nil)))))
(pss_one (ps_ret (pe_op op_cat (pv 0) (pe_lst (pa_cons (pe_op op_add_str (pe_op op_mulT pe_str pe_int) pe_str) (pa_cons (pe_op op_add_str (pe_op op_mulT pe_str pe_int) pe_str) (pa_cons (pe_op op_add_str pe_str (pv 3)) (pa_cons pe_str (pa_cons (pe_op op_add_str pe_str (pe_op op_mulT pe_str pe_int)) pa_nil)))))))))))))), ?_⟩
  have sl := sizeLine_eq
  have lp : ∀ n : Nat, n ≤ 1000 → n ≤ sizeLine := fun n h => small h
  refine ⟨small (by show 0 ≤ 1000; decide), fun D0 hD0 => ⟨_, _, rfl, 5, rfl, by decide, by decide, for_range (lo := 0) (n := 5) (fun i σ H' => ∃ (fa : Addr) (zs : List Str) (tz : Str) (x2 : Option V), σ = [some (.ref fa), some (.str tz), x2, none, none, none] ∧ H fa = none ∧ H' fa = some (.lst (zs.map V.str)) ∧ zs.length = i ∧ (∀ z ∈ zs, Fine 100 z) ∧ Fine (3 + 4 * i) tz ∧ Same H H') ?_ ?_ ?_⟩⟩
  · exact ⟨D0, [], _, _, rfl, hD0, upd_same, rfl, (fun _ h => absurd h List.not_mem_nil), fine_of (by decide +kernel), same_new hD0 _⟩
  · rintro i σ H1 hi ⟨fa, zs, tz, x2, rfl, hfa, hl, hlen, hz, ht, s1⟩
    have f1 : Fine 1 ("(" : Str) := fine_of (by decide +kernel)
    have f3 : Fine 3 (")*1" : Str) := fine_of (by decide +kernel)
    have l1 := ht.1
    have lb : ("(" : Str).length = 1 := by decide +kernel
    have lc : (")*1" : Str).length = 3 := by decide +kernel
    refine ⟨_, rfl, _, rfl, small (by show 1 ≤ 1000; decide), fun r hr => ?_⟩
    have m1 := same_new hr (.lst [V.str tz])
    refine ⟨fa, r, zs.map V.str, [V.str tz], rfl, rfl, m1 _ _ hl, upd_same, lp _ (by rw [List.length_map, hlen]; show i + 1 ≤ 1000; omega), fun r2 hr2 => ?_⟩
    have m2 := same_new hr2 (.lst (zs.map V.str ++ [V.str tz]))
    have s2 := Same.trans s1 (Same.trans m1 m2)
    refine ⟨_, rfl, _, _, rfl, rfl, lp _ (by omega), _, _, rfl, rfl, lp _ (by rw [len_app]; omega), _, _, rfl, ?_⟩
    have n2 : H r2 = none := by
      cases z : H r2 with
      | none => rfl
      | some o => rw [m1 _ _ (s1 _ _ z)] at hr2; cases hr2
    refine ⟨r2, zs ++ [tz], _, _, rfl, n2, by rw [upd_same, List.map_append]; rfl, by rw [List.length_append, hlen]; rfl, fun z hz2 => ?_, ((f1.app ht).app f3).mono (by omega), s2⟩
    rcases List.mem_append.mp hz2 with hz2 | hz2
    · exact hz z hz2
    · rw [List.mem_singleton.mp hz2]
      exact ht.mono (by omega)
  rintro σ H1 ⟨fa, zs, tz, x2, rfl, hfa, hl, hlen, hz, ht, s1⟩
  refine ⟨small (by show 5 ≤ 1000; decide), fun lx hlx => ⟨lx, rfl, ⟨_, .inl (.inl upd_same)⟩, ?_⟩⟩
  have mx := same_new hlx (.lst [V.str "a*1000000", .str "a*1000001", .str "ab*500000", .str "a*999999+a*2", .str "a*999999+a*1"])
  have nlf : lx ≠ fa := (ne_of_none hl hlx).symm
  refine for_list (xs := [V.str "a*1000000", .str "a*1000001", .str "ab*500000", .str "a*999999+a*2", .str "a*999999+a*1"]) (fun i σ H' => ∃ (zs : List Str) (x4 : Option V), σ = [some (.ref fa), some (.str tz), x2, some (.str greatT), x4, none] ∧ H' fa = some (.lst (zs.map V.str)) ∧ zs.length = 5 + i ∧ (∀ z ∈ zs, Fine 100 z) ∧ Same H H' ∧ H' lx = some (.lst [V.str "a*1000000", .str "a*1000001", .str "ab*500000", .str "a*999999+a*2", .str "a*999999+a*1"])) ?_ ?_ ?_ ?_
  · exact ⟨zs, _, rfl, mx _ _ hl, by rw [hlen], hz, Same.trans s1 mx, upd_same⟩
  · rintro i σ H' _ ⟨_, _, _, _, _, _, _, h⟩
    exact .inl (.inl h)
  · rintro i x σ H' hx ⟨zs, x4, rfl, hl, hlen, hz, s2, hlx2⟩
    obtain ⟨y, rfl, hy⟩ : ∃ y : Str, x = .str y ∧ Fine 20 y := by
      have := List.mem_of_getElem? hx
      simp only [List.mem_cons, List.not_mem_nil, or_false] at this
      rcases this with rfl | rfl | rfl | rfl | rfl <;> exact ⟨_, rfl, fine_of (by decide +kernel)⟩
    have hi5 : i < 5 := (List.getElem?_eq_some_iff.mp hx).1
    have f1 : Fine 1 ("(" : Str) := fine_of (by decide +kernel)
    have f2 : Fine 1 (")" : Str) := fine_of (by decide +kernel)
    have fg : Fine 20 greatT := fine_of (by decide +kernel)
    have g1 := f1.app hy
    have g2 := g1.app f2
    have g3 := g2.app fg
    have a1 := f1.1
    have a2 := f2.1
    have a3 := fg.1
    have a4 := hy.1
    have a5 := g1.1
    have a6 := g2.1
    refine ⟨_, rfl, .inl ⟨rfl, _, .inl (.inl hl)⟩, _, rfl, _, _, rfl, rfl, lp _ (by omega), _, _, rfl, rfl, lp _ (by omega), _, rfl, _, _, rfl, rfl, lp _ (by omega), fa, _, _, rfl, rfl, hl, ?_, ?_⟩
    · rw [List.length_map, hlen]
      exact small1000 (by omega)
    refine ⟨zs ++ [_], _, rfl, by rw [upd_same, List.map_append]; rfl, by rw [List.length_append, hlen]; rfl, fun z hz2 => ?_, fun b o hb => ?_, by rw [upd_ne nlf]; exact hlx2⟩
    · rcases List.mem_append.mp hz2 with hz2 | hz2
      · exact hz z hz2
      · rw [List.mem_singleton.mp hz2]
        exact g3.mono (by omega)
    · rw [upd_ne (ne_of_none hb hfa)]
      exact s2 _ _ hb
  rintro σ H2 ⟨zs, x4, rfl, hl, hlen, hz, s2, _⟩
  have hlen : zs.length = 10 := hlen
  refine ⟨small (by show 2 ≤ 1000; decide), fun ly hly => ⟨ly, rfl, ⟨_, .inl (.inl upd_same)⟩, ?_⟩⟩
  have my := same_new hly (.lst [V.int 6, .int 7])
  have nlf : ly ≠ fa := (ne_of_none hl hly).symm
  refine for_list (xs := [V.int 6, .int 7]) (fun i σ H' => ∃ (zs : List Str) (x5 : Option V), σ = [some (.ref fa), some (.str tz), x2, some (.str greatT), x4, x5] ∧ H' fa = some (.lst (zs.map V.str)) ∧ zs.length = 10 + i ∧ (∀ z ∈ zs, Fine 100 z) ∧ Same H H' ∧ H' ly = some (.lst [V.int 6, .int 7])) ?_ ?_ ?_ ?_
  · exact ⟨zs, _, rfl, my _ _ hl, by rw [hlen], hz, Same.trans s2 my, upd_same⟩
  · rintro i σ H' _ ⟨_, _, _, _, _, _, _, h⟩
    exact .inl (.inl h)
  · rintro i x σ H' hx ⟨zs, x5, rfl, hl, hlen, hz, s3, hly2⟩
    have hi2 : i < 2 := (List.getElem?_eq_some_iff.mp hx).1
    obtain ⟨k, rfl, k6⟩ : ∃ k : Nat, x = .int (k : Int) ∧ (k = 6 ∨ k = 7) := by
      have := List.mem_of_getElem? hx
      simp only [List.mem_cons, List.not_mem_nil, or_false] at this
      rcases this with rfl | rfl
      · exact ⟨6, rfl, .inl rfl⟩
      · exact ⟨7, rfl, .inr rfl⟩
    refine ⟨_, rfl, .inl ⟨rfl, _, .inl (.inl hl)⟩, ⟨_, rfl⟩, small (by show 1 ≤ 1000; decide), fun r hr => ?_⟩
    have m1 := same_new hr (.lst [V.str "b*1"])
    refine ⟨_, rfl, r, (k : Int), [V.str "b*1"], rfl, rfl, upd_same, by omega, by omega, lp _ (by show 1 * ((k : Nat) : Int).toNat ≤ 1000; omega), fun r2 hr2 => ?_⟩
    have m2 := same_new hr2 (.lst (List.replicate ((k : Nat) : Int).toNat [V.str "b*1"]).flatten)
    have e : (List.replicate ((k : Nat) : Int).toNat [V.str "b*1"]).flatten = (List.replicate k ("b*1" : Str)).map V.str := by
      rcases k6 with rfl | rfl <;> rfl
    have fj : Fine 100 (Txt.join "+" (List.replicate k ("b*1" : Str))) := by
      rcases k6 with rfl | rfl
      · exact fine_of (by decide +kernel)
      · exact fine_of (by decide +kernel)
    have lsum : ((List.replicate k ("b*1" : Str)).map (·.length)).sum + (List.replicate k ("b*1" : Str)).length * ("+" : Str).length ≤ 16777216 := by
      rcases k6 with rfl | rfl
      · decide +kernel
      · decide +kernel
    refine ⟨"+", r2, List.replicate k "b*1", rfl, rfl, .inl (.inl (.inl (by rw [upd_same, e]))), lsum, ?_⟩
    have hl3 := m2 _ _ (m1 _ _ hl)
    refine ⟨fa, _, _, rfl, rfl, hl3, ?_, ?_⟩
    · rw [List.length_map, hlen]
      exact small1000 (by omega)
    refine ⟨zs ++ [_], _, rfl, by rw [upd_same, List.map_append]; rfl, by rw [List.length_append, hlen]; rfl, fun z hz2 => ?_, fun b o hb => ?_, by rw [upd_ne nlf]; exact m2 _ _ (m1 _ _ hly2)⟩
    · rcases List.mem_append.mp hz2 with hz2 | hz2
      · exact hz z hz2
      · rw [List.mem_singleton.mp hz2]
        exact fj
    · rw [upd_ne (ne_of_none hb hfa)]
      exact m2 _ _ (m1 _ _ (s3 _ _ hb))
  rintro σ H3 ⟨zs, x5, rfl, hl, hlen, hz, s3, _⟩
  have hlen : zs.length = 12 := hlen
  have la : ("a" : Str).length = 1 := by decide +kernel
  have lg : greatT.length = 20 := by decide +kernel
  have l2 : ("*1" : Str).length = 2 := by decide +kernel
  have l3 : ("a*" : Str).length = 2 := by decide +kernel
  refine ⟨_, rfl, _, "aaaaaaaaaaaaaaaaaaaa", 20, rfl, rfl, by decide, by decide, rfl, by decide +kernel, by decide, _, _, rfl, rfl, lp _ (by decide +kernel), ?_⟩
  refine ⟨_, "aaaaaaaaaaaaaaaaaaaaa", 21, rfl, rfl, by decide, by decide, rfl, by decide +kernel, by decide, _, _, rfl, rfl, lp _ (by decide +kernel), ?_⟩
  refine ⟨_, rfl, _, _, rfl, rfl, lp _ (by decide +kernel), ?_⟩
  refine ⟨_, "11111111111111111111111111", 26, rfl, rfl, by decide, by decide, rfl, by decide +kernel, by decide, _, _, rfl, rfl, lp _ (by decide +kernel), ?_⟩
  refine ⟨small (by show 5 ≤ 1000; decide), fun r hr => ?_⟩
  have m1 := same_new hr (.lst [V.str (("aaaaaaaaaaaaaaaaaaaa" : Str) ++ "*1"), .str (("aaaaaaaaaaaaaaaaaaaaa" : Str) ++ "*1"), .str (("a" : Str) ++ greatT), .str "a*1000000000000000001", .str (("a*" : Str) ++ "11111111111111111111111111")])
  refine ⟨fa, r, zs.map V.str, _, rfl, rfl, m1 _ _ hl, upd_same, lp _ (by rw [List.length_map, hlen]; show 12 + 5 ≤ 1000; decide), fun r2 hr2 => ?_⟩
  have m2 := same_new hr2 (.lst (zs.map V.str ++ [V.str (("aaaaaaaaaaaaaaaaaaaa" : Str) ++ "*1"), .str (("aaaaaaaaaaaaaaaaaaaaa" : Str) ++ "*1"), .str (("a" : Str) ++ greatT), .str "a*1000000000000000001", .str (("a*" : Str) ++ "11111111111111111111111111")]))
  refine q r2 (zs ++ [("aaaaaaaaaaaaaaaaaaaa" : Str) ++ "*1", ("aaaaaaaaaaaaaaaaaaaaa" : Str) ++ "*1", ("a" : Str) ++ greatT, "a*1000000000000000001", ("a*" : Str) ++ "11111111111111111111111111"]) _ (Same.trans s3 (Same.trans m1 m2)) (by rw [upd_same, List.map_append]; rfl) (fun z hz2 => ?_) (by rw [List.length_append, hlen]; show 12 + 5 ≤ 100; decide)
  rcases List.mem_append.mp hz2 with hz2 | hz2
  · exact (hz z hz2).mono (by decide)
  · simp only [List.mem_cons, List.not_mem_nil, or_false] at hz2
    rcases hz2 with rfl | rfl | rfl | rfl | rfl <;> exact fine_of (by decide +kernel)
end
end Fs
set_option Elab.async false
set_option linter.all false
set_option maxRecDepth 100000
set_option maxHeartbeats 4000000
namespace Fs
open PySem PySem.NumText L2
/-! ### _law_right -/
theorem FnOk.calm {P : Program} {w : World} {K : PySem.W.Frag} {mg : Str → Option Value} {base : Heap} {k : Nat} {f : Addr} {fd : FuncData} {ps : List Str} {sp : Sp} (F : FnOk P w K mg base (L2.CX P w) k f fd ps sp) : FnOk P w K mg base CX0 k f fd ps (fun vs H Q _ => sp vs H Q (fun _ _ _ => False)) :=
  ⟨fun vs H Q E h => F.len vs H Q _ h, fun A outer s H args us vs Q E hr e b r h => codeAny_mono (F.run A outer s H args us vs Q _ hr e b r h) fun r s' c => by
    cases r with
    | error e =>
      obtain ⟨_, _, _, _, _, _, _, _, _, _, _, _, z⟩ := c
      exact z.elim
    | ok fl => cases fl <;> exact c⟩
abbrev s__law_right : Stmt := top 48
abbrev sc__law_rightN : List Str := ["_law_pot", "_law_far_here", "_law_turn", "_law_text", "_law_some", "_law_odd"]
theorem sc__law_right : FnScope sc__law_rightN ["_law_pot"] (defScope s__law_right) := ⟨rfl, rfl, rfl, by decide +kernel, rfl, by decide +kernel, by decide +kernel⟩
def spRight : Sp := fun vs H Q _ => ∃ (p : Addr) (n : Nat), vs = [.ref p] ∧ Pot H p n ∧ n + 38000 < 1000000 ∧ ∀ H', Pot H' p (n + 38000) → But p H H' → Q (.bl true) H'
theorem share {c A B : Prop} [Decidable c] (hB : B) (h : c → B → A) : if c then A else B := ite2 (fun hc => h hc hB) (fun _ => hB)
theorem dk4 : dk 4 = 37555 := by decide
abbrev oneD (z : Str) (t : Int) : PyData := .tuple [.str z, .int t]
def valsD : List PyData := [.none, .int 0, .bool true, .str "", .str "a", .str "a*1", .tuple [], .list [], .dict [], .tuple [oneD "a" 1], .list [oneD "a" 1], oneD "a" 1, .tuple [.str "a*1"], .tuple [.tuple [.tuple [oneD "a" 1], .int 2]]]
theorem vals_all : (valsD.all fun d => d.showable && (!d.hasDict || noList d) && decide (d.depth ≤ 10) && decide (d.shown.length ≤ 3000)) = true := by decide +kernel
theorem val_ok {d : PyData} (h : d ∈ valsD) : Dok 3000 10 d := by
  have z := List.all_eq_true.mp vals_all d h
  simp only [Bool.and_eq_true, Bool.or_eq_true, Bool.not_eq_true', decide_eq_true_eq] at z
  exact ⟨z.1.1.1, z.1.1.2, z.1.2, z.2⟩
theorem dok_str {z : Str} (h : z.length ≤ 300000) (p : Plain z) : Dok 3000002 30 (.str z) := (ok_str (n := 300000) (M := 30) (fun c hc => by
  have := p c hc
  have : (128 : Nat) ≤ 16 ^ 8 := by decide
  omega) h (by decide)).dok
theorem sh_plain {d : PyData} (h : sz 4 d ≠ 0) : (shT 4 d).length ≤ 66822 ∧ Plain (shT 4 d) := by
  have e : (shT 4 d).length = (shFar 4 d).length := tx_len _
  have s := sh_short (Nat.le_refl 4) h
  exact ⟨by omega, (sh_len (tale_of_sz h)).2⟩
/-- the first test of _law_right, told -/
def tT1 (K : PySem.W.Frag) : TT := fun σ H Q => ∃ (a : Addr) (d : PyData) (x0 x2 x3 x4 x5 : Option V), σ = [x0, some (.ref a), x2, x3, x4, x5] ∧ Dv K H (.ref a) d ∧ Tale 4 d ∧ ∀ H', Same H H' → Q false H'
section
variable {P : Program} {w : World} {K : PySem.W.Frag} {mg : Str → Option Value} {base : Heap}
theorem ok_right {f fR fS CB : Addr} {fd fdR fdS : FuncData} (F : Fun K "_law_right" "_law_right" s__law_right f fd) (T : Bare mg) (C : Con K mg) (CD : Callee P w K mg base 6 "_law_far" ["_law_pot", "_law_deep"] (spDrawn K 4)) (CO : Callee P w K mg base 2 "_law_of" ["_law_pot", "_law_some"] (spOf K))
    (CL : Callee P w K mg base 5 "_law_long" ["_law_far_here"] (spLong K 4)) (CS : Callee P w K mg base 5 "_law_shown" ["_law_far_here"] (spSigns K 4)) (CR : CalleeX P w K mg base 16 "read_far" ["text"] (spRead K CB))
    (CB1 : Callee P w K mg base 3 "_law_bent" ["_law_pot", "_law_text"] spBent) (CB2 : Callee P w K mg base 3 "_law_bent_far" ["_law_pot", "_law_far_here"] (spBentFar K))
    (OR : FnOkG P w K mg base 32 fR fdR ["_law_value"] (spIs K)) (mR : mg "_law_is_read" = some (.ref fR)) (kR : PySem.W.keepIn K (.ref fR) = true) (bR : Binds K fdR ["_law_value"] [])
    (OS : FnOkG P w K mg base 15 fS fdS ["_law_value"] (spIs K)) (mS : mg "_law_is_shown" = some (.ref fS)) (kS : PySem.W.keepIn K (.ref fS) = true) (bS : Binds K fdS ["_law_value"] []) :
    FnOkG P w K mg base 33 f fd ["_law_pot"] spRight := by
  refine Fun.okG F sc__law_right (fun vs H Q E h => ?_) (fun cdv A outer s H vs Q E hgu hr h => ?_)
  · obtain ⟨p, n, rfl, _⟩ := h
    rfl
  obtain ⟨p, n, rfl, hp, hn, q⟩ := h
  refine ⟨_, (pss_cons (ps_set (i := 1) sc__law_right.nd rfl (Or.inl rfl) (pe_call CD.ok (hr.mono (by decide)) rfl CD.mg CD.kp CD.b .nil pass0 (pa_cons (pv 0) (pa_cons pe_int pa_nil))))
(pss_cons (ps_if (pt_weak (t' := tT1 K) (fun σ H Q hw => by
    obtain ⟨a, d, x0, x2, x3, x4, x5, rfl, hd, ht, q⟩ := hw
    have hsz := sz_of_tale ht
    have okT := tale_ok ht
    rw [tn4] at okT
    have dokT : Dok 472929 40 d := okT.dok.mono (Nat.le_refl _) (by decide)
    obtain ⟨shl, shp⟩ := sh_plain hsz
    have sl := sizeLine_eq
    refine ⟨.ref a, rfl, .ref a, d, rfl, hd, hsz, fun H2 s2 => ⟨10, 24, rfl, rfl, ⟨by decide, by decide, by decide⟩, _, _, rfl, rfl, _, rfl, ?_⟩⟩
    have e24 : (10 : Int) ^ (24 : Int).toNat = 1000000000000000000000000 := by decide +kernel
    rw [e24]
    refine ite2 (fun hle => ?_) (fun _ => q H2 s2)
    have hle := of_decide_eq_true hle
    obtain ⟨_, ds, _, rfl⟩ := sz_tuple hsz
    have hfar : far (.tuple ds) ≠ 0 := by
      unfold far
      rw [if_pos (by omega)]
      exact hsz
    have hread : readD (.str (shT 4 (.tuple ds))) = some ds := due_round hfar
    refine ⟨.ref a, rfl, .ref a, .tuple ds, rfl, hd.same s2, hsz, fun H3 s3 => ⟨.str (shT 4 (.tuple ds)), .str (shT 4 (.tuple ds)), rfl, .str _ (by omega), fun e => (by rw [hread] at e; cases e), fun ds' e v' H4 s4 hv' => ?_⟩⟩
    rw [hread] at e
    cases e
    have s24 := Same.trans s2 (Same.trans s3 s4)
    refine ⟨v', .tuple ds, 472929, rfl, hv', dokT, by omega, ?_⟩
    refine ⟨.ref a, rfl, .ref a, .tuple ds, 472929, rfl, hd.same s24, dokT, by omega, rfl, _, rfl, ?_⟩
    rw [decide_eq_true rfl]
    exact q H4 s24) (PW.pt (pw_and (pt_cmpR op_le (pe_call CL.ok (hr.mono (by decide)) rfl CL.mg CL.kp CL.b .nil pass0 (pa_cons (pv 1) pa_nil)) (pe_op op_pow pe_int pe_int) (nomark _)) (pw_and1 (pt_cmpR op_ne (pe_callB (call_reprV hgu hr.units) (by rfl) C.repr (by decide +kernel) (pa_cons (pe_call (FnOk.calm CR.ok) (hr.mono (by decide)) rfl CR.mg CR.kp CR.b .nil pass0 (pa_cons (pe_call CS.ok (hr.mono (by decide)) rfl CS.mg CS.kp CS.b .nil pass0 (pa_cons (pv 1) pa_nil)) pa_nil)) pa_nil)) (pe_callB (call_reprV hgu hr.units) (by rfl) C.repr (by decide +kernel) (pa_cons (pv 1) pa_nil)) (nomark _))))))
(pss_one (ps_ret pe_bl))
pss_nil)
(pss_cons (ps_if (PW.pt (pw_or (pt_not (pt_val (pe_callG OR hgu hr rfl mR kR bR (pa_cons (pe_call CS.ok (hr.mono (by decide)) rfl CS.mg CS.kp CS.b .nil pass0 (pa_cons (pv 1) pa_nil)) pa_nil)))) (pw_or1 (pt_not (pt_val (pe_callG OS hgu (hr.mono (by decide)) rfl mS kS bS (pa_cons (pv 1) pa_nil)))))))
(pss_one (ps_ret pe_bl))
pss_nil)
(pss_cons (ps_for PassesOwn.never rfl (pi_range1 (by rfl) T.range (pa_cons pe_int pa_nil)) (pg_name (i := 2) sc__law_right.nd rfl (Or.inl rfl))
(pss_cons (ps_set (i := 3) sc__law_right.nd rfl (Or.inl rfl) (pe_call CB1.ok (hr.mono (by decide)) rfl CB1.mg CB1.kp CB1.b .nil pass0 (pa_cons (pv 0) (pa_cons (pe_call CS.ok (hr.mono (by decide)) rfl CS.mg CS.kp CS.b .nil pass0 (pa_cons (pv 1) pa_nil)) pa_nil))))
(pss_cons (ps_if (PW.pt (pw_or (pt_not (pt_val (pe_callG OR hgu hr rfl mR kR bR (pa_cons (pv 3) pa_nil)))) (pw_or1 (pt_not (pt_val (pe_callG OR hgu hr rfl mR kR bR (pa_cons (pe_call CB1.ok (hr.mono (by decide)) rfl CB1.mg CB1.kp CB1.b .nil pass0 (pa_cons (pv 0) (pa_cons (pv 3) pa_nil))) pa_nil)))))))
(pss_one (ps_ret pe_bl))
pss_nil)
(pss_one (ps_if (pt_not (pt_val (pe_callG OS hgu (hr.mono (by decide)) rfl mS kS bS (pa_cons (pe_call CB2.ok (hr.mono (by decide)) rfl CB2.mg CB2.kp CB2.b .nil pass0 (pa_cons (pv 0) (pa_cons (pv 1) pa_nil))) pa_nil))))
(pss_one (ps_ret pe_bl))
pss_nil)))))
(pss_cons (ps_set (i := 4) sc__law_right.nd rfl (Or.inl rfl) (pe_lst (pd_cons (D := []) pd_non (pd_cons pd_int (pd_cons pd_bl (pd_cons pd_str (pd_cons pd_str (pd_cons pd_str (pd_cons (pd_tup pd_nil) (pd_cons (pd_lst pd_nil) (pd_cons pd_dict (pd_cons (pd_tup (pd_cons (pd_tup (pd_cons pd_str (pd_cons pd_int pd_nil))) pd_nil)) (pd_cons (pd_lst (pd_cons (pd_tup (pd_cons pd_str (pd_cons pd_int pd_nil))) pd_nil)) (pd_cons (pd_tup (pd_cons pd_str (pd_cons pd_int pd_nil))) (pd_cons (pd_tup (pd_cons pd_str pd_nil)) (pd_cons (pd_tup (pd_cons (pd_tup (pd_cons (pd_tup (pd_cons (pd_tup (pd_cons pd_str (pd_cons pd_int pd_nil))) pd_nil)) (pd_cons pd_int pd_nil))) pd_nil)) pd_nil))))))))))))))))
(pss_cons (ps_set (i := 5) sc__law_right.nd rfl (Or.inl rfl) (pe_call CO.ok (hr.mono (by decide)) rfl CO.mg CO.kp CO.b .nil pass0 (pa_cons (pv 0) (pa_cons (pv 4) pa_nil))))
(pss_one (ps_ret (pe_and (pe_callG OR hgu hr rfl mR kR bR (pa_cons (pv 5) pa_nil)) (pe_one (pe_callG OS hgu (hr.mono (by decide)) rfl mS kS bS (pa_cons (pv 5) pa_nil)))))))))))), ?_⟩
  have e4 := dk4
  have sl := sizeLine_eq
  refine ⟨.ref p, rfl, p, n, rfl, hp, by omega, fun a d H1 hp1 b1 hd ht => ?_⟩
  have hsz := sz_of_tale ht
  have nl := tale_nl ht
  have okT := tale_ok ht
  rw [tn4] at okT
  have dokT : Dok 472929 30 d := okT.dok.mono (Nat.le_refl _) (by decide)
  obtain ⟨shl, shp⟩ := sh_plain hsz
  have dvS : ∀ H', Dv K H' (.str (shT 4 d)) (.str (shT 4 d)) := fun H' => .str _ (by omega)
  have dokS : Dok 3000002 30 (.str (shT 4 d)) := dok_str (by omega) shp
  refine ⟨a, d, _, _, _, _, _, rfl, hd, ht, fun H2 s2 => iteF ?_⟩
  refine ⟨.ref a, rfl, .ref a, d, rfl, hd.same s2, hsz, fun H3 s3 => ⟨.str (shT 4 d), .str (shT 4 d), 3000002, rfl, dvS _, dokS, by decide, fun H4 s4 => ⟨true, rfl, iteF ?_⟩⟩⟩
  have s14 := Same.trans s2 (Same.trans s3 s4)
  refine ⟨.ref a, rfl, .ref a, d, 472929, rfl, hd.same s14, dokT, by decide, fun H5 s5 => ⟨true, rfl, iteF ?_⟩⟩
  have s15 := Same.trans s14 s5
  have hp5 := hp1.same s15
  have b15 : But p H H5 := b1.trans (But.of_same s15)
  have hd5 := Dv.hidP hp5 nl (hd.same s15)
  refine ⟨10, rfl, by decide, by decide, for_range (lo := 0) (n := 10) (fun i σ H' => ∃ (x2 x3 : Option V), σ = [some (.ref p), some (.ref a), x2, x3, none, none] ∧ Pot H' p (n + dk 4 + 10 * i) ∧ But p H H' ∧ Dv K (hid [p] H') (.ref a) d) ?_ ?_ ?_⟩
  · exact ⟨none, none, rfl, hp5, b15, hd5⟩
  · rintro i σ H6 hi ⟨x2, x3, rfl, hp6, b6, hd6⟩
    refine ⟨.ref p, rfl, .ref a, rfl, .ref a, d, rfl, hd6.same hid_same, hsz, fun H7 s7 => ?_⟩
    refine ⟨p, shT 4 d, _, rfl, hp6.same s7, by omega, by omega, shp, fun y H8 yl yp hp8 b8 => ?_⟩
    have b68 : But p H6 H8 := same_but s7 b8
    refine ⟨.str y, rfl, .str y, .str y, 3000002, rfl, .str _ (by omega), dok_str (by omega) yp, by decide, fun H9 s9 => ⟨true, rfl, iteF ?_⟩⟩
    refine ⟨.ref p, rfl, .str y, rfl, p, y, _, rfl, hp8.same s9, by omega, by omega, yp, fun y2 H10 y2l y2p hp10 b10 => ?_⟩
    have b610 : But p H6 H10 := b68.trans (same_but s9 b10)
    refine ⟨.str y2, .str y2, 3000002, rfl, .str _ (by omega), dok_str (by omega) y2p, by decide, fun H11 s11 => ⟨true, rfl, iteF ?_⟩⟩
    have b611 : But p H6 H11 := b610.trans (But.of_same s11)
    have hd11 := hd6.same (But.hid b611 (List.mem_singleton.mpr rfl))
    refine ⟨.ref p, rfl, .ref a, rfl, p, a, _, d, rfl, hp10.same s11, by omega, hd11, ht, fun v d' H12 hp12 b12 hv okv => ?_⟩
    refine ⟨v, d', 6000000, rfl, hv.same hid_same, okv.dok.mono (Nat.le_refl _) (by decide), Nat.le_refl _, fun H13 s13 => ⟨true, rfl, iteF ?_⟩⟩
    have b613 : But p H6 H13 := b611.trans (b12.trans (But.of_same s13))
    exact ⟨_, _, rfl, (hp12.same s13).more (by omega), b6.trans b613, hd6.same (But.hid b613 (List.mem_singleton.mpr rfl))⟩
  · rintro σ H6 ⟨x2, x3, rfl, hp6, b6, hd6⟩
    have is6 : ∃ o, H6 p = some o := hp6.is.elim fun _ e => ⟨_, e⟩
    refine ⟨p, fun _ => .none, ⟨is6, fun _ h => absurd h List.not_mem_nil⟩, fun vs H7 s7 gv => ?_⟩
    have gv : DvAll K (hid [p] H7) vs valsD := gv
    have lv : vs.length = 14 := gv.len
    refine ⟨small (by rw [lv]; decide), fun l hl => ?_⟩
    have hp7 := hp6.same s7
    have nel := hp7.ne hl
    refine ⟨.ref p, rfl, .ref l, rfl, p, .ref l, vs, _, rfl, hp7.new hl _, by omega, .inl ⟨l, rfl, .inl (.inl (.inl upd_same))⟩, fun e => nel (V.ref.inj e), by omega, by omega, fun j v H8 hv hp8 b8 => ?_⟩
    obtain ⟨d', hd', hdv⟩ := gv.get hv
    have hd' : d' ∈ valsD := List.mem_of_getElem? hd'
    have hv8 : Dv K H8 v d' := (hdv.same (But.hid (same_but (same_new hl _) b8) (List.mem_singleton.mpr rfl))).same hid_same
    have dk' : Dok 3000 30 d' := (val_ok hd').mono (Nat.le_refl _) (by decide)
    refine ⟨v, rfl, v, d', 3000, rfl, hv8, dk', by decide, fun H9 s9 => ⟨true, rfl, iteT ?_⟩⟩
    refine ⟨v, rfl, v, d', 3000, rfl, hv8.same s9, dk', by decide, fun H10 s10 => ?_⟩
    have b610 : But p H6 H10 := same_but (Same.trans s7 (same_new hl _)) (b8.trans (But.of_same (Same.trans s9 s10)))
    exact q H10 (((hp8.same s9).same s10).more (by omega)) (b6.trans b610)
end
end Fs
set_option Elab.async false
set_option linter.all false
set_option maxRecDepth 100000
set_option maxHeartbeats 2000000
namespace Fs
open PySem L2
/-! ### the law -/
abbrev s_law : Stmt := top 49
abbrev sc_lawN : List Str := ["_law_script", "_law_k", "_law_pot", "_law_turn", "_law_text"]
theorem sc_law : FnScope sc_lawN ["_law_script"] (defScope s_law) := ⟨rfl, rfl, rfl, by decide +kernel, rfl, by decide +kernel, by decide +kernel⟩
def spLaw (K : PySem.W.Frag) : Sp := fun vs H Q _ => ∃ (a : Addr) (ns : List Int), vs = [.ref a] ∧ SqL K H a (ns.map V.int) ∧ ns.length ≤ 63 ∧ ∀ H', Q (.bl true) H'
section
variable {P : Program} {w : World} {K : PySem.W.Frag} {mg : Str → Option Value} {base : Heap}
theorem ok_law {f fR fI : Addr} {fd fdR fdI : FuncData} (F : Fun K "law" "law" s_law f fd) (T : Bare mg) (C : Con K mg) (CP : Callee P w K mg base 1 "_law_pot_of" ["_law_script", "_law_k"] (spPotOf K)) (CE : Callee P w K mg base 1 "_law_bounds" [] (spBounds K))
    (OI : FnOkG P w K mg base 32 fI fdI ["_law_value"] (spIs K)) (mI : mg "_law_is_read" = some (.ref fI)) (kI : PySem.W.keepIn K (.ref fI) = true) (bI : Binds K fdI ["_law_value"] [])
    (OR : FnOkG P w K mg base 33 fR fdR ["_law_pot"] spRight) (mR : mg "_law_right" = some (.ref fR)) (kR : PySem.W.keepIn K (.ref fR) = true) (bR : Binds K fdR ["_law_pot"] []) :
    FnOkG P w K mg base 34 f fd ["_law_script"] (spLaw K) := by
  refine Fun.okG F sc_law (fun vs H Q E h => ?_) (fun cdv A outer st H vs Q E hgu hr h => ?_)
  · obtain ⟨a, ns, rfl, _⟩ := h
    rfl
  obtain ⟨a, ns, rfl, hS, hl, q⟩ := h
  refine ⟨_, (pss_cons (ps_for PassesOwn.never rfl (pi_range1 (by rfl) T.range (pa_cons (pe_callB (call_max2 rfl) (by rfl) C.max (by decide +kernel) (pa_cons pe_int (pa_cons (pe_callB (call_min2 rfl) (by rfl) C.min (by decide +kernel) (pa_cons pe_int (pa_cons (pe_callB call_len_seq (by rfl) T.len PySem.boot_len (pa_cons (pv 0) pa_nil)) pa_nil))) pa_nil))) pa_nil)) (pg_name (i := 1) sc_law.nd rfl (Or.inl rfl))
(pss_cons (ps_set (i := 2) sc_law.nd rfl (Or.inr rfl) (pe_call CP.ok (hr.mono (by decide)) rfl CP.mg CP.kp CP.b .nil pass0 (pa_cons (pv 0) (pa_cons (pv 1) pa_nil))))
(pss_one (ps_if (pt_not (pt_val (pe_callB (cr_all rfl) (by rfl) C.all (by decide +kernel) (pa_cons (pe_lc (own := [("_law_turn", 3)]) (g := gName 3) rfl sc_law.nd (pi_range1 (by rfl) T.range (pa_cons pe_int pa_nil)) (blkOk_by (N := sc_lawN) (sc := defScope s_law) (by decide +kernel)) (fun _ _ _ _ _ => pg_name (i := 3) sc_law.nd rfl (Or.inl rfl)) (fun _ _ _ _ _ => pts_nil) (fun _ _ _ _ _ => (pe_callG OR hgu hr rfl mR kR bR (pa_cons (pv 2) pa_nil)))) pa_nil))))
(pss_one (ps_ret pe_bl))
pss_nil))))
(pss_one (ps_ret (pe_callB (cr_all rfl) (by rfl) C.all (by decide +kernel) (pa_cons (pe_lc (own := [("_law_text", 4)]) (g := gName 4) rfl sc_law.nd (pi_list (pe_call0 CE.ok (hr.mono (by decide)) rfl CE.mg CE.kp CE.b .nil pass0)) (blkOk_by (N := sc_lawN) (sc := defScope s_law) (by decide +kernel)) (fun _ _ _ _ _ => pg_name (i := 4) sc_law.nd rfl (Or.inl rfl)) (fun _ _ _ _ _ => pts_nil) (fun _ _ _ _ _ => (pe_callG OI hgu (hr.mono (by decide)) rfl mI kI bI (pa_cons (pv 4) pa_nil)))) pa_nil))))), ?_⟩
  refine ⟨.ref a, rfl, a, _, rfl, .inl hS, 3, _, rfl, 1, _, rfl, ?_⟩
  generalize hm : (if (if ((ns.map V.int).length : Int) < 3 then ((ns.map V.int).length : Int) else 3) > 1 then (if ((ns.map V.int).length : Int) < 3 then ((ns.map V.int).length : Int) else 3) else 1) = m
  have m0 : 0 ≤ m ∧ m ≤ 3 := by
    rw [← hm]
    split <;> split <;> omega
  refine ⟨m, rfl, by omega, by omega, for_range (lo := 0) (n := m.toNat) (fun i σ H' => ∃ (x1 x2 : Option V), σ = [some (.ref a), x1, x2, none, none] ∧ SqL K H' a (ns.map V.int)) ?_ ?_ ?_⟩
  · exact ⟨none, none, rfl, hS⟩
  · rintro i σ H1 hi ⟨x1, x2, rfl, hS1⟩
    refine ⟨.ref a, rfl, _, rfl, a, ns, i, (by show [V.ref a, V.int (0 + (i : Int))] = _; rw [Int.zero_add]), hS1, by omega, fun p H2 hp0 s2 hp => ?_⟩
    refine ⟨10, rfl, by decide, by decide, fun D hD => lc_range (lo := 0) (n := 10) (fun j H' => H' D = some (.lst ((List.replicate j true).map V.bl)) ∧ Pot H' p (38000 * j) ∧ But p H2 H') ?_ ?_ ?_⟩
    · exact ⟨upd_same, hp.same (same_new hD _), But.of_same (same_new hD _)⟩
    · rintro j H3 hj ⟨h1, h2, h3⟩
      have nDp : D ≠ p := hp.ne hD
      refine ⟨rfl, ?_⟩
      simp only [tYes, ↓reduceIte]
      refine ⟨.ref p, rfl, p, 38000 * j, rfl, h2, by omega, fun H4 h5 h6 => ?_⟩
      have D4 := h6 _ _ h1 nDp
      refine ⟨_, D4, ?_, ?_, ?_, ?_⟩
      · rw [List.length_map, List.length_replicate]
        exact Nat.lt_of_lt_of_le (by omega : j < 1000) (small (Nat.le_refl _))
      · rw [upd_same, List.replicate_succ', List.map_append]
        rfl
      · exact (h5.upd nDp _).more (by omega)
      · intro b o h nb
        have hbD : b ≠ D := ne_of_none h hD
        rw [upd_ne hbD]
        exact h6 _ _ (h3 _ _ h nb) nb
    · rintro H3 ⟨h1, h2, h3⟩
      refine ⟨D, List.replicate 10 true, rfl, .inl (.inl h1), ?_⟩
      refine ⟨true, rfl, iteF ?_⟩
      refine ⟨_, _, rfl, ?_⟩
      rcases hS1 with (z | ⟨o, z⟩) | z
      · exact .inl (.inl (h3 _ _ (s2 _ _ z) (ne_of_none z hp0)))
      · exact .inl (.inr ⟨o, h3 _ _ (s2 _ _ z) (ne_of_none z hp0)⟩)
      · exact .inr z
  · rintro σ H1 ⟨x1, x2, rfl, hS1⟩
    refine ⟨rfl, fun l zs H2 s2 hl2 hz hlen => ⟨l, rfl, ⟨_, .inl (.inl hl2)⟩, ?_⟩⟩
    refine fun D hD => lc_it (walk_list (xs := zs.map V.str)) (fun j H' => H' D = some (.lst ((List.replicate j true).map V.bl)) ∧ Same H2 H') ⟨upd_same, same_new hD _⟩ (fun j H' hj pv => .inl (.inl (pv.2 _ _ hl2))) (fun j v H' H6 hj pv y => ?_) (fun H6 pv => ?_)
    · obtain ⟨f1, f2⟩ := pv
      obtain ⟨rfl, hv⟩ := y
      rw [List.getElem?_map] at hv
      obtain ⟨z, hz0, rfl⟩ := Option.map_eq_some_iff.mp hv
      have fz := hz z (List.mem_of_getElem? hz0)
      have hjl := (List.getElem?_eq_some_iff.mp hz0).1
      have fz1 := fz.1
      refine ⟨rfl, ?_⟩
      simp only [tYes, ↓reduceIte]
      refine ⟨.str z, rfl, .str z, .str z, 3000002, rfl, .str z (by omega), dok_str (by omega) fz.2, by decide, fun H7 s7 => ⟨_, s7 _ _ f1, ?_, ?_, ?_⟩⟩
      · rw [List.length_map, List.length_replicate]
        exact Nat.lt_of_lt_of_le (by omega : j < 1000) (small (Nat.le_refl _))
      · rw [upd_same, List.replicate_succ', List.map_append]
        rfl
      · intro b o hbo
        have w1 := s7 _ _ (f2 b o hbo)
        rw [upd_ne (ne_of_none hbo hD)]
        exact w1
    · obtain ⟨f1, f2⟩ := pv
      rw [List.length_map] at f1
      refine ⟨D, List.replicate zs.length true, rfl, .inl (.inl f1), ?_⟩
      have e : (List.replicate zs.length true).all id = true := List.all_eq_true.mpr fun x hx => (List.mem_replicate.mp hx).2
      rw [e]
      exact q H6
end
end Fs
set_option Elab.async false
set_option linter.all false
set_option maxRecDepth 100000
set_option maxHeartbeats 4000000
namespace Fs
open PySem PySem.Spec PyProof.Rows L2
/-! ### the head of a law whose promise holds where no repr is under way -/
/-- how the law's call has to end -/
def LawEnds (s : Shared) : Result → Shared → Prop := fun r s' =>
  r = .ok (.ret (.bool true)) ∧ OldK s.heap s'.heap ∧ s'.os = s.os ∧ AllBare s'.gens
section
variable {P : Program} {w : World} {K : PySem.W.Frag} {mg mb : Str → Option Value} {k : Nat} {fa a : Addr}
  {fd : FuncData} {x : Str} {sp : Sp} {s : Shared} {vs : List Value} {ns : List Int}
/-- from a heap in which at most the script is tracked -/
theorem call_from (H : Hp) (KX : K.In s.heap) (hns : s.heap.Ns mainGlobals mg) (hb : s.heap.Ns builtinsNs mb)
    (hbb : ∀ x : Str, x ≠ "__name__" → mb x = bootBuiltins x) (hlim : s.heap.NoLimit) (hg : s.gens = #[])
    (ha : s.heap.get? a = some { cls := .type "list", data := .seq vs.toArray }) (hr : Room k callerA)
    (F : ∀ base : Heap, K.In base → base.Ns mainGlobals mg → FnOkG P w K mg base k fa fd [x] sp)
    (hbind : ∀ (s : Shared) (u : Value), BindsTo s fd ⟨[u], []⟩ [(x, u)]) (only : Only H) (hok : HOk P w H s.heap)
    (one : ∀ b, H b ≠ none → b = a) (notK : H a ≠ none → K.lookup a = none)
    (hsp : sp [.ref a] H (fun v _ => v = .bl true) fun _ _ _ => False) :
    codeAny (model P w) callerA (.call (.ref fa) ⟨[.ref a], []⟩) (LawEnds s) s := by
  have stays : ∀ {b : Addr} {o : Obj}, s.heap.get? b = some o → (b = a → False) → (hidT s.heap H).get? b = some o :=
    fun {b o} e n => hidT_get e (Classical.byContradiction fun z => n (one b z))
  have dicts : ∀ {b : Addr} {m : Str → Option Value}, s.heap.Ns b m → (hidT s.heap H).Ns b m := fun {b m} n => by
    obtain ⟨o, es, ep, e, d, r⟩ := n
    refine ⟨o, es, ep, stays e fun z => ?_, d, r⟩
    rw [z, ha] at e
    cases e
    cases (show Data.seq vs.toArray _ = Data.dict es ep from d)
  have inK : K.In (hidT s.heap H) := fun b o e => hidT_get (KX b o e) (Classical.byContradiction fun z => by
    have eb := one b z
    subst eb
    rw [notK z] at e
    cases e)
  have hM : Mod K mg (hidT s.heap H) := by
    obtain ⟨mc, h1, h2⟩ := hlim
    exact ⟨inK, dicts hns, ⟨mb, dicts hb, hbb⟩, ⟨mc, dicts h1, h2⟩⟩
  have e0 : Env0 P w K mg (hidT s.heap H) callerA [] s H := by
    refine ⟨rfl, hM, fun b o e => of_hidT e, ?_, trivial, fun b hb => ?_, hok, .of_eq hg⟩
    · exact Nat.le_of_eq (hidT_size _ _)
    · cases (show b ∈ ([] : List Addr) from hb)
  have run := (F _ inK (dicts hns)).runs callerA [] s H ⟨[.ref a], []⟩ [.ref a] [.ref a] _ _ rfl hr e0
    (hbind s (.ref a)) (.cons rfl .nil) hsp
  refine codeAny_mono run fun r s' ends => ?_
  match r, ends with
  | .error e, ends => exact ends.elim
  | .ok .next, ends => exact ends.elim
  | .ok .brk, ends => exact ends.elim
  | .ok .cont, ends => exact ends.elim
  | .ok (.ret u), ⟨v, H', os, bare, un, hok', rel, ev⟩ =>
    have ev : v = .bl true := ev
    subst ev
    have eu : u = Value.bool true := rel
    subst eu
    refine ⟨rfl, OldK.of_keep fun b o e => ?_, os, bare⟩
    rcases only b with z | ⟨ob, xs, z⟩
    · refine un.keep b o e z (fun h => ?_) (by simp)
      cases (show b ∈ ([] : List Addr) from h)
    · have was := (hok b _ z).1
      have is := (hok' b _ (un.frzs b ob _ z)).1
      rw [e] at was
      cases was
      exact is
theorem law_callG (KX : K.In s.heap) (hns : s.heap.Ns mainGlobals mg) (hb : s.heap.Ns builtinsNs mb)
    (hbb : ∀ x : Str, x ≠ "__name__" → mb x = bootBuiltins x) (hlim : s.heap.NoLimit) (hg : s.gens = #[])
    (ha : s.heap.get? a = some { cls := .type "list", data := .seq vs.toArray }) (hi : IntsAre vs ns) (hl : ns.length ≤ sizeLine) (hr : Room k callerA)
    (F : ∀ base : Heap, K.In base → base.Ns mainGlobals mg → FnOkG P w K mg base k fa fd [x] sp)
    (hbind : ∀ (s : Shared) (u : Value), BindsTo s fd ⟨[u], []⟩ [(x, u)])
    (hsp : ∀ H : Hp, Only H → SqL K H a (ns.map V.int) → sp [.ref a] H (fun v _ => v = .bl true) fun _ _ _ => False) :
    codeAny (model P w) callerA (.call (.ref fa) ⟨[.ref a], []⟩) (LawEnds s) s := by
  have rv := vals_ints hi
  have lenV := hi.length
  by_cases hk : K.lookup a = none
  · have atA : ∀ b, (if b = a then some (HO.frz { cls := .type "list", data := .seq vs.toArray } (.lst (ns.map V.int))) else none) ≠ none → b = a :=
      fun b z => Classical.byContradiction fun n => z (if_neg n)
    refine call_from (fun b => if b = a then some (.frz { cls := .type "list", data := .seq vs.toArray } (.lst (ns.map V.int))) else none)
      KX hns hb hbb hlim hg ha hr F hbind (fun b => ?_) (fun b u z => ?_) atA (fun _ => hk) (hsp _ (fun b => ?_) (.inl (.inr ⟨_, if_pos rfl⟩)))
    · by_cases e : b = a
      · exact .inr ⟨_, _, if_pos e⟩
      · exact .inl (if_neg e)
    · have e : b = a := atA b fun y => by (have z := z.symm.trans y; cases z)
      subst e
      have z := (if_pos rfl).symm.trans z
      cases z
      exact ⟨ha, by rw [List.length_map]; exact hl, vs, _, rv, ha⟩
    · by_cases e : b = a
      · exact .inr ⟨_, _, if_pos e⟩
      · exact .inl (if_neg e)
  · obtain ⟨o, ho⟩ := Option.ne_none_iff_exists'.mp hk
    have same := KX a o ho
    rw [ha] at same
    cases same
    have none_ : ∀ b : Addr, (fun _ => none : Hp) b = none := fun _ => rfl
    refine call_from (fun _ => none) KX hns hb hbb hlim hg ha hr F hbind (fun b => .inl rfl) (fun b u z => by cases z) (fun b z => absurd rfl z) (fun z => absurd rfl z)
      (hsp _ (fun b => .inl rfl) (.inr ⟨_, vs.toArray, _, ho, rfl, rfl, rfl, ?_, by simpa using rv⟩))
    rw [List.size_toArray, lenV]
    exact hl
end
/-- the goal that the head leaves, from the law's promise -/
theorem walk_G {l : PySem.W.OpenLaw} {n k : Nat} {q : Program} {loose : List Str} {XP : (Str → Option Value) → Heap → Prop}
    {YP : World → Heap → Prop} {d : DefRec} {K : Params → PySem.W.Frag} {sp : PySem.W.Frag → Sp} {x : Str}
    (hn : l.most = some n) (hn2 : n ≤ sizeLine) (hdf : d.params.defaults = []) (hr : Room k callerA) (hY : ∀ (w : World) (h : Heap), YP w h → (K w.params).In h)
    (F : ∀ (w : World) (mg : Str → Option Value) (fa : Addr) (h : Heap), (K w.params).In h → h.Ns mainGlobals mg → mg d.name = some (.ref fa) → ∃ fd : FuncData,
      (∀ (s : Shared) (u : Value), BindsTo s fd ⟨[u], []⟩ [(x, u)]) ∧ ∀ base : Heap, (K w.params).In base → base.Ns mainGlobals mg → FnOkG l.prog w (K w.params) mg base k fa fd [x] (sp (K w.params)))
    (hsp : ∀ (K : PySem.W.Frag) (H : Hp) (a : Addr) (ns : List Int), ns.length ≤ n → Only H → SqL K H a (ns.map V.int) → sp K [.ref a] H (fun v _ => v = .bl true) fun _ _ _ => False) :
    PySem.W.WalkO q loose XP YP l.row.toRowW d [] (fun f vs => PySem.call f vs) := by
  refine Att.attach_call hn hdf fun w s₀ s₁ mg mb fa o pm cd doc a vs ns G Y ho hd hcd hmg hobj hints hlen hg => ?_
  have KX := hY w _ Y
  obtain ⟨fd, hbind, hF⟩ := F w mg fa _ KX G.T.g hmg
  exact law_callG KX G.T.g G.T.b G.T.builtins G.T.nolimit hg hobj hints (Nat.le_trans hlen hn2) hr hF hbind fun H only sq => hsp _ H a ns hlen only sq
end Fs
set_option Elab.async false
set_option linter.all false
set_option maxRecDepth 100000
set_option maxHeartbeats 4000000
namespace Fs
open PySem L2
/-! ### what the top has written -/
theorem exm_mk {K : PySem.W.Frag} {S C : Addr} (h1 : PySem.W.subIn K (.ref C) (.type "BaseException") = some true) (h2 : PySem.W.isClsIn K C = true) (h3 : PySem.W.typeIn K (.ref C) = some (.type "type")) (h4 : PySem.W.subIn K (.ref S) (.ref C) = some true) :
    PySem.W.exmOne K (.ref S) (.ref C) = some true := by
  have e1 : (PySem.W.subIn K (.ref C) (.type "BaseException") == some true) = true := by rw [h1] <;> rfl
  have e2 : ((PySem.W.clsIn K C).isSome && PySem.W.typeIn K (.ref C) == some (.type "type")) = true := by
    have h2' : (PySem.W.clsIn K C).isSome = true := h2
    rw [h2', h3] <;> rfl
  show (if (PySem.W.subIn K (.ref C) (.type "BaseException") == some true) = true then (if ((PySem.W.clsIn K C).isSome && PySem.W.typeIn K (.ref C) == some (.type "type")) = true then PySem.W.subIn K (.ref S) (.ref C) else none) else none) = some true
  rw [if_pos e1, if_pos e2]
  exact h4
theorem kit_self {K : PySem.W.Frag} {S : Addr} : PySem.W.kitOne K (.ref S) (.ref S) = some true := by
  unfold PySem.W.kitOne
  simp
theorem kit_base {K : PySem.W.Frag} {S : Addr} (h : PySem.W.subIn K (.ref S) (.type "ValueError") = some true) : PySem.W.kitOne K (.ref S) (.type "ValueError") = some true := by
  have e : PySem.W.kitMeta "ValueError" = true := by decide +kernel
  show (if ((Value.ref S) == (Value.type "ValueError")) = true then some true else (if PySem.W.kitMeta "ValueError" = true then PySem.W.subIn K (.ref S) (.type "ValueError") else none)) = some true
  rw [if_pos e, h]
  exact ite_self _
theorem all_mk {l : PySem.W.OpenLaw} {w : World} {K : PySem.W.Frag} {h : Heap} {mg : Str → Option Value} {fa : Addr} (X : K.In h) (G : h.Ns mainGlobals mg) (hfa : mg "law" = some (.ref fa))
    {CB CP f_num f_far f_at f_pair f_check f_sig f_ff f_ps f_pr f_pc f_run f_nof f_show f_read f_len f_pot f_take f_of f_drawn f_lshown f_long f_isp f_tow f_isf f_lp f_due f_heard f_isr f_iss f_bent f_bentf f_bounds f_right f_law f_ini : Addr}
    {od_num an_num od_far an_far od_at an_at od_pair an_pair od_check an_check od_sig an_sig od_ff an_ff od_ps an_ps od_pr an_pr od_pc an_pc od_run an_run od_nof an_nof od_show an_show od_read an_read od_len an_len od_pot an_pot od_take an_take od_of an_of od_drawn an_drawn od_lshown an_lshown od_long an_long od_isp an_isp od_tow an_tow od_isf an_isf od_lp an_lp od_due an_due od_heard an_heard od_isr an_isr od_iss an_iss od_bent an_bent od_bentf an_bentf od_bounds an_bounds od_right an_right od_law an_law od_ini an_ini : Option Addr}
    {sl_num sl_far sl_at sl_pair sl_check sl_sig sl_ff sl_ps sl_pr sl_pc sl_run sl_nof sl_show sl_read sl_len sl_pot sl_take sl_of sl_drawn sl_lshown sl_long sl_isp sl_tow sl_isf sl_lp sl_due sl_heard sl_isr sl_iss sl_bent sl_bentf sl_bounds sl_right sl_law sl_ini : Array (Option Value)}
    {oc_num kV_num dc_num pm_num cd_num ct_num oc_far kV_far dc_far pm_far cd_far ct_far oc_at kV_at dc_at pm_at cd_at ct_at oc_pair kV_pair dc_pair pm_pair cd_pair ct_pair oc_check kV_check dc_check pm_check cd_check ct_check oc_sig kV_sig dc_sig pm_sig cd_sig ct_sig oc_ff kV_ff dc_ff pm_ff cd_ff ct_ff oc_ps kV_ps dc_ps pm_ps cd_ps ct_ps oc_pr kV_pr dc_pr pm_pr cd_pr ct_pr oc_pc kV_pc dc_pc pm_pc cd_pc ct_pc oc_run kV_run dc_run pm_run cd_run ct_run oc_nof kV_nof dc_nof pm_nof cd_nof ct_nof oc_show kV_show dc_show pm_show cd_show ct_show oc_read kV_read dc_read pm_read cd_read ct_read oc_len kV_len dc_len pm_len cd_len ct_len oc_pot kV_pot dc_pot pm_pot cd_pot ct_pot oc_take kV_take dc_take pm_take cd_take ct_take oc_of kV_of dc_of pm_of cd_of ct_of oc_drawn kV_drawn dc_drawn pm_drawn cd_drawn ct_drawn oc_lshown kV_lshown dc_lshown pm_lshown cd_lshown ct_lshown oc_long kV_long dc_long pm_long cd_long ct_long oc_isp kV_isp dc_isp pm_isp cd_isp ct_isp oc_tow kV_tow dc_tow pm_tow cd_tow ct_tow oc_isf kV_isf dc_isf pm_isf cd_isf ct_isf oc_lp kV_lp dc_lp pm_lp cd_lp ct_lp oc_due kV_due dc_due pm_due cd_due ct_due oc_heard kV_heard dc_heard pm_heard cd_heard ct_heard oc_isr kV_isr dc_isr pm_isr cd_isr ct_isr oc_iss kV_iss dc_iss pm_iss cd_iss ct_iss oc_bent kV_bent dc_bent pm_bent cd_bent ct_bent oc_bentf kV_bentf dc_bentf pm_bentf cd_bentf ct_bentf oc_bounds kV_bounds dc_bounds pm_bounds cd_bounds ct_bounds oc_right kV_right dc_right pm_right cd_right ct_right oc_law kV_law dc_law pm_law cd_law ct_law oc_ini kV_ini dc_ini pm_ini cd_ini ct_ini : Value}
    {t1 t2 t3 t4 t5 t6 t7 t8 : Tok}
    {nm q : Str} {N : Addr} {bs : List Value} {sn : List Str} {sub : List Value} {ab : Bool} {col : Option Bool} {dd : Option Addr} {m0 m1 m2 m3 m5 : Option Value}
    (a_CB : PySem.W.nsIn K mainGlobals "BadFar" = some (some (.ref CB)))
    (a_CP : PySem.W.nsIn K mainGlobals "PassError" = some (some (.ref CP)))
    (l_CB : K.lookup CB = some (excClassObj nm q CB N bs [.ref CP, .type "ValueError", .type "Exception", .type "BaseException", .type "object"] true sn sub ab col dd m0 m1 m2 m3 m5 "ValueError.__new__"))
    (sa_CB : PySem.W.findIn K (.ref CB) "__setattr__" = some (some (.builtin "object.__setattr__")))
    (ex_CB : PySem.W.subIn K (.ref CB) (.type "BaseException") = some true)
    (ty_CB : PySem.W.typeIn K (.ref CB) = some (.type "type"))
    (k_CB : PySem.W.keepIn K (.ref CB) = true)
    (n_CB : PySem.W.findIn K (.ref CB) "value" = some none)
    (ga_CB : PySem.W.findIn K (.ref CB) "__getattribute__" = some (some (.builtin "BaseException.__getattribute__")))
    (gg_CB : PySem.W.findIn K (.ref CB) "__getattr__" = some none)
    (hd_CB : PySem.W.hasDictIn K CB = true)
    (is1 : PySem.W.findIn K (.ref CB) "__class__" = some (some (.builtin "object.__class__")))
    (is2 : PySem.W.specialIn K (.builtin "object.__class__") "__get__" = some (some (.builtin "getset_descriptor.__get__")))
    (is3 : PySem.W.takesIn K (.builtin "object.__class__") = some true)
    (is4 : PySem.W.mroIn K CB (.type "object") = some true)
    (e1 : PySem.W.subIn K (.ref CP) (.type "BaseException") = some true)
    (e2 : PySem.W.isClsIn K CP = true)
    (e3 : PySem.W.typeIn K (.ref CP) = some (.type "type"))
    (e4 : PySem.W.subIn K (.ref CB) (.ref CP) = some true)
    (e5 : PySem.W.subIn K (.ref CB) (.type "ValueError") = some true)
    (a_num : PySem.W.nsIn K mainGlobals "is_number" = some (some (.ref f_num)))
    (l_num : K.lookup f_num = some ⟨oc_num, od_num, .func (PySem.W.fnOf "is_number" "is_number" (defArgs s_is_number) (defBody s_is_number) (defScope s_is_number) .none kV_num dc_num pm_num an_num cd_num ct_num), sl_num⟩)
    (c_num : PySem.W.codeIn K cd_num "is_number" = true)
    (k_num : PySem.W.keepIn K (.ref f_num) = true)
    (a_far : PySem.W.nsIn K mainGlobals "size_of_far" = some (some (.ref f_far)))
    (l_far : K.lookup f_far = some ⟨oc_far, od_far, .func (PySem.W.fnOf "size_of_far" "size_of_far" (defArgs s_size_of_far) (defBody s_size_of_far) (defScope s_size_of_far) .none kV_far dc_far pm_far an_far cd_far ct_far), sl_far⟩)
    (c_far : PySem.W.codeIn K cd_far "size_of_far" = true)
    (k_far : PySem.W.keepIn K (.ref f_far) = true)
    (a_at : PySem.W.nsIn K mainGlobals "size_at" = some (some (.ref f_at)))
    (l_at : K.lookup f_at = some ⟨oc_at, od_at, .func (PySem.W.fnOf "size_at" "size_at" (defArgs s_size_at) (defBody s_size_at) (defScope s_size_at) .none kV_at dc_at pm_at an_at cd_at ct_at), sl_at⟩)
    (c_at : PySem.W.codeIn K cd_at "size_at" = true)
    (k_at : PySem.W.keepIn K (.ref f_at) = true)
    (a_pair : PySem.W.nsIn K mainGlobals "size_of_pair" = some (some (.ref f_pair)))
    (l_pair : K.lookup f_pair = some ⟨oc_pair, od_pair, .func (PySem.W.fnOf "size_of_pair" "size_of_pair" (defArgs s_size_of_pair) (defBody s_size_of_pair) (defScope s_size_of_pair) .none kV_pair dc_pair pm_pair an_pair cd_pair ct_pair), sl_pair⟩)
    (c_pair : PySem.W.codeIn K cd_pair "size_of_pair" = true)
    (k_pair : PySem.W.keepIn K (.ref f_pair) = true)
    (a_check : PySem.W.nsIn K mainGlobals "check_far" = some (some (.ref f_check)))
    (l_check : K.lookup f_check = some ⟨oc_check, od_check, .func (PySem.W.fnOf "check_far" "check_far" (defArgs s_check_far) (defBody s_check_far) (defScope s_check_far) .none kV_check dc_check pm_check an_check cd_check ct_check), sl_check⟩)
    (c_check : PySem.W.codeIn K cd_check "check_far" = true)
    (k_check : PySem.W.keepIn K (.ref f_check) = true)
    (a_sig : PySem.W.nsIn K mainGlobals "far_in_signs" = some (some (.ref f_sig)))
    (l_sig : K.lookup f_sig = some ⟨oc_sig, od_sig, .func (PySem.W.fnOf "far_in_signs" "far_in_signs" (defArgs s_far_in_signs) (defBody s_far_in_signs) (defScope s_far_in_signs) .none kV_sig dc_sig pm_sig an_sig cd_sig ct_sig), sl_sig⟩)
    (c_sig : PySem.W.codeIn K cd_sig "far_in_signs" = true)
    (k_sig : PySem.W.keepIn K (.ref f_sig) = true)
    (a_ff : PySem.W.nsIn K mainGlobals "far_from" = some (some (.ref f_ff)))
    (l_ff : K.lookup f_ff = some ⟨oc_ff, od_ff, .func (PySem.W.fnOf "far_from" "far_from" (defArgs s_far_from) (defBody s_far_from) (defScope s_far_from) .none kV_ff dc_ff pm_ff an_ff cd_ff ct_ff), sl_ff⟩)
    (c_ff : PySem.W.codeIn K cd_ff "far_from" = true)
    (k_ff : PySem.W.keepIn K (.ref f_ff) = true)
    (a_ps : PySem.W.nsIn K mainGlobals "pairs_from" = some (some (.ref f_ps)))
    (l_ps : K.lookup f_ps = some ⟨oc_ps, od_ps, .func (PySem.W.fnOf "pairs_from" "pairs_from" (defArgs s_pairs_from) (defBody s_pairs_from) (defScope s_pairs_from) .none kV_ps dc_ps pm_ps an_ps cd_ps ct_ps), sl_ps⟩)
    (c_ps : PySem.W.codeIn K cd_ps "pairs_from" = true)
    (k_ps : PySem.W.keepIn K (.ref f_ps) = true)
    (a_pr : PySem.W.nsIn K mainGlobals "pair_from" = some (some (.ref f_pr)))
    (l_pr : K.lookup f_pr = some ⟨oc_pr, od_pr, .func (PySem.W.fnOf "pair_from" "pair_from" (defArgs s_pair_from) (defBody s_pair_from) (defScope s_pair_from) .none kV_pr dc_pr pm_pr an_pr cd_pr ct_pr), sl_pr⟩)
    (c_pr : PySem.W.codeIn K cd_pr "pair_from" = true)
    (k_pr : PySem.W.keepIn K (.ref f_pr) = true)
    (a_pc : PySem.W.nsIn K mainGlobals "piece_from" = some (some (.ref f_pc)))
    (l_pc : K.lookup f_pc = some ⟨oc_pc, od_pc, .func (PySem.W.fnOf "piece_from" "piece_from" (defArgs s_piece_from) (defBody s_piece_from) (defScope s_piece_from) .none kV_pc dc_pc pm_pc an_pc cd_pc ct_pc), sl_pc⟩)
    (c_pc : PySem.W.codeIn K cd_pc "piece_from" = true)
    (k_pc : PySem.W.keepIn K (.ref f_pc) = true)
    (a_run : PySem.W.nsIn K mainGlobals "run_from" = some (some (.ref f_run)))
    (l_run : K.lookup f_run = some ⟨oc_run, od_run, .func (PySem.W.fnOf "run_from" "run_from" (defArgs s_run_from) (defBody s_run_from) (defScope s_run_from) .none kV_run dc_run pm_run an_run cd_run ct_run), sl_run⟩)
    (c_run : PySem.W.codeIn K cd_run "run_from" = true)
    (k_run : PySem.W.keepIn K (.ref f_run) = true)
    (a_nof : PySem.W.nsIn K mainGlobals "number_of" = some (some (.ref f_nof)))
    (l_nof : K.lookup f_nof = some ⟨oc_nof, od_nof, .func (PySem.W.fnOf "number_of" "number_of" (defArgs s_number_of) (defBody s_number_of) (defScope s_number_of) .none kV_nof dc_nof pm_nof an_nof cd_nof ct_nof), sl_nof⟩)
    (c_nof : PySem.W.codeIn K cd_nof "number_of" = true)
    (k_nof : PySem.W.keepIn K (.ref f_nof) = true)
    (a_show : PySem.W.nsIn K mainGlobals "show_far" = some (some (.ref f_show)))
    (l_show : K.lookup f_show = some ⟨oc_show, od_show, .func (PySem.W.fnOf "show_far" "show_far" (defArgs s_show_far) (defBody s_show_far) (defScope s_show_far) .none kV_show dc_show pm_show an_show cd_show ct_show), sl_show⟩)
    (c_show : PySem.W.codeIn K cd_show "show_far" = true)
    (k_show : PySem.W.keepIn K (.ref f_show) = true)
    (a_read : PySem.W.nsIn K mainGlobals "read_far" = some (some (.ref f_read)))
    (l_read : K.lookup f_read = some ⟨oc_read, od_read, .func (PySem.W.fnOf "read_far" "read_far" (defArgs s_read_far) (defBody s_read_far) (defScope s_read_far) .none kV_read dc_read pm_read an_read cd_read ct_read), sl_read⟩)
    (c_read : PySem.W.codeIn K cd_read "read_far" = true)
    (k_read : PySem.W.keepIn K (.ref f_read) = true)
    (a_len : PySem.W.nsIn K mainGlobals "far_length" = some (some (.ref f_len)))
    (l_len : K.lookup f_len = some ⟨oc_len, od_len, .func (PySem.W.fnOf "far_length" "far_length" (defArgs s_far_length) (defBody s_far_length) (defScope s_far_length) .none kV_len dc_len pm_len an_len cd_len ct_len), sl_len⟩)
    (c_len : PySem.W.codeIn K cd_len "far_length" = true)
    (k_len : PySem.W.keepIn K (.ref f_len) = true)
    (a_pot : PySem.W.nsIn K mainGlobals "_law_pot_of" = some (some (.ref f_pot)))
    (l_pot : K.lookup f_pot = some ⟨oc_pot, od_pot, .func (PySem.W.fnOf "_law_pot_of" "_law_pot_of" (defArgs s__law_pot_of) (defBody s__law_pot_of) (defScope s__law_pot_of) .none kV_pot dc_pot pm_pot an_pot cd_pot ct_pot), sl_pot⟩)
    (c_pot : PySem.W.codeIn K cd_pot "_law_pot_of" = true)
    (k_pot : PySem.W.keepIn K (.ref f_pot) = true)
    (a_take : PySem.W.nsIn K mainGlobals "_law_take" = some (some (.ref f_take)))
    (l_take : K.lookup f_take = some ⟨oc_take, od_take, .func (PySem.W.fnOf "_law_take" "_law_take" (defArgs s__law_take) (defBody s__law_take) (defScope s__law_take) .none kV_take dc_take pm_take an_take cd_take ct_take), sl_take⟩)
    (c_take : PySem.W.codeIn K cd_take "_law_take" = true)
    (k_take : PySem.W.keepIn K (.ref f_take) = true)
    (a_of : PySem.W.nsIn K mainGlobals "_law_of" = some (some (.ref f_of)))
    (l_of : K.lookup f_of = some ⟨oc_of, od_of, .func (PySem.W.fnOf "_law_of" "_law_of" (defArgs s__law_of) (defBody s__law_of) (defScope s__law_of) .none kV_of dc_of pm_of an_of cd_of ct_of), sl_of⟩)
    (c_of : PySem.W.codeIn K cd_of "_law_of" = true)
    (k_of : PySem.W.keepIn K (.ref f_of) = true)
    (a_drawn : PySem.W.nsIn K mainGlobals "_law_far" = some (some (.ref f_drawn)))
    (l_drawn : K.lookup f_drawn = some ⟨oc_drawn, od_drawn, .func (PySem.W.fnOf "_law_far" "_law_far" (defArgs s__law_far) (defBody s__law_far) (defScope s__law_far) .none kV_drawn dc_drawn pm_drawn an_drawn cd_drawn ct_drawn), sl_drawn⟩)
    (c_drawn : PySem.W.codeIn K cd_drawn "_law_far" = true)
    (k_drawn : PySem.W.keepIn K (.ref f_drawn) = true)
    (a_lshown : PySem.W.nsIn K mainGlobals "_law_shown" = some (some (.ref f_lshown)))
    (l_lshown : K.lookup f_lshown = some ⟨oc_lshown, od_lshown, .func (PySem.W.fnOf "_law_shown" "_law_shown" (defArgs s__law_shown) (defBody s__law_shown) (defScope s__law_shown) .none kV_lshown dc_lshown pm_lshown an_lshown cd_lshown ct_lshown), sl_lshown⟩)
    (c_lshown : PySem.W.codeIn K cd_lshown "_law_shown" = true)
    (k_lshown : PySem.W.keepIn K (.ref f_lshown) = true)
    (a_long : PySem.W.nsIn K mainGlobals "_law_long" = some (some (.ref f_long)))
    (l_long : K.lookup f_long = some ⟨oc_long, od_long, .func (PySem.W.fnOf "_law_long" "_law_long" (defArgs s__law_long) (defBody s__law_long) (defScope s__law_long) .none kV_long dc_long pm_long an_long cd_long ct_long), sl_long⟩)
    (c_long : PySem.W.codeIn K cd_long "_law_long" = true)
    (k_long : PySem.W.keepIn K (.ref f_long) = true)
    (a_isp : PySem.W.nsIn K mainGlobals "_law_is_piece" = some (some (.ref f_isp)))
    (l_isp : K.lookup f_isp = some ⟨oc_isp, od_isp, .func (PySem.W.fnOf "_law_is_piece" "_law_is_piece" (defArgs s__law_is_piece) (defBody s__law_is_piece) (defScope s__law_is_piece) .none kV_isp dc_isp pm_isp an_isp cd_isp ct_isp), sl_isp⟩)
    (c_isp : PySem.W.codeIn K cd_isp "_law_is_piece" = true)
    (k_isp : PySem.W.keepIn K (.ref f_isp) = true)
    (a_tow : PySem.W.nsIn K mainGlobals "_law_is_tower" = some (some (.ref f_tow)))
    (l_tow : K.lookup f_tow = some ⟨oc_tow, od_tow, .func (PySem.W.fnOf "_law_is_tower" "_law_is_tower" (defArgs s__law_is_tower) (defBody s__law_is_tower) (defScope s__law_is_tower) .none kV_tow dc_tow pm_tow an_tow cd_tow ct_tow), sl_tow⟩)
    (c_tow : PySem.W.codeIn K cd_tow "_law_is_tower" = true)
    (k_tow : PySem.W.keepIn K (.ref f_tow) = true)
    (a_isf : PySem.W.nsIn K mainGlobals "_law_is_far" = some (some (.ref f_isf)))
    (l_isf : K.lookup f_isf = some ⟨oc_isf, od_isf, .func (PySem.W.fnOf "_law_is_far" "_law_is_far" (defArgs s__law_is_far) (defBody s__law_is_far) (defScope s__law_is_far) .none kV_isf dc_isf pm_isf an_isf cd_isf ct_isf), sl_isf⟩)
    (c_isf : PySem.W.codeIn K cd_isf "_law_is_far" = true)
    (k_isf : PySem.W.keepIn K (.ref f_isf) = true)
    (a_lp : PySem.W.nsIn K mainGlobals "_law_pairs" = some (some (.ref f_lp)))
    (l_lp : K.lookup f_lp = some ⟨oc_lp, od_lp, .func (PySem.W.fnOf "_law_pairs" "_law_pairs" (defArgs s__law_pairs) (defBody s__law_pairs) (defScope s__law_pairs) .none kV_lp dc_lp pm_lp an_lp cd_lp ct_lp), sl_lp⟩)
    (c_lp : PySem.W.codeIn K cd_lp "_law_pairs" = true)
    (k_lp : PySem.W.keepIn K (.ref f_lp) = true)
    (a_due : PySem.W.nsIn K mainGlobals "_law_due" = some (some (.ref f_due)))
    (l_due : K.lookup f_due = some ⟨oc_due, od_due, .func (PySem.W.fnOf "_law_due" "_law_due" (defArgs s__law_due) (defBody s__law_due) (defScope s__law_due) .none kV_due dc_due pm_due an_due cd_due ct_due), sl_due⟩)
    (c_due : PySem.W.codeIn K cd_due "_law_due" = true)
    (k_due : PySem.W.keepIn K (.ref f_due) = true)
    (a_heard : PySem.W.nsIn K mainGlobals "_law_heard" = some (some (.ref f_heard)))
    (l_heard : K.lookup f_heard = some ⟨oc_heard, od_heard, .func (PySem.W.fnOf "_law_heard" "_law_heard" (defArgs s__law_heard) (defBody s__law_heard) (defScope s__law_heard) .none kV_heard dc_heard pm_heard an_heard cd_heard ct_heard), sl_heard⟩)
    (c_heard : PySem.W.codeIn K cd_heard "_law_heard" = true)
    (k_heard : PySem.W.keepIn K (.ref f_heard) = true)
    (a_isr : PySem.W.nsIn K mainGlobals "_law_is_read" = some (some (.ref f_isr)))
    (l_isr : K.lookup f_isr = some ⟨oc_isr, od_isr, .func (PySem.W.fnOf "_law_is_read" "_law_is_read" (defArgs s__law_is_read) (defBody s__law_is_read) (defScope s__law_is_read) .none kV_isr dc_isr pm_isr an_isr cd_isr ct_isr), sl_isr⟩)
    (c_isr : PySem.W.codeIn K cd_isr "_law_is_read" = true)
    (k_isr : PySem.W.keepIn K (.ref f_isr) = true)
    (a_iss : PySem.W.nsIn K mainGlobals "_law_is_shown" = some (some (.ref f_iss)))
    (l_iss : K.lookup f_iss = some ⟨oc_iss, od_iss, .func (PySem.W.fnOf "_law_is_shown" "_law_is_shown" (defArgs s__law_is_shown) (defBody s__law_is_shown) (defScope s__law_is_shown) .none kV_iss dc_iss pm_iss an_iss cd_iss ct_iss), sl_iss⟩)
    (c_iss : PySem.W.codeIn K cd_iss "_law_is_shown" = true)
    (k_iss : PySem.W.keepIn K (.ref f_iss) = true)
    (a_bent : PySem.W.nsIn K mainGlobals "_law_bent" = some (some (.ref f_bent)))
    (l_bent : K.lookup f_bent = some ⟨oc_bent, od_bent, .func (PySem.W.fnOf "_law_bent" "_law_bent" (defArgs s__law_bent) (defBody s__law_bent) (defScope s__law_bent) .none kV_bent dc_bent pm_bent an_bent cd_bent ct_bent), sl_bent⟩)
    (c_bent : PySem.W.codeIn K cd_bent "_law_bent" = true)
    (k_bent : PySem.W.keepIn K (.ref f_bent) = true)
    (a_bentf : PySem.W.nsIn K mainGlobals "_law_bent_far" = some (some (.ref f_bentf)))
    (l_bentf : K.lookup f_bentf = some ⟨oc_bentf, od_bentf, .func (PySem.W.fnOf "_law_bent_far" "_law_bent_far" (defArgs s__law_bent_far) (defBody s__law_bent_far) (defScope s__law_bent_far) .none kV_bentf dc_bentf pm_bentf an_bentf cd_bentf ct_bentf), sl_bentf⟩)
    (c_bentf : PySem.W.codeIn K cd_bentf "_law_bent_far" = true)
    (k_bentf : PySem.W.keepIn K (.ref f_bentf) = true)
    (a_bounds : PySem.W.nsIn K mainGlobals "_law_bounds" = some (some (.ref f_bounds)))
    (l_bounds : K.lookup f_bounds = some ⟨oc_bounds, od_bounds, .func (PySem.W.fnOf "_law_bounds" "_law_bounds" (defArgs s__law_bounds) (defBody s__law_bounds) (defScope s__law_bounds) .none kV_bounds dc_bounds pm_bounds an_bounds cd_bounds ct_bounds), sl_bounds⟩)
    (c_bounds : PySem.W.codeIn K cd_bounds "_law_bounds" = true)
    (k_bounds : PySem.W.keepIn K (.ref f_bounds) = true)
    (a_right : PySem.W.nsIn K mainGlobals "_law_right" = some (some (.ref f_right)))
    (l_right : K.lookup f_right = some ⟨oc_right, od_right, .func (PySem.W.fnOf "_law_right" "_law_right" (defArgs s__law_right) (defBody s__law_right) (defScope s__law_right) .none kV_right dc_right pm_right an_right cd_right ct_right), sl_right⟩)
    (c_right : PySem.W.codeIn K cd_right "_law_right" = true)
    (k_right : PySem.W.keepIn K (.ref f_right) = true)
    (a_law : PySem.W.nsIn K mainGlobals "law" = some (some (.ref f_law)))
    (l_law : K.lookup f_law = some ⟨oc_law, od_law, .func (PySem.W.fnOf "law" "law" (defArgs s_law) (defBody s_law) (defScope s_law) .none kV_law dc_law pm_law an_law cd_law ct_law), sl_law⟩)
    (c_law : PySem.W.codeIn K cd_law "law" = true)
    (k_law : PySem.W.keepIn K (.ref f_law) = true)
    (a_ini : PySem.W.findIn K (.ref CB) "__init__" = some (some (.ref f_ini)))
    (i_ini : PySem.W.typeIn K (.ref f_ini) = some (.type "function"))
    (l_ini : K.lookup f_ini = some ⟨oc_ini, od_ini, .func (PySem.W.fnOf "__init__" "PassError.__init__" (defArgs s_PassError_init) (defBody s_PassError_init) (defScope s_PassError_init) .none kV_ini dc_ini pm_ini an_ini cd_ini ct_ini), sl_ini⟩)
    (c_ini : PySem.W.codeIn K cd_ini "PassError.__init__" = true)
    (k_ini : PySem.W.keepIn K (.ref f_ini) = true)
    (z_len : PySem.W.nsIn K mainGlobals "len" = some none)
    (z_int : PySem.W.nsIn K mainGlobals "int" = some none)
    (z_abs : PySem.W.nsIn K mainGlobals "abs" = some none)
    (z_str : PySem.W.nsIn K mainGlobals "str" = some none)
    (z_list : PySem.W.nsIn K mainGlobals "list" = some none)
    (z_tuple : PySem.W.nsIn K mainGlobals "tuple" = some none)
    (z_range : PySem.W.nsIn K mainGlobals "range" = some none)
    (z_isinstance : PySem.W.nsIn K mainGlobals "isinstance" = some none)
    (z_bool : PySem.W.nsIn K mainGlobals "bool" = some none)
    (z_all : PySem.W.nsIn K mainGlobals "all" = some none)
    (z_sum : PySem.W.nsIn K mainGlobals "sum" = some none)
    (z_repr : PySem.W.nsIn K mainGlobals "repr" = some none)
    (z_max : PySem.W.nsIn K mainGlobals "max" = some none)
    (z_min : PySem.W.nsIn K mainGlobals "min" = some none)
    (z_ValueError : PySem.W.nsIn K mainGlobals "ValueError" = some none)
    (v_ALPHABET : PySem.W.nsIn K mainGlobals "ALPHABET" = some (some (.str alpha t1)))
    (v_MOST_PAIRS : PySem.W.nsIn K mainGlobals "MOST_PAIRS" = some (some (.int 6 t2)))
    (v_LONGEST_PIECE : PySem.W.nsIn K mainGlobals "LONGEST_PIECE" = some (some (.int 20 t3)))
    (v_MOST_TIMES : PySem.W.nsIn K mainGlobals "MOST_TIMES" = some (some (.int 1000000000000000000 t4)))
    (v_DEEPEST : PySem.W.nsIn K mainGlobals "DEEPEST" = some (some (.int 4 t5)))
    (v_MOST_SYMBOLS : PySem.W.nsIn K mainGlobals "MOST_SYMBOLS" = some (some (.int 1000000000000000000000000 t6)))
    (v_DIGITS : PySem.W.nsIn K mainGlobals "DIGITS" = some (some (.str dgs t7)))
    (v_MOST_DIGITS : PySem.W.nsIn K mainGlobals "MOST_DIGITS" = some (some (.int 25 t8))) :
    ∃ fd : FuncData, (∀ (s : Shared) (v : Value), BindsTo s fd ⟨[v], []⟩ [("_law_script", v)]) ∧ ∀ base : Heap, K.In base → base.Ns mainGlobals mg → FnOkG l.prog w K mg base 34 fa fd ["_law_script"] (spLaw K) := by
  have e := hfa.symm.trans (PySem.W.mg_of X G a_law)
  cases e
  have F_num := fun_mk (st := s_is_number) l_num c_num k_num
  have b_num := F_num.binds (ps := ["value"]) fun _ _ _ _ _ _ us hl => match us, hl with | [_], _ => rfl
  have m_num := PySem.W.mg_of X G a_num
  have F_far := fun_mk (st := s_size_of_far) l_far c_far k_far
  have b_far := F_far.binds (ps := ["symbols", "value"]) fun _ _ _ _ _ _ us hl => match us, hl with | [_, _], _ => rfl
  have m_far := PySem.W.mg_of X G a_far
  have F_at := fun_mk (st := s_size_at) l_at c_at k_at
  have b_at := F_at.binds (ps := ["symbols", "value", "depth"]) fun _ _ _ _ _ _ us hl => match us, hl with | [_, _, _], _ => rfl
  have m_at := PySem.W.mg_of X G a_at
  have F_pair := fun_mk (st := s_size_of_pair) l_pair c_pair k_pair
  have b_pair := F_pair.binds (ps := ["symbols", "pair", "depth"]) fun _ _ _ _ _ _ us hl => match us, hl with | [_, _, _], _ => rfl
  have m_pair := PySem.W.mg_of X G a_pair
  have F_check := fun_mk (st := s_check_far) l_check c_check k_check
  have b_check := F_check.binds (ps := ["symbols", "value"]) fun _ _ _ _ _ _ us hl => match us, hl with | [_, _], _ => rfl
  have m_check := PySem.W.mg_of X G a_check
  have F_sig := fun_mk (st := s_far_in_signs) l_sig c_sig k_sig
  have b_sig := F_sig.binds (ps := ["far"]) fun _ _ _ _ _ _ us hl => match us, hl with | [_], _ => rfl
  have m_sig := PySem.W.mg_of X G a_sig
  have F_ff := fun_mk (st := s_far_from) l_ff c_ff k_ff
  have b_ff := F_ff.binds (ps := ["text"]) fun _ _ _ _ _ _ us hl => match us, hl with | [_], _ => rfl
  have m_ff := PySem.W.mg_of X G a_ff
  have F_ps := fun_mk (st := s_pairs_from) l_ps c_ps k_ps
  have b_ps := F_ps.binds (ps := ["text", "start", "depth"]) fun _ _ _ _ _ _ us hl => match us, hl with | [_, _, _], _ => rfl
  have m_ps := PySem.W.mg_of X G a_ps
  have F_pr := fun_mk (st := s_pair_from) l_pr c_pr k_pr
  have b_pr := F_pr.binds (ps := ["text", "start", "depth"]) fun _ _ _ _ _ _ us hl => match us, hl with | [_, _, _], _ => rfl
  have m_pr := PySem.W.mg_of X G a_pr
  have F_pc := fun_mk (st := s_piece_from) l_pc c_pc k_pc
  have b_pc := F_pc.binds (ps := ["text", "start", "depth"]) fun _ _ _ _ _ _ us hl => match us, hl with | [_, _, _], _ => rfl
  have m_pc := PySem.W.mg_of X G a_pc
  have F_run := fun_mk (st := s_run_from) l_run c_run k_run
  have b_run := F_run.binds (ps := ["text", "start", "signs"]) fun _ _ _ _ _ _ us hl => match us, hl with | [_, _, _], _ => rfl
  have m_run := PySem.W.mg_of X G a_run
  have F_nof := fun_mk (st := s_number_of) l_nof c_nof k_nof
  have b_nof := F_nof.binds (ps := ["word"]) fun _ _ _ _ _ _ us hl => match us, hl with | [_], _ => rfl
  have m_nof := PySem.W.mg_of X G a_nof
  have F_show := fun_mk (st := s_show_far) l_show c_show k_show
  have b_show := F_show.binds (ps := ["far"]) fun _ _ _ _ _ _ us hl => match us, hl with | [_], _ => rfl
  have m_show := PySem.W.mg_of X G a_show
  have F_read := fun_mk (st := s_read_far) l_read c_read k_read
  have b_read := F_read.binds (ps := ["text"]) fun _ _ _ _ _ _ us hl => match us, hl with | [_], _ => rfl
  have m_read := PySem.W.mg_of X G a_read
  have F_len := fun_mk (st := s_far_length) l_len c_len k_len
  have b_len := F_len.binds (ps := ["far"]) fun _ _ _ _ _ _ us hl => match us, hl with | [_], _ => rfl
  have m_len := PySem.W.mg_of X G a_len
  have F_pot := fun_mk (st := s__law_pot_of) l_pot c_pot k_pot
  have b_pot := F_pot.binds (ps := ["_law_script", "_law_k"]) fun _ _ _ _ _ _ us hl => match us, hl with | [_, _], _ => rfl
  have m_pot := PySem.W.mg_of X G a_pot
  have F_take := fun_mk (st := s__law_take) l_take c_take k_take
  have b_take := F_take.binds (ps := ["_law_pot", "_law_upto"]) fun _ _ _ _ _ _ us hl => match us, hl with | [_, _], _ => rfl
  have m_take := PySem.W.mg_of X G a_take
  have F_of := fun_mk (st := s__law_of) l_of c_of k_of
  have b_of := F_of.binds (ps := ["_law_pot", "_law_some"]) fun _ _ _ _ _ _ us hl => match us, hl with | [_, _], _ => rfl
  have m_of := PySem.W.mg_of X G a_of
  have F_drawn := fun_mk (st := s__law_far) l_drawn c_drawn k_drawn
  have b_drawn := F_drawn.binds (ps := ["_law_pot", "_law_deep"]) fun _ _ _ _ _ _ us hl => match us, hl with | [_, _], _ => rfl
  have m_drawn := PySem.W.mg_of X G a_drawn
  have F_lshown := fun_mk (st := s__law_shown) l_lshown c_lshown k_lshown
  have b_lshown := F_lshown.binds (ps := ["_law_far_here"]) fun _ _ _ _ _ _ us hl => match us, hl with | [_], _ => rfl
  have m_lshown := PySem.W.mg_of X G a_lshown
  have F_long := fun_mk (st := s__law_long) l_long c_long k_long
  have b_long := F_long.binds (ps := ["_law_far_here"]) fun _ _ _ _ _ _ us hl => match us, hl with | [_], _ => rfl
  have m_long := PySem.W.mg_of X G a_long
  have F_isp := fun_mk (st := s__law_is_piece) l_isp c_isp k_isp
  have b_isp := F_isp.binds (ps := ["_law_value", "_law_deep"]) fun _ _ _ _ _ _ us hl => match us, hl with | [_, _], _ => rfl
  have m_isp := PySem.W.mg_of X G a_isp
  have F_tow := fun_mk (st := s__law_is_tower) l_tow c_tow k_tow
  have b_tow := F_tow.binds (ps := ["_law_value", "_law_deep"]) fun _ _ _ _ _ _ us hl => match us, hl with | [_, _], _ => rfl
  have m_tow := PySem.W.mg_of X G a_tow
  have F_isf := fun_mk (st := s__law_is_far) l_isf c_isf k_isf
  have b_isf := F_isf.binds (ps := ["_law_value"]) fun _ _ _ _ _ _ us hl => match us, hl with | [_], _ => rfl
  have m_isf := PySem.W.mg_of X G a_isf
  have F_lp := fun_mk (st := s__law_pairs) l_lp c_lp k_lp
  have b_lp := F_lp.binds (ps := ["_law_text", "_law_at", "_law_deep"]) fun _ _ _ _ _ _ us hl => match us, hl with | [_, _, _], _ => rfl
  have m_lp := PySem.W.mg_of X G a_lp
  have F_due := fun_mk (st := s__law_due) l_due c_due k_due
  have b_due := F_due.binds (ps := ["_law_text"]) fun _ _ _ _ _ _ us hl => match us, hl with | [_], _ => rfl
  have m_due := PySem.W.mg_of X G a_due
  have F_heard := fun_mk (st := s__law_heard) l_heard c_heard k_heard
  have b_heard := F_heard.binds (ps := ["_law_ask", "_law_value"]) fun _ _ _ _ _ _ us hl => match us, hl with | [_, _], _ => rfl
  have m_heard := PySem.W.mg_of X G a_heard
  have F_isr := fun_mk (st := s__law_is_read) l_isr c_isr k_isr
  have b_isr := F_isr.binds (ps := ["_law_value"]) fun _ _ _ _ _ _ us hl => match us, hl with | [_], _ => rfl
  have m_isr := PySem.W.mg_of X G a_isr
  have F_iss := fun_mk (st := s__law_is_shown) l_iss c_iss k_iss
  have b_iss := F_iss.binds (ps := ["_law_value"]) fun _ _ _ _ _ _ us hl => match us, hl with | [_], _ => rfl
  have m_iss := PySem.W.mg_of X G a_iss
  have F_bent := fun_mk (st := s__law_bent) l_bent c_bent k_bent
  have b_bent := F_bent.binds (ps := ["_law_pot", "_law_text"]) fun _ _ _ _ _ _ us hl => match us, hl with | [_, _], _ => rfl
  have m_bent := PySem.W.mg_of X G a_bent
  have F_bentf := fun_mk (st := s__law_bent_far) l_bentf c_bentf k_bentf
  have b_bentf := F_bentf.binds (ps := ["_law_pot", "_law_far_here"]) fun _ _ _ _ _ _ us hl => match us, hl with | [_, _], _ => rfl
  have m_bentf := PySem.W.mg_of X G a_bentf
  have F_bounds := fun_mk (st := s__law_bounds) l_bounds c_bounds k_bounds
  have b_bounds := F_bounds.binds (ps := []) fun _ _ _ _ _ _ us hl => match us, hl with | [], _ => rfl
  have m_bounds := PySem.W.mg_of X G a_bounds
  have F_right := fun_mk (st := s__law_right) l_right c_right k_right
  have b_right := F_right.binds (ps := ["_law_pot"]) fun _ _ _ _ _ _ us hl => match us, hl with | [_], _ => rfl
  have m_right := PySem.W.mg_of X G a_right
  have F_law := fun_mk (st := s_law) l_law c_law k_law
  have b_law := F_law.binds (ps := ["_law_script"]) fun _ _ _ _ _ _ us hl => match us, hl with | [_], _ => rfl
  have m_law := PySem.W.mg_of X G a_law
  have F_ini := fun_mk (st := s_PassError_init) l_ini c_ini k_ini
  have b_ini := F_ini.binds (ps := ["self", "value"]) fun _ _ _ _ _ _ us hl => match us, hl with | [_, _], _ => rfl
  have g_CB := PySem.W.mg_of X G a_CB
  have g_CP := PySem.W.mg_of X G a_CP
  have y_len := PySem.W.mg_none_of X G z_len
  have y_int := PySem.W.mg_none_of X G z_int
  have y_abs := PySem.W.mg_none_of X G z_abs
  have y_str := PySem.W.mg_none_of X G z_str
  have y_list := PySem.W.mg_none_of X G z_list
  have y_tuple := PySem.W.mg_none_of X G z_tuple
  have y_range := PySem.W.mg_none_of X G z_range
  have y_isinstance := PySem.W.mg_none_of X G z_isinstance
  have y_bool := PySem.W.mg_none_of X G z_bool
  have y_all := PySem.W.mg_none_of X G z_all
  have y_sum := PySem.W.mg_none_of X G z_sum
  have y_repr := PySem.W.mg_none_of X G z_repr
  have y_max := PySem.W.mg_none_of X G z_max
  have y_min := PySem.W.mg_none_of X G z_min
  have y_ValueError := PySem.W.mg_none_of X G z_ValueError
  have T : Bare mg := ⟨y_len, y_int, y_abs, y_str, y_list, y_tuple, y_range⟩
  have C : Con K mg := ⟨⟨_, PySem.W.mg_of X G v_ALPHABET⟩, ⟨_, PySem.W.mg_of X G v_MOST_PAIRS⟩, ⟨_, PySem.W.mg_of X G v_LONGEST_PIECE⟩, ⟨_, PySem.W.mg_of X G v_MOST_TIMES⟩, ⟨_, PySem.W.mg_of X G v_DEEPEST⟩, ⟨_, PySem.W.mg_of X G v_MOST_SYMBOLS⟩, ⟨_, PySem.W.mg_of X G v_DIGITS⟩, ⟨_, PySem.W.mg_of X G v_MOST_DIGITS⟩, y_isinstance, y_bool, y_all, y_sum, y_repr, y_max, y_min, y_ValueError⟩
  have OX : OexC K CB := ⟨⟨nm, q, N, bs, _, sn, sub, ab, col, dd, m0, m1, m2, m3, m5, l_CB, rfl⟩, sa_CB, ex_CB, ty_CB, k_CB⟩
  refine ⟨PySem.W.fnOf "law" "law" (defArgs s_law) (defBody s_law) (defScope s_law) .none kV_law dc_law pm_law an_law cd_law ct_law, fun s v => .of_eq rfl, fun base _ _ => ?_⟩
  have TB : BadTxt l.prog w K mg base CB f_ini := ⟨OX, a_ini, i_ini, n_CB, g_CB⟩
  have TK : KeptTxt K mg CB CP := ⟨⟨ga_CB, gg_CB, ex_CB, hd_CB, is1, is2, is3, is4⟩, n_CB, g_CP, g_CB, exm_mk e1 e2 e3 e4, kit_self, kit_base e5⟩
  have CT : Callee l.prog w K mg base 1 "_law_take" ["_law_pot", "_law_upto"] spTake := ⟨f_take, _, ok_take F_take T, m_take, k_take, b_take⟩
  have CO : Callee l.prog w K mg base 2 "_law_of" ["_law_pot", "_law_some"] (spOf K) := ⟨f_of, _, ok_of F_of T CT, m_of, k_of, b_of⟩
  have CPot : Callee l.prog w K mg base 1 "_law_pot_of" ["_law_script", "_law_k"] (spPotOf K) := ⟨f_pot, _, ok_pot_of F_pot T, m_pot, k_pot, b_pot⟩
  have CE : Callee l.prog w K mg base 1 "_law_bounds" [] (spBounds K) := ⟨f_bounds, _, ok_bounds F_bounds T, m_bounds, k_bounds, b_bounds⟩
  have CN : Callee l.prog w K mg base 1 "is_number" ["value"] (spNum K) := ⟨f_num, _, ok_num F_num T C, m_num, k_num, b_num⟩
  have CA : Callee l.prog w K mg base 10 "size_at" ["symbols", "value", "depth"] (spAt K 4) := ⟨f_at, _, ok_tower F_at F_pair T C m_at k_at b_at m_pair k_pair b_pair CN, m_at, k_at, b_at⟩
  have CF : Callee l.prog w K mg base 11 "size_of_far" ["symbols", "value"] (spFar K) := ⟨f_far, _, ok_far F_far C CA, m_far, k_far, b_far⟩
  have OI0 := ok_pass_init (P := l.prog) (w := w) (K := K) (mg := mg) (base := base) F_ini
  have OC := ok_check F_check TB OI0 b_ini CF
  have OL := ok_length F_len C OC m_check k_check b_check CF
  have CRun : Callee l.prog w K mg base 1 "run_from" ["text", "start", "signs"] spRun := ⟨f_run, _, ok_run F_run T, m_run, k_run, b_run⟩
  have CNof : Callee l.prog w K mg base 2 "number_of" ["word"] spNumber := ⟨f_nof, _, ok_number F_nof T C CRun, m_nof, k_nof, b_nof⟩
  have CPs : CalleeX l.prog w K mg base 14 "pairs_from" ["text", "start", "depth"] (spPairs K CB (progPairs 3) (4 - ((3 : Nat) : Int))) := ⟨f_ps, _, ok_readTower F_ps F_pr F_pc T C TB OI0 b_ini m_ps k_ps b_ps m_pr k_pr b_pr m_pc k_pc b_pc CRun CNof 3, m_ps, k_ps, b_ps⟩
  have CFf : CalleeX l.prog w K mg base 15 "far_from" ["text"] (spRead K CB) := ⟨f_ff, _, ok_far_from F_ff T C TB OI0 b_ini CPs CF, m_ff, k_ff, b_ff⟩
  have ORd := ok_read_far F_read CFf
  have CSig : Callee l.prog w K mg base 5 "far_in_signs" ["far"] (spSigns K 4) := ⟨f_sig, _, ok_signsT F_sig T C m_sig k_sig b_sig 4 (Nat.le_refl 4), m_sig, k_sig, b_sig⟩
  have OSh := ok_show F_show C OC m_check k_check b_check CSig
  have CLs : Callee l.prog w K mg base 5 "_law_shown" ["_law_far_here"] (spSigns K 4) := ⟨f_lshown, _, ok_lshownT F_lshown T C m_lshown k_lshown b_lshown 4 (Nat.le_refl 4), m_lshown, k_lshown, b_lshown⟩
  have CLg : Callee l.prog w K mg base 5 "_law_long" ["_law_far_here"] (spLong K 4) := ⟨f_long, _, ok_longT F_long T C m_long k_long b_long 4, m_long, k_long, b_long⟩
  have CTw : Callee l.prog w K mg base 9 "_law_is_tower" ["_law_value", "_law_deep"] (spTower K 4) := ⟨f_tow, _, ok_towerT F_tow F_isp T C m_tow k_tow b_tow m_isp k_isp b_isp 4 (Nat.le_refl 4), m_tow, k_tow, b_tow⟩
  have CIf : Callee l.prog w K mg base 10 "_law_is_far" ["_law_value"] (spIsFar K) := ⟨f_isf, _, ok_isFar F_isf CTw CLg, m_isf, k_isf, b_isf⟩
  have CLp : Callee l.prog w K mg base 30 "_law_pairs" ["_law_text", "_law_at", "_law_deep"] (spLPairs K 29) := ⟨f_lp, _, ok_lpairsT F_lp T C m_lp k_lp b_lp 29 (Nat.le_refl 29), m_lp, k_lp, b_lp⟩
  have CDue : Callee l.prog w K mg base 31 "_law_due" ["_law_text"] (spDue K) := ⟨f_due, _, ok_due F_due T C CLp CIf, m_due, k_due, b_due⟩
  have CH1 : Callee l.prog w K mg base 17 "_law_heard" ["_law_ask", "_law_value"] (spHeard K f_read oRead) := ⟨f_heard, _, ok_heard F_heard T C TK (ask_read ORd) k_read b_read, m_heard, k_heard, b_heard⟩
  have CH2 : Callee l.prog w K mg base 14 "_law_heard" ["_law_ask", "_law_value"] (spHeard K f_show oShow) := ⟨f_heard, _, ok_heard F_heard T C TK (ask_show OSh) k_show b_show, m_heard, k_heard, b_heard⟩
  have CH3 : Callee l.prog w K mg base 14 "_law_heard" ["_law_ask", "_law_value"] (spHeard K f_len oLong) := ⟨f_heard, _, ok_heard F_heard T C TK (ask_long OL) k_len b_len, m_heard, k_heard, b_heard⟩
  have OIr := ok_is_read F_isr C CDue CH1 m_read
  have OIs := ok_is_shown F_iss C CIf CLs CLg CH2 m_show CH3 m_len
  have CD_ : Callee l.prog w K mg base 2 "_law_far" ["_law_pot", "_law_deep"] spNo := ⟨f_drawn, _, never_ok, m_drawn, k_drawn, b_drawn⟩
  have CD1 : Callee l.prog w K mg base 3 "_law_far" ["_law_pot", "_law_deep"] (spDrawn K 1) := ⟨f_drawn, _, ok_drawn (k := 1) (lev := 2) F_drawn T (by decide) (by decide) (fun j e => by cases e) CT CO CD_, m_drawn, k_drawn, b_drawn⟩
  have CD2 : Callee l.prog w K mg base 4 "_law_far" ["_law_pot", "_law_deep"] (spDrawn K 2) := ⟨f_drawn, _, ok_drawn (k := 2) (lev := 3) F_drawn T (by decide) (by decide) (fun j e => by cases e; rfl) CT CO CD1, m_drawn, k_drawn, b_drawn⟩
  have CD3 : Callee l.prog w K mg base 5 "_law_far" ["_law_pot", "_law_deep"] (spDrawn K 3) := ⟨f_drawn, _, ok_drawn (k := 3) (lev := 4) F_drawn T (by decide) (by decide) (fun j e => by cases e; rfl) CT CO CD2, m_drawn, k_drawn, b_drawn⟩
  have CD4 : Callee l.prog w K mg base 6 "_law_far" ["_law_pot", "_law_deep"] (spDrawn K 4) := ⟨f_drawn, _, ok_drawn (k := 4) (lev := 5) F_drawn T (by decide) (by decide) (fun j e => by cases e; rfl) CT CO CD3, m_drawn, k_drawn, b_drawn⟩
  have CB1 : Callee l.prog w K mg base 3 "_law_bent" ["_law_pot", "_law_text"] spBent := ⟨f_bent, _, ok_bent F_bent T CT CO, m_bent, k_bent, b_bent⟩
  have CB2 : Callee l.prog w K mg base 3 "_law_bent_far" ["_law_pot", "_law_far_here"] (spBentFar K) := ⟨f_bentf, _, ok_bentFar F_bentf T CT CO, m_bentf, k_bentf, b_bentf⟩
  have CRd : CalleeX l.prog w K mg base 16 "read_far" ["text"] (spRead K CB) := ⟨f_read, _, ORd, m_read, k_read, b_read⟩
  have OR := ok_right F_right T C CD4 CO CLg CLs CRd CB1 CB2 OIr m_isr k_isr b_isr OIs m_iss k_iss b_iss
  exact ok_law F_law T C CPot CE OIr m_isr k_isr b_isr OR m_right k_right b_right
end Fs
open PySem PySem.W PyProof.Rows L2
set_option maxRecDepth 100000 in
set_option maxHeartbeats 0 in
theorem PySem.Challenge.cw_fewgoings_k87_texts_of_far_texts_holds : PySem.Challenge.rw_fewgoings_k87_texts_of_far_texts.Holds := by
  w_on; o_law; k_head; (case hw => w_witness2)
  k_fill
  refine Fs.walk_G (l := PySem.Challenge.rw_fewgoings_k87_texts_of_far_texts) (n := 63) (k := 34) (x := "_law_script") (sp := Fs.spLaw) rfl (by decide) rfl ⟨rfl, by decide, by decide⟩ (fun w h Y => PySem.W.kIn_of Y) ?F (fun _ _ a ns hl _ hS => ⟨a, ns, rfl, hS, hl, fun _ => rfl⟩)
  case F =>
    intro w mg fa h KX G hmg
    refine' Fs.all_mk KX G hmg ?a_CB ?a_CP ?l_CB ?sa_CB ?ex_CB ?ty_CB ?k_CB ?n_CB ?ga_CB ?gg_CB ?hd_CB ?is1 ?is2 ?is3 ?is4 ?e1 ?e2 ?e3 ?e4 ?e5 ?a_num ?l_num ?c_num ?k_num ?a_far ?l_far ?c_far ?k_far ?a_at ?l_at ?c_at ?k_at ?a_pair ?l_pair ?c_pair ?k_pair ?a_check ?l_check ?c_check ?k_check ?a_sig ?l_sig ?c_sig ?k_sig ?a_ff ?l_ff ?c_ff ?k_ff ?a_ps ?l_ps ?c_ps ?k_ps ?a_pr ?l_pr ?c_pr ?k_pr ?a_pc ?l_pc ?c_pc ?k_pc ?a_run ?l_run ?c_run ?k_run ?a_nof ?l_nof ?c_nof ?k_nof ?a_show ?l_show ?c_show ?k_show ?a_read ?l_read ?c_read ?k_read ?a_len ?l_len ?c_len ?k_len ?a_pot ?l_pot ?c_pot ?k_pot ?a_take ?l_take ?c_take ?k_take ?a_of ?l_of ?c_of ?k_of ?a_drawn ?l_drawn ?c_drawn ?k_drawn ?a_lshown ?l_lshown ?c_lshown ?k_lshown ?a_long ?l_long ?c_long ?k_long ?a_isp ?l_isp ?c_isp ?k_isp ?a_tow ?l_tow ?c_tow ?k_tow ?a_isf ?l_isf ?c_isf ?k_isf ?a_lp ?l_lp ?c_lp ?k_lp ?a_due ?l_due ?c_due ?k_due ?a_heard ?l_heard ?c_heard ?k_heard ?a_isr ?l_isr ?c_isr ?k_isr ?a_iss ?l_iss ?c_iss ?k_iss ?a_bent ?l_bent ?c_bent ?k_bent ?a_bentf ?l_bentf ?c_bentf ?k_bentf ?a_bounds ?l_bounds ?c_bounds ?k_bounds ?a_right ?l_right ?c_right ?k_right ?a_law ?l_law ?c_law ?k_law ?a_ini ?i_ini ?l_ini ?c_ini ?k_ini ?z_len ?z_int ?z_abs ?z_str ?z_list ?z_tuple ?z_range ?z_isinstance ?z_bool ?z_all ?z_sum ?z_repr ?z_max ?z_min ?z_ValueError ?v_ALPHABET ?v_MOST_PAIRS ?v_LONGEST_PIECE ?v_MOST_TIMES ?v_DEEPEST ?v_MOST_SYMBOLS ?v_DIGITS ?v_MOST_DIGITS
    (case a_CB => k_is)
    (case a_CP => k_is)
    (case l_CB => k_is)
    (case sa_CB => k_is)
    (case ex_CB => k_is)
    (case ty_CB => k_is)
    (case k_CB => k_is)
    (case n_CB => k_is)
    (case ga_CB => k_is)
    (case gg_CB => k_is)
    (case hd_CB => k_is)
    (case is1 => k_is)
    (case is2 => k_is)
    (case is3 => k_is)
    (case is4 => k_is)
    (case e1 => k_is)
    (case e2 => k_is)
    (case e3 => k_is)
    (case e4 => k_is)
    (case e5 => k_is)
    (case a_num => k_is)
    (case l_num => k_is)
    (case c_num => k_is)
    (case k_num => k_is)
    (case a_far => k_is)
    (case l_far => k_is)
    (case c_far => k_is)
    (case k_far => k_is)
    (case a_at => k_is)
    (case l_at => k_is)
    (case c_at => k_is)
    (case k_at => k_is)
    (case a_pair => k_is)
    (case l_pair => k_is)
    (case c_pair => k_is)
    (case k_pair => k_is)
    (case a_check => k_is)
    (case l_check => k_is)
    (case c_check => k_is)
    (case k_check => k_is)
    (case a_sig => k_is)
    (case l_sig => k_is)
    (case c_sig => k_is)
    (case k_sig => k_is)
    (case a_ff => k_is)
    (case l_ff => k_is)
    (case c_ff => k_is)
    (case k_ff => k_is)
    (case a_ps => k_is)
    (case l_ps => k_is)
    (case c_ps => k_is)
    (case k_ps => k_is)
    (case a_pr => k_is)
    (case l_pr => k_is)
    (case c_pr => k_is)
    (case k_pr => k_is)
    (case a_pc => k_is)
    (case l_pc => k_is)
    (case c_pc => k_is)
    (case k_pc => k_is)
    (case a_run => k_is)
    (case l_run => k_is)
    (case c_run => k_is)
    (case k_run => k_is)
    (case a_nof => k_is)
    (case l_nof => k_is)
    (case c_nof => k_is)
    (case k_nof => k_is)
    (case a_show => k_is)
    (case l_show => k_is)
    (case c_show => k_is)
    (case k_show => k_is)
    (case a_read => k_is)
    (case l_read => k_is)
    (case c_read => k_is)
    (case k_read => k_is)
    (case a_len => k_is)
    (case l_len => k_is)
    (case c_len => k_is)
    (case k_len => k_is)
    (case a_pot => k_is)
    (case l_pot => k_is)
    (case c_pot => k_is)
    (case k_pot => k_is)
    (case a_take => k_is)
    (case l_take => k_is)
    (case c_take => k_is)
    (case k_take => k_is)
    (case a_of => k_is)
    (case l_of => k_is)
    (case c_of => k_is)
    (case k_of => k_is)
    (case a_drawn => k_is)
    (case l_drawn => k_is)
    (case c_drawn => k_is)
    (case k_drawn => k_is)
    (case a_lshown => k_is)
    (case l_lshown => k_is)
    (case c_lshown => k_is)
    (case k_lshown => k_is)
    (case a_long => k_is)
    (case l_long => k_is)
    (case c_long => k_is)
    (case k_long => k_is)
    (case a_isp => k_is)
    (case l_isp => k_is)
    (case c_isp => k_is)
    (case k_isp => k_is)
    (case a_tow => k_is)
    (case l_tow => k_is)
    (case c_tow => k_is)
    (case k_tow => k_is)
    (case a_isf => k_is)
    (case l_isf => k_is)
    (case c_isf => k_is)
    (case k_isf => k_is)
    (case a_lp => k_is)
    (case l_lp => k_is)
    (case c_lp => k_is)
    (case k_lp => k_is)
    (case a_due => k_is)
    (case l_due => k_is)
    (case c_due => k_is)
    (case k_due => k_is)
    (case a_heard => k_is)
    (case l_heard => k_is)
    (case c_heard => k_is)
    (case k_heard => k_is)
    (case a_isr => k_is)
    (case l_isr => k_is)
    (case c_isr => k_is)
    (case k_isr => k_is)
    (case a_iss => k_is)
    (case l_iss => k_is)
    (case c_iss => k_is)
    (case k_iss => k_is)
    (case a_bent => k_is)
    (case l_bent => k_is)
    (case c_bent => k_is)
    (case k_bent => k_is)
    (case a_bentf => k_is)
    (case l_bentf => k_is)
    (case c_bentf => k_is)
    (case k_bentf => k_is)
    (case a_bounds => k_is)
    (case l_bounds => k_is)
    (case c_bounds => k_is)
    (case k_bounds => k_is)
    (case a_right => k_is)
    (case l_right => k_is)
    (case c_right => k_is)
    (case k_right => k_is)
    (case a_law => k_is)
    (case l_law => k_is)
    (case c_law => k_is)
    (case k_law => k_is)
    (case a_ini => k_is)
    (case i_ini => k_is)
    (case l_ini => k_is)
    (case c_ini => k_is)
    (case k_ini => k_is)
    (case z_len => k_is)
    (case z_int => k_is)
    (case z_abs => k_is)
    (case z_str => k_is)
    (case z_list => k_is)
    (case z_tuple => k_is)
    (case z_range => k_is)
    (case z_isinstance => k_is)
    (case z_bool => k_is)
    (case z_all => k_is)
    (case z_sum => k_is)
    (case z_repr => k_is)
    (case z_max => k_is)
    (case z_min => k_is)
    (case z_ValueError => k_is)
    (case v_ALPHABET => k_is)
    (case v_MOST_PAIRS => k_is)
    (case v_LONGEST_PIECE => k_is)
    (case v_MOST_TIMES => k_is)
    (case v_DEEPEST => k_is)
    (case v_MOST_SYMBOLS => k_is)
    (case v_DIGITS => k_is)
    (case v_MOST_DIGITS => k_is)
