import PyProof.Rows.All
import Wide.All
import OpenK.AllK
import Wide.FinOn
import HandS.ForMost
import HandS.Strs
import HandS.SetFor
import HandS.SetKeys
import HandS.Walk
import HandS.NoneIn
import HandS.Conv
import HandS.TupAny
import HandS.FStr
import HandS.Deep
import KE.KDictItemsList
import KE.KDictList
import KE.KItemsList
import KE.KDictSum
import HandS.ListItems
import PyProof.ListStr
import HandS.IsInst
import KE.KDictKeyed
import KE.KDictLaw
import PyProof.Rows.SeqRoads
import HandS.WordsDict
import HandS.TupMul
import HandS.Steps
import HandS.More
import KE.KWords
import PyProof.Rows.StrCut
import HandS.Text
import HandS.Call
import HandS.ForExc
import HandS.ExcInit
import HandS.ExcIs
import HandS.ExcField
import HandS.ExcValue
import KE.KIsAll
import KE.KTryMore
import HandS.Nested
import HandS.HeadWalk
import KE.GoesEnum
import PyProof.ReprRoads
import PyProof.ReprLen
import PyProof.StrLawsRepr
import PyProof.FitsInt
import PyProof.Rows.StrCountLaw
import PySem.Challenge.RW_fewgoings_k06_parts_and_cells_in_closed
set_option Elab.async false
set_option linter.all false
set_option maxRecDepth 100000
namespace Fv
open PySem L2
def top (i : Nat) : Stmt := PySem.Challenge.pw_fewgoings_k06_parts_and_cells_in_closed.main.body.getD i (.Pass ⟨0, 0, 0, 0⟩)
/-- a def of the text that stands ready to be called -/
structure Callee (P : Program) (w : World) (K : PySem.W.Frag) (mg : Str → Option Value) (base : Heap) (k : Nat) (x : Str) (ps : List Str) (sp : Sp) where
  f : Addr
  fd : FuncData
  ok : FnOk P w K mg base CX0 k f fd ps sp
  mg : mg x = some (.ref f)
  kp : PySem.W.keepIn K (.ref f) = true
  b : Binds K fd ps []
/-- the built-in names that are nobody's -/
structure Bare (mg : Str → Option Value) : Prop where
  len : mg "len" = none
  int : mg "int" = none
  abs : mg "abs" = none
  str : mg "str" = none
  list : mg "list" = none
  tuple : mg "tuple" = none
  range : mg "range" = none
theorem same_new {H : Hp} {p : Addr} (h : H p = none) (o : HO) : Same H (upd H p o) := fun b u q => by rw [upd_ne (ne_of_none q h)]; exact q
/-- all but what stands at p is as it was -/
def But (p : Addr) (H H' : Hp) : Prop := ∀ b o, H b = some o → b ≠ p → H' b = some o
theorem But.refl (p : Addr) (H : Hp) : But p H H := fun _ _ h _ => h
theorem But.trans {p : Addr} {H H1 H2 : Hp} (a : But p H H1) (b : But p H1 H2) : But p H H2 := fun c o h n => b c o (a c o h n) n
theorem But.of_same {p : Addr} {H H' : Hp} (s : Same H H') : But p H H' := fun b o h _ => s b o h
theorem But.upd {p : Addr} {H : Hp} {o : HO} : But p H (L2.upd H p o) := fun b u q n => by rw [upd_ne n]; exact q
theorem small {n : Nat} (h : n ≤ 1000) : n ≤ sizeLine := Nat.le_of_lt (small1000 h)
end Fv
set_option Elab.async false
set_option linter.all false
set_option maxRecDepth 100000
set_option maxHeartbeats 2000000
namespace Fv
open PySem L2 TL
/-! ### rows of a text: so deep, these words -/
def ind (d : Nat) : Str := ⟨(List.replicate (2 * d) 32).toArray⟩
abbrev blank : Str := " "
abbrev Row := Nat × List Str
def lineOf (r : Row) : Str := ind r.1 ++ Txt.join blank r.2
/-- words as they stand in a line -/
structure GoodWs (ws : List Str) : Prop where
  ne : ws ≠ []
  w : ∀ x ∈ ws, tl x ≠ [] ∧ 32 ∉ tl x
  ok : ∀ x ∈ ws, PyData.strOk x = true
theorem tl_ind (d : Nat) : tl (ind d) = List.replicate (2 * d) 32 := rfl
theorem tl_blank : tl blank = [32] := by decide +kernel
theorem tl_line (r : Row) : tl (lineOf r) = List.replicate (2 * r.1) 32 ++ joinL [32] (r.2.map tl) := by
  unfold lineOf
  rw [tl_append, join_eq, tl_join, tl_blank, tl_ind]
theorem joinL_head {ws : List Str} (g : GoodWs ws) : ∃ c r, joinL [32] (ws.map tl) = c :: r ∧ c ≠ 32 := by
  match ws, g with
  | [], g => exact absurd rfl g.ne
  | x :: t, g =>
    obtain ⟨h1, h2⟩ := g.w x List.mem_cons_self
    cases e : tl x with
    | nil => exact absurd e h1
    | cons c r =>
      have hc : c ≠ 32 := fun z => h2 (by rw [e, z]; exact List.mem_cons_self)
      cases t with
      | nil => exact ⟨c, r, by show joinL [32] [tl x] = _; rw [e]; rfl, hc⟩
      | cons y u => exact ⟨c, r ++ ([32] ++ joinL [32] ((y :: u).map tl)), by show tl x ++ ([32] ++ joinL [32] ((y :: u).map tl)) = _; rw [e]; rfl, hc⟩
theorem split_ws {ws : List Str} (g : GoodWs ws) : Txt.split (Txt.join blank ws) blank = ws :=
  split_join tl_blank (by decide +kernel) g.ne fun p hp => (g.w p hp).2
/-- what words_at finds in a line at a depth -/
def wordsOf (z : Str) (d : Nat) : List Str :=
  if Txt.startswith z (ind d) = false then [] else
    let ws := Txt.split (cutS z (some ((ind d).length : Nat)) none) blank
    if ("" : Str) ∈ ws then [] else ws
theorem len_ind (d : Nat) : (ind d).length = 2 * d := by rw [len_tl, tl_ind, List.length_replicate]
theorem starts_iff (x y : Str) : Txt.startswith x y = true ↔ (tl x).take (tl y).length = tl y := by
  unfold Txt.startswith
  rw [Bool.and_eq_true, decide_eq_true_eq, PySem.StrLaws.subAt_eq, ← len_tl y]
  constructor
  · rintro ⟨_, h⟩
    have := eq_of_beq h
    rw [List.drop_zero] at this
    exact this
  · intro h
    refine ⟨?_, ?_⟩
    · have := congrArg List.length h
      rw [List.length_take, ← len_tl y, ← len_tl x] at this
      omega
    · rw [List.drop_zero]
      exact beq_iff_eq.mpr h
theorem tl_cut (z : Str) (k : Nat) : tl (cutS z (some (k : Int)) none) = (tl z).drop k := by
  unfold cutS
  rw [HT.sIx_none, HT.sIx_nat]
  show ((z.cps.toList.drop (min k z.length)).take _) = _
  have hz := len_tl z
  by_cases h : k ≤ z.length
  · rw [Nat.min_eq_left h, List.take_of_length_le (by rw [List.length_drop]; show (tl z).length - k ≤ _; omega)]
  · rw [Nat.min_eq_right (by omega), List.drop_eq_nil_of_le (by show (tl z).length ≤ _; omega), List.drop_eq_nil_of_le (by omega)]
    exact List.take_nil
theorem empty_tl {x : Str} (h : tl x = []) : x = ("" : Str) := ext_tl (by rw [h]; decide +kernel)
theorem words_here {d : Nat} {ws : List Str} (g : GoodWs ws) : wordsOf (lineOf (d, ws)) d = ws := by
  unfold wordsOf
  have hs : Txt.startswith (lineOf (d, ws)) (ind d) = true := by
    rw [starts_iff, tl_line, tl_ind]
    exact List.take_left
  rw [if_neg (by rw [hs]; exact Bool.false_ne_true.symm)]
  have hc : cutS (lineOf (d, ws)) (some ((ind d).length : Nat)) none = Txt.join blank ws := ext_tl (by
    rw [tl_cut, tl_line, len_ind, join_eq, tl_join, tl_blank]
    exact List.drop_left' List.length_replicate)
  dsimp only
  rw [hc, split_ws g]
  rw [if_neg fun hm => (g.w _ hm).1 (by decide +kernel)]
theorem words_deeper {d e : Nat} {ws : List Str} (g : GoodWs ws) (h : d < e) : wordsOf (lineOf (d, ws)) e = [] := by
  unfold wordsOf
  have hs : Txt.startswith (lineOf (d, ws)) (ind e) = false := by
    cases q : Txt.startswith (lineOf (d, ws)) (ind e) with
    | false => rfl
    | true =>
      rw [starts_iff, tl_line, tl_ind, List.length_replicate] at q
      obtain ⟨c, r, ej, hc⟩ := joinL_head g
      have z := congrArg (fun l : List Nat => l[2 * d]?) q
      dsimp only at z
      rw [ej, List.getElem?_take_of_lt (by omega), List.getElem?_append_right (by rw [List.length_replicate]; exact Nat.le_refl _), List.length_replicate, Nat.sub_self, List.getElem?_cons_zero, List.getElem?_replicate, if_pos (by omega)] at z
      exact absurd (Option.some.inj z) hc
  rw [if_pos hs]
theorem words_outer {d e : Nat} {ws : List Str} (g : GoodWs ws) (h : e < d) : wordsOf (lineOf (d, ws)) e = [] := by
  unfold wordsOf
  split
  · rfl
  dsimp only
  rw [if_pos]
  have hx : (Txt.split (cutS (lineOf (d, ws)) (some ((ind e).length : Nat)) none) blank).map tl = spl [32] 0 [] ((List.replicate (2 * d) 32 ++ joinL [32] (ws.map tl)).drop (2 * e)) := by
    rw [split_spl _ _ (by rw [tl_blank]; simp) (kind_ok (by decide +kernel)), tl_cut, tl_line, len_ind, tl_blank]
  have h1 : (List.replicate (2 * d) 32 ++ joinL [32] (ws.map tl)).drop (2 * e) = [] ++ ([32] ++ (List.replicate (2 * d - 2 * e - 1) 32 ++ joinL [32] (ws.map tl))) := by
    rw [List.drop_append_of_le_length (by rw [List.length_replicate]; omega), List.drop_replicate]
    have : 2 * d - 2 * e = (2 * d - 2 * e - 1) + 1 := by omega
    rw [this, List.replicate_succ]
    rfl
  rw [h1, spl_part1 (s := 32) (S := []) (p := []) (by simp)] at hx
  cases hs : Txt.split (cutS (lineOf (d, ws)) (some ((ind e).length : Nat)) none) blank with
  | nil => rw [hs] at hx; cases hx
  | cons y r =>
    rw [hs, List.map_cons] at hx
    have e1 : tl y = [] := (List.cons.inj hx).1
    rw [empty_tl e1]
    exact List.mem_cons_self
/-! ### two blanks, so often -/
theorem op_mulS {X : Cx} : OpR X (binaryOp .Mult) (fun x y H Q => ∃ d : Nat, x = .str "  " ∧ y = .int (d : Int) ∧ d ≤ 5 ∧ Q (.str (ind d)) H) := by
  intro pins s σ H x y v u Q I rx ry h
  obtain ⟨d, rfl, rfl, hd, q⟩ := h
  obtain ⟨t, rfl⟩ := rx
  obtain ⟨t', rfl⟩ := ry
  have hcases : d = 0 ∨ d = 1 ∨ d = 2 ∨ d = 3 ∨ d = 4 ∨ d = 5 := by omega
  rcases hcases with rfl | rfl | rfl | rfl | rfl | rfl
  · refine P.mul_str_none (by decide) (by decide) ⟨.str (ind 0), H, I.tok _, ⟨s.toks, congrArg (fun z => Value.str z s.toks) ?_⟩, q⟩
    decide +kernel
  all_goals
    refine P.mul_str (by decide) (by decide +kernel) (by decide +kernel) ?_
    rw [if_neg (by decide)]
  · rw [if_pos (by decide)]
    exact ⟨.str (ind 1), H, I, ⟨t, congrArg (fun z => Value.str z t) (by decide +kernel)⟩, q⟩
  all_goals
    rw [if_neg (by decide +kernel)]
    refine ⟨by decide +kernel, .str (ind _), H, I.tok _, ⟨s.toks, congrArg (fun z => Value.str z s.toks) ?_⟩, q⟩
    decide +kernel
end Fv
set_option Elab.async false
set_option linter.all false
set_option maxRecDepth 100000
set_option maxHeartbeats 2000000
namespace Fv
open PySem L2 TL
/-! ### the parser between two calls -/
def pf (l : Addr) (n : Int) (sy : Str) (m s t : Addr) (fi : Int) : List (Str × V) :=
  [("lines", .ref l), ("number", .int n), ("symbols", .str sy), ("mosts", .ref m), ("starts", .ref s), ("statements", .ref t), ("first", .int fi)]
section
variable {l m s t : Addr} {n fi : Int} {sy : Str}
theorem pf_lines : (pf l n sy m s t fi).lookup ("lines" : Str) = some (V.ref l) := by kernel_rfl
theorem pf_number : (pf l n sy m s t fi).lookup ("number" : Str) = some (V.int n) := by kernel_rfl
theorem pf_symbols : (pf l n sy m s t fi).lookup ("symbols" : Str) = some (V.str sy) := by kernel_rfl
theorem pf_mosts : (pf l n sy m s t fi).lookup ("mosts" : Str) = some (V.ref m) := by kernel_rfl
theorem pf_starts : (pf l n sy m s t fi).lookup ("starts" : Str) = some (V.ref s) := by kernel_rfl
theorem pf_statements : (pf l n sy m s t fi).lookup ("statements" : Str) = some (V.ref t) := by kernel_rfl
theorem pf_first : (pf l n sy m s t fi).lookup ("first" : Str) = some (V.int fi) := by kernel_rfl
theorem put_number {k : Int} : putF "number" (.int k) (pf l n sy m s t fi) = pf l k sy m s t fi := by kernel_rfl
theorem put_symbols {z : Str} : putF "symbols" (.str z) (pf l n sy m s t fi) = pf l n z m s t fi := by kernel_rfl
theorem put_first {k : Int} : putF "first" (.int k) (pf l n sy m s t fi) = pf l n sy m s t k := by kernel_rfl
theorem pf_words_at : (pf l n sy m s t fi).lookup ("words_at" : Str) = none := by kernel_rfl
end
structure PAt (C : Addr) (H : Hp) (p l m s t : Addr) (n : Int) (sy : Str) (fi : Int) : Prop where
  ob : ∃ dx, H p = some (.ins C dx (pf l n sy m s t fi))
/-- what is known of the class Parser -/
structure PTxt (K : PySem.W.Frag) (C : Addr) : Prop where
  cl : Cls K C
  nLines : NoAttr K C "lines"
  nNumber : NoAttr K C "number"
  nSymbols : NoAttr K C "symbols"
  nMosts : NoAttr K C "mosts"
  nStarts : NoAttr K C "starts"
  nStatements : NoAttr K C "statements"
  nFirst : NoAttr K C "first"
/-- a method that stands ready to be called -/
structure Meter (P : Program) (w : World) (K : PySem.W.Frag) (mg : Str → Option Value) (base : Heap) (C : Addr) (k : Nat) (x : Str) (ps : List Str) (sp : Sp) where
  f : Addr
  fd : FuncData
  ok : FnOk P w K mg base CX0 k f fd ps sp
  m : Meth K C x f
  b : Binds K fd ps []
def wordsAt (lines : List Str) (k d : Nat) : List Str := match lines[k]? with
  | none => []
  | some z => wordsOf z d
/-- the lines of the text, not too many, none too long -/
structure Lines (H : Hp) (l : Addr) (lines : List Str) : Prop where
  at_ : H l = some (.lst (lines.map V.str))
  few : lines.length ≤ 1000
  short : ∀ z ∈ lines, z.length ≤ 10000
abbrev s_Parser_words_at : Stmt := inClass (top 41) 1
abbrev sc_Parser_words_atN : List Str := ["self", "depth", "line", "indentation", "words"]
theorem sc_Parser_words_at : FnScope sc_Parser_words_atN ["self", "depth"] (defScope s_Parser_words_at) := ⟨rfl, rfl, rfl, by decide +kernel, rfl, by decide +kernel, by decide +kernel⟩
def spWords (C : Addr) : Sp := fun vs H Q _ => ∃ (p l m s t : Addr) (k d : Nat) (sy : Str) (fi : Int) (lines : List Str), vs = [.ref p, .int (d : Int)] ∧ PAt C H p l m s t ((k : Int) + 1) sy fi ∧ Lines H l lines ∧ d ≤ 5 ∧
  ∀ (a : Addr) (H' : Hp), Same H H' → H a = none → H' a = some (.lst ((wordsAt lines k d).map V.str)) → Q (.ref a) H'
theorem inV_str (x : Str) (xs : List Str) : inV (.str x) (xs.map V.str) = decide (x ∈ xs) := by
  unfold inV
  rw [List.any_map]
  induction xs with
  | nil => rfl
  | cons y r ih =>
    rw [List.any_cons, ih]
    show ((y == x) || decide (x ∈ r)) = decide (x ∈ y :: r)
    by_cases e : x = y
    · subst e
      simp
    · have e' : (y == x) = false := beq_eq_false_iff_ne.mpr (Ne.symm e)
      rw [e', Bool.false_or]
      simp [e]
theorem flats (xs : List Str) : (xs.map V.str).all flatV = true := by
  induction xs with
  | nil => rfl
  | cons y r ih => exact ih
theorem sizeLine_big {n : Nat} (h : n ≤ 20000) : n ≤ sizeLine := by rw [sizeLine_eq]; omega
section
variable {P : Program} {w : World} {K : PySem.W.Frag} {mg : Str → Option Value} {base : Heap}
theorem ok_words_at {f C : Addr} {fd : FuncData} (F : Fun K "words_at" "Parser.words_at" s_Parser_words_at f fd) (T : Bare mg) (TP : PTxt K C) : FnOk P w K mg base CX0 1 f fd ["self", "depth"] (spWords C) := by
  refine F.ok sc_Parser_words_at (fun vs H Q E h => ?_) (fun cdv A outer st H vs Q E hr h => ?_)
  · obtain ⟨p, l, m, s, t, k, d, sy, fi, lines, rfl, _⟩ := h
    rfl
  obtain ⟨p, l, m, s, t, k, d, sy, fi, lines, rfl, ⟨dx, hp⟩, L, hd, q⟩ := h
  refine ⟨_, (pss_cons (ps_if (pt_cmpR op_gt (pe_fld (pv 0) rfl) (pe_callB call_len_seq (by rfl) T.len PySem.boot_len (pa_cons (pe_fld (pv 0) rfl) pa_nil)) (nomark _))
(pss_one (ps_ret (pe_lst pa_nil)))
pss_nil)
(pss_cons (ps_set (i := 2) sc_Parser_words_at.nd rfl (Or.inl rfl) (pe_ix ix_list (pe_fld (pv 0) rfl) (pe_op op_sub (pe_fld (pv 0) rfl) pe_int) (fun _ _ => rfl)))
(pss_cons (ps_set (i := 3) sc_Parser_words_at.nd rfl (Or.inl rfl) (pe_op op_mulS pe_str (pv 1)))
(pss_cons (ps_if (pt_not (pt_val (pe_m1 PySem.F.slot_str_startswith PySem.F.type_str_startswith mt_startswith (pv 2) (pv 3))))
(pss_one (ps_ret (pe_lst pa_nil)))
pss_nil)
(pss_cons (ps_set (i := 4) sc_Parser_words_at.nd rfl (Or.inl rfl) (pe_split (pe_slice sl_str (pv 2) (po_some (pe_callB call_len_str (by rfl) T.len PySem.boot_len (pa_cons (pv 3) pa_nil))) po_none) pe_str))
(pss_one (ps_ret (pe_ifExp (pt_cmpR op_in_seq pe_str (pv 4) (by rfl)) (pe_lst pa_nil) (pv 4))))))))), ?_⟩
  have hS : SqL K H l (lines.map V.str) := .inl (.inl L.at_)
  have hl : (lines.map V.str).length = lines.length := List.length_map _
  refine ⟨_, rfl, p, C, dx, _, _, rfl, hp, TP.cl, TP.nNumber, pf_number, _, rfl, p, C, dx, _, _, rfl, hp, TP.cl, TP.nLines, pf_lines, l, _, rfl, .inl hS, _, _, rfl, rfl, _, rfl, ?_⟩
  refine ite2 (fun h => ?_) (fun h => ?_)
  · have hk : lines.length ≤ k := by
      have z : ((lines.map V.str).length : Int) < (k : Int) + 1 := of_decide_eq_true h
      rw [hl] at z
      omega
    refine ⟨small (by show 0 ≤ 1000; decide), fun a ha => ?_⟩
    refine q a _ (same_new ha _) ha ?_
    unfold wordsAt
    rw [List.getElem?_eq_none hk]
    exact upd_same
  · have hk : k < lines.length := by
      have z : ¬ ((lines.map V.str).length : Int) < (k : Int) + 1 := fun z => h (decide_eq_true z)
      rw [hl] at z
      omega
    have hz := L.short lines[k] (List.getElem_mem hk)
    refine ⟨_, rfl, p, C, dx, _, _, rfl, hp, TP.cl, TP.nLines, pf_lines, _, rfl, p, C, dx, _, _, rfl, hp, TP.cl, TP.nNumber, pf_number, _, _, rfl, rfl, l, _, _, _, rfl, rfl, hS, at_of (j := k) (by omega) (by rw [List.getElem?_map, List.getElem?_eq_getElem hk] <;> rfl), ?_⟩
    refine ⟨_, rfl, d, rfl, rfl, hd, ?_⟩
    have hli : (ind d).length ≤ sizeLine := sizeLine_big (by rw [len_ind]; omega)
    refine ⟨_, rfl, ⟨_, rfl⟩, _, rfl, _, _, rfl, rfl, _, rfl, ?_⟩
    refine ite2 (fun h2 => ?_) (fun h2 => ?_)
    · have hs : Txt.startswith lines[k] (ind d) = false := by
        have : (!Txt.startswith lines[k] (ind d)) = true := h2
        simpa using this
      refine ⟨small (by show 0 ≤ 1000; decide), fun a ha => ?_⟩
      refine q a _ (same_new ha _) ha ?_
      unfold wordsAt
      rw [List.getElem?_eq_getElem hk]
      show _ = some (HO.lst ((wordsOf lines[k] d).map V.str))
      unfold wordsOf
      rw [if_pos hs]
      exact upd_same
    · have hs : ¬ Txt.startswith lines[k] (ind d) = false := by
        intro z
        exact h2 (by show (!Txt.startswith lines[k] (ind d)) = true; rw [z]; rfl)
      have hc : (cutS lines[k] (some ((ind d).length : Nat)) none).length ≤ 10000 := Nat.le_trans (cutS_length _ _ _) hz
      refine ⟨_, rfl, _, rfl, _, rfl, hli, _, rfl, _, rfl, sizeLine_big (by omega), ⟨_, rfl⟩, _, _, rfl, rfl, by decide +kernel, sizeLine_big (by omega), fun a ha => ?_⟩
      have hSa : SqL K (upd H a (.lst ((Txt.split (cutS lines[k] (some ((ind d).length : Nat)) none) " ").map V.str))) a ((Txt.split (cutS lines[k] (some ((ind d).length : Nat)) none) " ").map V.str) := .inl (.inl upd_same)
      refine ⟨_, rfl, a, _, rfl, .inl hSa, rfl, flats _, _, rfl, ?_⟩
      have e : wordsAt lines k d = (if ("" : Str) ∈ Txt.split (cutS lines[k] (some ((ind d).length : Nat)) none) " " then [] else Txt.split (cutS lines[k] (some ((ind d).length : Nat)) none) " ") := by
        unfold wordsAt
        rw [List.getElem?_eq_getElem hk]
        show wordsOf lines[k] d = _
        unfold wordsOf
        rw [if_neg hs]
      dsimp only
      rw [inV_str]
      refine ite2 (fun h3 => ?_) (fun h3 => ?_)
      · refine ⟨small (by show 0 ≤ 1000; decide), fun b hb => ?_⟩
        have s1 : Same H (upd H a (.lst ((Txt.split (cutS lines[k] (some ((ind d).length : Nat)) none) " ").map V.str))) := same_new ha _
        refine q b _ (s1.trans (same_new hb _)) (s1.free hb) ?_
        rw [e, if_pos (of_decide_eq_true h3)]
        exact upd_same
      · refine ⟨_, rfl, q a _ (same_new ha _) ha ?_⟩
        rw [e, if_neg (fun z => h3 (decide_eq_true z))]
        exact upd_same
end
end Fv
set_option Elab.async false
set_option linter.all false
set_option maxRecDepth 100000
set_option maxHeartbeats 4000000
/-! sorted(set(xs)), xs a list of ints or of texts -/
namespace Fv
open PySem PySem.Spec PyProof.Rows L2
/-- a kind of members: what a member is as a value -/
structure Kd (P : Program) (w : World) (κ : Type) [DecidableEq κ] where
  knd : PySem.KeyKind P w κ
  val : κ → Tok → Value
  is_val : ∀ (k j : κ) (t : Tok), knd.is k (val j t) = true ↔ j = k
  sc : ∀ (k : κ) (t : Tok), (val k t).scannable = true
  vv : κ → V
  rel : ∀ (k : κ) (t : Tok), RelV (vv k) (val k t)
  get : ∀ (k : κ) (u : Value), RelV (vv k) u → ∃ t, u = val k t
def kdInt (P : Program) (w : World) : Kd P w Int where
  knd := PySem.intKind P w
  val := fun k t => .int k t
  is_val := fun k j t => by
    show ((j == k) = true) ↔ j = k
    exact beq_iff_eq
  sc := fun _ _ => rfl
  vv := V.int
  rel := fun _ t => ⟨t, rfl⟩
  get := fun _ _ r => r
def kdStr (P : Program) (w : World) : Kd P w Str where
  knd := PySem.strKind P w
  val := fun k t => .str k t
  is_val := fun k j t => by
    show ((j == k) = true) ↔ j = k
    exact beq_iff_eq
  sc := fun _ _ => rfl
  vv := V.str
  rel := fun _ t => ⟨t, rfl⟩
  get := fun _ _ r => r
theorem perm_of_map {α β : Type} (f : α → β) : ∀ {l m : List β}, l.Perm m → ∀ a : List α, m = a.map f → ∃ b : List α, l = b.map f ∧ b.Perm a := by
  intro l m p
  induction p with
  | nil => exact fun a e => ⟨[], rfl, by rw [List.map_eq_nil_iff.mp e.symm]⟩
  | cons x p ih =>
    intro a e
    cases a with
    | nil => cases e
    | cons y r =>
      rw [List.map_cons] at e
      obtain ⟨e1, e2⟩ := List.cons.inj e
      obtain ⟨b, h1, h2⟩ := ih r e2
      exact ⟨y :: b, by rw [List.map_cons, h1, e1], h2.cons y⟩
  | swap x y l =>
    intro a e
    match a, e with
    | [], e => cases e
    | [_], e => simp at e
    | u :: v :: r, e =>
      rw [List.map_cons, List.map_cons] at e
      obtain ⟨e1, e2⟩ := List.cons.inj e
      obtain ⟨e3, e4⟩ := List.cons.inj e2
      exact ⟨v :: u :: r, by rw [List.map_cons, List.map_cons, ← e1, ← e3, ← e4], List.Perm.swap u v r⟩
  | trans p q ih1 ih2 =>
    intro a e
    obtain ⟨b, h1, h2⟩ := ih2 a e
    obtain ⟨c, h3, h4⟩ := ih1 b h1
    exact ⟨c, h3, h4.trans h2⟩
section
variable {P : Program} {w : World} {κ : Type} [DecidableEq κ]
/-- a member in the table -/
def Kd.ent (D : Kd P w κ) (p : κ × Tok) : Int × Value := (D.knd.hash p.1, D.val p.1 p.2)
/-- the set at a holds kt, no member twice; its table can be walked -/
structure SetG (D : Kd P w κ) (h : Heap) (a : Addr) (kt : List (κ × Tok)) : Prop where
  ex : ∃ o es ep t, h.get? a = some o ∧ o.ExactSet ∧ o.data = .set es ep t ∧ es.toList = kt.map D.ent ∧ t.fits es.size = true ∧ Ris t.place.toList ∧ (w.params.followText "set-order" = true ∨ t.led = true)
  nd : (kt.map (·.1)).Nodup
  few : kt.length < scanBound
variable {D : Kd P w κ} {h h' : Heap} {a : Addr} {kt : List (κ × Tok)}
theorem SetG.moved (R : SetG D h a kt) (k : ∀ o, h.get? a = some o → h'.get? a = some o) : SetG D h' a kt := by
  obtain ⟨⟨o, es, ep, t, ho, r⟩, n, f⟩ := R
  exact ⟨⟨o, es, ep, t, k o ho, r⟩, n, f⟩
theorem ents_ok (l : List (κ × Tok)) : ElemsOf D.knd (l.map D.ent) := fun e he => by
  obtain ⟨p, _, rfl⟩ := List.mem_map.mp he
  exact ⟨⟨p.1, (D.is_val _ _ _).mpr rfl, rfl⟩, D.sc _ _⟩
theorem ents_mem {k : κ} (l : List (κ × Tok)) : (∃ e ∈ l.map D.ent, D.knd.is k e.2 = true) ↔ k ∈ l.map (·.1) := by
  constructor
  · rintro ⟨e, he, q⟩
    obtain ⟨p, hp, rfl⟩ := List.mem_map.mp he
    exact List.mem_map.mpr ⟨p, hp, (D.is_val _ _ _).mp q⟩
  · intro m
    obtain ⟨p, hp, e⟩ := List.mem_map.mp m
    exact ⟨D.ent p, List.mem_map.mpr ⟨p, hp, rfl⟩, (D.is_val _ _ _).mpr e⟩
variable {A : Around} {E : Value → Shared → Prop} {s : Shared}
theorem put_at {h : Heap} {a : Addr} {o : Obj} {es es' : Array (Int × Value)} {ep : Nat} {t t' : SetTable} (ho : h.get? a = some o) (hd : o.data = .set es ep t) :
    (h.update a (Obj.putSet es' t')).get? a = some { o with data := .set es' (ep + 1) t' } := store_at ho hd
theorem size_of {es : Array (Int × Value)} {l : List (κ × Tok)} (e : es.toList = l.map D.ent) : es.size = l.length := by
  rw [← Array.length_toList, e, List.length_map]
theorem addG_tail {g : Bool → Sem Unit} (hg : ∀ (b : Bool) (u : Shared) (Z : Unit → Shared → Prop), Z () u → wpAny (model P w) A (g b) Z E u)
    {o : Obj} {es : Array (Int × Value)} {ep : Nat} {t : SetTable} (ho : s.heap.get? a = some o) (hex : o.ExactSet) (hd : o.data = .set es ep t)
    {e1 : Array (Int × Value)} {t2 : SetTable} {k1 : List (κ × Tok)} (he1 : e1.toList = k1.map D.ent) (nd1 : (k1.map (·.1)).Nodup) (hb1 : k1.length < scanBound)
    (hf2 : t2.fits e1.size = true) (hr : Ris t2.place.toList) (hl : w.params.followText "set-order" = true ∨ t2.led = true) {dm : Bool} {R : Option Bool → Shared → Prop}
    (hR : ∀ h2 k2, Heap.SameBut a s.heap h2 → k2.Perm k1 → SetG D h2 a k2 → R (some true) { s with heap := h2 }) :
    wpAny (model P w) A (do
        storeSet a e1 t2
        if (!dm && t2.tooFull) = true then do
            g (relayAll t2 e1 (SetTable.grown e1.size)).2.2
            storeSet a (relayAll t2 e1 (SetTable.grown e1.size)).1 (relayAll t2 e1 (SetTable.grown e1.size)).2.1
            pure (some true)
          else pure (some true)) R E s := by
  have z1 : e1.size < scanBound := by rw [size_of he1]; exact hb1
  refine wpAny_bind (wpAny_storeSet_of ho hd ?_ (fits_of_scanBound z1))
  have p1 := put_at (es' := e1) (t' := t2) ho hd
  have b1 := Heap.SameBut.update s.heap a (Obj.putSet e1 t2)
  split
  · have m1 := relayAll_perm t2 e1 (SetTable.grown e1.size)
    have m2 := relayAll_fits t2 e1 (SetTable.grown e1.size)
    have m3 := relayAll_ris t2 e1 (SetTable.grown e1.size)
    have m4 := relayAll_led t2 e1 (SetTable.grown e1.size)
    generalize relayAll t2 e1 (SetTable.grown e1.size) = Y at m1 m2 m3 m4 ⊢
    obtain ⟨e2, t3, gv⟩ := Y
    dsimp only at m1 m2 m3 m4 ⊢
    obtain ⟨k2, hk2, hp2⟩ := perm_of_map D.ent m1 k1 he1
    have z2 : e2.size < scanBound := by rw [size_of hk2, hp2.length_eq]; exact hb1
    refine wpAny_bind (hg _ _ _ (wpAny_bind (wpAny_storeSet_of p1 rfl ?_ (fits_of_scanBound z2))))
    refine wpAny_pure (hR _ k2 (b1.trans (Heap.SameBut.update _ a _)) hp2 ⟨⟨_, e2, _, t3, put_at (es' := e2) (t' := t3) p1 rfl, hex, rfl, hk2, m2, m3, ?_⟩, ?_, ?_⟩)
    · rcases hl with q | q
      · exact .inl q
      · exact .inr (by rw [m4]; exact q)
    · exact (hp2.map _).nodup_iff.mpr nd1
    · rw [hp2.length_eq]; exact hb1
  · exact wpAny_pure (hR _ k1 b1 (List.Perm.refl _) ⟨⟨_, e1, _, t2, p1, hex, rfl, he1, hf2, hr, hl⟩, nd1, hb1⟩)
theorem addG {k : κ} {tk : Tok} {Q : Bool → Shared → Prop} (R : SetG D s.heap a kt) (room : kt.length + 1 < scanBound)
    (hQ : ∀ b h2 k2, Heap.SameBut a s.heap h2 → SetG D h2 a k2 → (∀ j, j ∈ k2.map (·.1) ↔ j ∈ kt.map (·.1) ∨ j = k) → k2.length ≤ kt.length + 1 → Q b { s with heap := h2 }) :
    wpAny (model P w) A (setAddHashed a (D.val k tk) (D.knd.hash k)) Q E s := by
  obtain ⟨⟨o, es, ep, t, ho, hex, hd, hes, hf, hr, hl⟩, nd, few⟩ := id R
  have hkey : D.knd.is k (D.val k tk) = true := (D.is_val _ _ _).mpr rfl
  have hsc := D.sc k tk
  have hb : es.size < scanBound := by rw [size_of hes]; exact few
  have hel : ElemsOf D.knd es.toList := by rw [hes]; exact ents_ok kt
  unfold setAddHashed setAddHashedIn
  refine wpAny_holding (wpAny_bind (wpAny_setState_of ho hd hf ?_))
  dsimp only
  rw [byScan_of hsc hb hel, if_pos rfl]
  unfold setAddByScan
  refine wpAny_bind (wpAny_bind (wpAny_rule (wpAny_bind (wpAny_setScan_of hkey ho hd hf hel ?_))))
  cases hfi : List.findIdx? (fun e => D.knd.is k e.2) es.toList with
  | some j =>
    dsimp only
    obtain ⟨hj, pj, _⟩ := List.findIdx?_eq_some_iff_getElem.mp hfi
    have hmem : k ∈ kt.map (·.1) := (ents_mem (D := D) kt).mp ⟨es.toList[j], by rw [← hes]; exact List.getElem_mem hj, pj⟩
    refine wpAny_pure (wpAny_pure (hQ _ s.heap kt (Heap.SameBut.refl a s.heap) R (fun i => ⟨.inl, fun z => z.elim id fun e => e ▸ hmem⟩) (Nat.le_succ _)))
  | none =>
    dsimp only
    have hnk : k ∉ kt.map (·.1) := fun z => by
      obtain ⟨e, he, q⟩ := (ents_mem (D := D) kt).mpr z
      have c := List.findIdx?_eq_none_iff.mp hfi e (by rw [hes]; exact he)
      rw [q] at c
      cases c
    have hgw : ∀ (b : Bool) {u : Shared} {Z : Unit → Shared → Prop}, Z () u → wpAny (model P w) A (match b with | true => rule "set.scan.the-table-gave-way" | false => pure ()) Z E u :=
      fun b u Z q => by
        cases b
        · exact wpAny_pure q
        · exact wpAny_rule q
    have m1 := layNew_perm t es (D.knd.hash k) (D.val k tk)
    have m2 := layNew_fits t es (D.knd.hash k) (D.val k tk)
    have m3 := layNew_ris t es (D.knd.hash k) (D.val k tk) hr
    have m4 := layNew_led t es (D.knd.hash k) (D.val k tk)
    generalize layNew t es (D.knd.hash k) (D.val k tk) = Y at m1 m2 m3 m4 ⊢
    obtain ⟨e1, t1, dm, gv⟩ := Y
    dsimp only at m1 m2 m3 m4 ⊢
    rw [Array.toList_push, hes] at m1
    obtain ⟨k1, hk1, hp1⟩ := perm_of_map D.ent m1 (kt ++ [(k, tk)]) (by rw [List.map_append]; rfl)
    have pk : ∀ j, j ∈ k1.map (·.1) ↔ j ∈ kt.map (·.1) ∨ j = k := fun j => by
      rw [(hp1.map _).mem_iff, List.map_append, List.mem_append]
      simp
    have nd1 : (k1.map (·.1)).Nodup := by
      refine (hp1.map _).nodup_iff.mpr ?_
      rw [List.map_append]
      refine List.nodup_append.mpr ⟨nd, by simp, fun x hx y hy e => ?_⟩
      have hy2 : y = k := by simpa using hy
      exact hnk (by rw [← hy2, ← e]; exact hx)
    have ln1 : k1.length = kt.length + 1 := by rw [hp1.length_eq, List.length_append]; rfl
    have hled : w.params.followText "set-order" = true ∨ t1.led = true := hl.elim .inl fun z => .inr (by rw [m4]; exact z)
    have fin : ∀ h2 k2, Heap.SameBut a s.heap h2 → k2.Perm k1 → SetG D h2 a k2 → ∀ b, Q b { s with heap := h2 } := fun h2 k2 sb p r b =>
      hQ b h2 k2 sb r (fun j => by rw [(p.map _).mem_iff, pk]) (by rw [p.length_eq, ln1]; exact Nat.le_refl _)
    refine wpAny_bind (hgw _ ?_)
    split
    · refine wpAny_bind ?_
      rw [hashByValue_scannable 8 hsc]
      refine wpAny_pure ?_
      refine addG_tail ?_ ho hex hd hk1 nd1 (by rw [ln1]; exact room) ?_ ?_ ?_ fun h2 k2 sb p r => wpAny_pure (fin h2 k2 sb p r _)
      · exact fun b u Z q => hgw b q
      · first | (split <;> first | exact m2 | exact SetTable.fits_plain_off m2) | exact m2
      · first | (split <;> exact m3) | exact m3
      · first | (split <;> exact hled) | exact hled
    · refine wpAny_bind (wpAny_pure ?_)
      rw [if_pos rfl]
      exact addG_tail (fun b u Z q => hgw b q) ho hex hd hk1 nd1 (by rw [ln1]; exact room) m2 m3 hled fun h2 k2 sb p r => wpAny_pure (fin h2 k2 sb p r _)

/-! ### all members of a walk put in -/
theorem loopG {I : Addr} {fp wr : List Addr} {G : Array GenState → Array GenState → Prop} {n : Nat} {Pv : Nat → Value → Prop} {St : Nat → Shared → Prop} {R : Result → Shared → Prop}
    (W : WalksS P w A.in1 I fp wr G n Pv St) (S : Addr) (hS : S ∉ fp) (ks : List κ) (hn : n = ks.length) (hb : ks.length + 1 < scanBound) (hval : ∀ i v, Pv i v → ∃ k t, ks[i]? = some k ∧ v = D.val k t) :
    ∀ (r i : Nat) (u : Shared), n - i = r → i ≤ n → St i u → (∃ kt, SetG D u.heap S kt ∧ kt.length ≤ i ∧ ∀ j, j ∈ kt.map (·.1) ↔ j ∈ ks.take i) →
      (∀ u' kt, Moved (S :: wr) G u u' → SetG D u'.heap S kt → kt.length ≤ n → (∀ j, j ∈ kt.map (·.1) ↔ j ∈ ks) → R (.ok (.ret .none)) u') →
      codeAny (model P w) A (.builtin "set.update.loop" ⟨[.ref S, .ref I], []⟩) R u := by
  have hSw : S ∉ wr := fun z => hS (W.sub _ z)
  have hsub : ∀ b ∈ wr, b ∈ S :: wr := fun b z => List.mem_cons_of_mem _ z
  intro r
  induction r with
  | zero =>
    intro i u hr hi hst ⟨kt, g, hc, hm⟩ hR
    have hin : i = n := by omega
    subst hin
    refine codeAny_builtin F.entry_set_update_loop ?_
    rw [Around.under_plainId F.plain_set_update_loop _]
    refine wpAny_bind (m := pyNext (.ref I)) (W.done u _ _ hst fun u' mv => wpAny_pure (hR u' kt (mv.mono hsub) (g.moved fun o e => mv.heap S o hSw e) hc fun j => ?_))
    rw [hm j, List.take_of_length_le (Nat.le_of_eq hn.symm)]
  | succ r ih =>
    intro i u hr hi hst ⟨kt, g, hc, hm⟩ hR
    have hlt : i < n := by omega
    refine codeAny_builtin F.entry_set_update_loop ?_
    rw [Around.under_plainId F.plain_set_update_loop _]
    refine wpAny_bind (m := pyNext (.ref I)) (W.item i u _ _ hlt hst fun v u' hP hst' mv => ?_)
    obtain ⟨k, t, hk, rfl⟩ := hval i v hP
    have g' := g.moved fun o e => mv.heap S o hSw e
    refine wpAny_bind (m := holding [D.val k t] (setAdd S (D.val k t))) (wpAny_holding ?_)
    unfold setAdd
    refine wpAny_holding (wpAny_bind (D.knd.pyHash (k := k) ((D.is_val _ _ _).mpr rfl) ?_))
    refine addG (s := { u' with toks := u'.toks + 1 }) g' (by omega) fun b h2 k2 sb g2 m2 l2 => ?_
    have hm2 : ∀ j, j ∈ k2.map (·.1) ↔ j ∈ ks.take (i + 1) := fun j => by
      rw [m2 j, hm j, List.take_add_one, hk, List.mem_append]
      simp
    refine wpAny_pure ⟨plainId_quiet F.plain_set_update_loop _, ih (i + 1) _ (by omega) hlt (W.frame _ u' _ _ hst' (Nat.le_succ _) fun b hb o e => ?_) ⟨k2, g2, by omega, hm2⟩ fun u'' k3 mv2 g3 c3 m3 => ?_⟩
    · rw [sb.2 b (fun z : b = S => hS (by rw [← z]; exact hb))]; exact e
    · refine hR u'' k3 (Moved.trans W.gtrans ((mv.mono hsub).then_heap (Nat.le_succ _) fun b o hb e => ?_) mv2) g3 c3 m3
      rw [sb.2 b (fun z : b = S => hb (by rw [z]; exact List.mem_cons_self))]; exact e
/-- the empty set, just made -/
theorem freshG {h : Heap} {a : Addr} (ho : h.get? a = some { cls := .type "set", dict := none, data := .set #[] 0 (.fresh 0 0 (!w.params.followText "set-order")) }) : SetG D h a [] :=
  ⟨⟨_, #[], 0, _, ho, ⟨rfl, rfl, rfl⟩, rfl, rfl, (by rfl), List.Pairwise.nil, by
    show _ ∨ (!w.params.followText "set-order") = true
    cases w.params.followText "set-order"
    · exact .inr rfl
    · exact .inl rfl⟩, List.nodup_nil, (by show 0 < scanBound; decide)⟩
end
abbrev newSet (w : World) : Obj := { cls := .type "set", dict := none, data := .set #[] 0 (.fresh 0 0 (!w.params.followText "set-order")) }
section
variable {P : Program} {w : World} {κ : Type} [DecidableEq κ] {D : Kd P w κ} {A : Around} {E : Value → Shared → Prop} {s : Shared}
set_option maxHeartbeats 6400000 in
/-- set(xs), xs a list -/
theorem call_setG {l : Addr} {items : Array Value} (ks : List κ) {Q : Value → Shared → Prop} (hh : A.handled = none) (hl : s.heap.IsList l items) (hsz : items.size = ks.length)
    (hval : ∀ (i : Nat) (v : Value), items[i]? = some v → ∃ k t, ks[i]? = some k ∧ v = D.val k t) (hb : ks.length + 1 < scanBound)
    (h : ∀ (h' : Heap) (tk : Nat) (kt : List (κ × Tok)), SetG D h' s.heap.objs.size kt → kt.length ≤ ks.length → (∀ j, j ∈ kt.map (·.1) ↔ j ∈ ks) → (∀ b o, s.heap.get? b = some o → h'.get? b = some o) → Q (.ref s.heap.objs.size) { s with heap := h', toks := tk }) :
    wpAny (model P w) A (call (.type "set") [.ref l]) Q E s := by
  obtain ⟨c, tl, hmro⟩ := F.called_set.mro
  have k1 := F.called_set.made
  have k2 := F.called_set.sub
  refine wpAny_call (codeAny_of_tree (show wpAny _ _ (callAny (Value.type "set") _) _ _ _ from wpAny_pure ⟨Code.quiet_builtin _ (by decide +kernel), codeAny_builtin F.entry_type_call ?_⟩))
  rw [Around.under_plain (weight_type_call_type "set" [.ref l] []) rfl]
  have k3 := F.called_set.notType
  have k4 := F.called_set.canCreate
  have k5 := F.typeCall_set_1 (.ref l)
  repeat (any_goals (first | assumption | wp_step))
  refine codeAny_mono (code_set_led1 (.ref l) (E := E) (Q₁ := fun ob u => ob = .ref s.heap.objs.size ∧ u = { s with heap := s.heap.push (newSet w) }) ⟨rfl, rfl⟩) fun r u hr => ?_
  cases r with
  | error e => exact hr
  | ok fl =>
    cases fl with
    | ret ob =>
      obtain ⟨rfl, rfl⟩ := hr
      have n1 : (s.heap.push (newSet w)).get? s.heap.objs.size = some (newSet w) := Heap.get?_push_size _ rfl
      have n2 : Shared.TypeIs { s with heap := s.heap.push (newSet w) } (.ref s.heap.objs.size) "set" := ⟨_, n1, rfl⟩
      have n3 := F.called_set.init.lookup
      have n4 := F.called_set.init.bind (.ref s.heap.objs.size)
      repeat (any_goals (first | assumption | wp_step))
      refine codeAny_mono (codeAny_call_builtin (R := wants (fun r v => r = .none ∧ ∃ h' tk kt, v = { s with heap := h', toks := tk } ∧ SetG D h' s.heap.objs.size kt ∧ kt.length ≤ ks.length ∧ (∀ j, j ∈ kt.map (·.1) ↔ j ∈ ks) ∧
          (∀ b o, s.heap.get? b = some o → h'.get? b = some o)) E) F.called_set.init.plain F.entry_set_init (check_set_init_1 n2 ?_)) fun r₂ v hv => ?_
      · obtain ⟨ol, hol, hcl, nl, hdl⟩ := hl
        obtain ⟨oc, od, oda, osl⟩ := ol
        dsimp only at hcl hdl
        subst hcl
        subst hdl
        have hlS : l < s.heap.objs.size := Heap.lt_size hol
        have q1 : (s.heap.push (newSet w)).get? l = some { cls := .type "list", dict := od, data := .seq items nl, slots := osl } := Heap.get?_push_of_some _ hol
        have q2 : (s.heap.push (newSet w)).IsList l items := ⟨_, q1, rfl, nl, rfl⟩
        have q3 := F.sub_list_set
        have q4 := F.sub_list_frozenset
        have q5 : (Value.type "list" == Value.type "dict") = false := by decide
        unfold Builtin.«set.__init__» noKeywords Builtin.Frozenset.updateFrom
        generalize hPI : pyIter = PI
        wp_walk
        subst hPI
        have hz : (s.heap.push (newSet w)).objs.size = s.heap.objs.size + 1 := Heap.size_push ..
        have hne : l ≠ (s.heap.push (newSet w)).objs.size := by rw [hz]; exact Nat.ne_of_lt (Nat.lt_succ_of_lt hlS)
        have hfp : s.heap.objs.size ∉ [(s.heap.push (newSet w)).objs.size, l] := by
          rw [hz]
          intro z
          rcases List.mem_cons.mp z with z | z
          · exact Nat.ne_of_lt (Nat.lt_succ_self _) z
          · exact Nat.ne_of_gt hlS (List.mem_singleton.mp z)
        refine wpAny_pyIter_list q2 (wpAny_bind (wpAny_runValue ?_))
        refine loopG (D := D) ((Walks.list (by simp [hh]) _ l hne items).toS) s.heap.objs.size hfp ks hsz hb hval items.size 0 _ (by omega) (Nat.zero_le _) ⟨⟨_, Heap.get?_push_size _ rfl, rfl, rfl⟩, q2.push _⟩ ⟨[], freshG (Heap.get?_push_of_some _ n1), Nat.zero_le _, fun j => by simp⟩ fun u kt mv g c m => ?_
        obtain ⟨h', g2, d', tk', os'⟩ := u
        have eg : g2 = s.gens := mv.gens
        have ed : d' = s.drawn := mv.drawn
        have eo : os' = s.os := mv.os
        subst eg
        subst ed
        subst eo
        show wpAny _ _ _ _ _ _
        refine wpAny_pure (show wpAny _ _ (ret Value.none) _ _ _ from wpAny_pure ⟨rfl, h', tk', kt, rfl, g, by rw [← hsz]; exact c, m, fun b o e => ?_⟩)
        have hb0 : b < s.heap.objs.size := Heap.lt_size e
        refine mv.heap b o (fun z => ?_) (Heap.get?_push_of_some _ (Heap.get?_push_of_some _ e))
        rcases List.mem_cons.mp z with z | z
        · exact Nat.ne_of_lt hb0 z
        · have z2 := List.mem_singleton.mp z
          rw [hz] at z2
          exact Nat.ne_of_lt (Nat.lt_succ_of_lt hb0) z2
      · cases r₂ with
        | error e => exact hv
        | ok f2 =>
          cases f2 with
          | ret r =>
            obtain ⟨rfl, h', tk, kt, rfl, g, c, m, hk⟩ := hv
            repeat (any_goals (first | assumption | wp_step))
            exact h _ _ _ g c m hk
          | _ => exact hv.elim
    | _ => exact hr.elim
/-- how a new list of members is sorted in its place -/
def SortsBy (D : Kd P w κ) (ord : List κ → Prop) : Prop := ∀ {A : Around} {E : Value → Shared → Prop} {u : Shared} {l : Addr} {vs : List Value} {ks : List κ} {Q : Value → Shared → Prop},
  u.heap.get? l = some (seqObj "list" vs.toArray 0) → Vals (ks.map D.vv) vs → vs.length < 64 →
  (∀ (out : Array Value) (ys : List κ), Vals (ys.map D.vv) out.toList → ys.Perm ks → ord ys → Q .none { u with heap := sortedHeap u.heap l vs out }) →
  wpAny (model P w) A (call (.builtin "list.sort") [.ref l]) Q E u
theorem vals_ents (l : List (κ × Tok)) : Vals ((l.map (·.1)).map D.vv) (l.map fun p => D.val p.1 p.2) := by
  induction l with
  | nil => exact .nil
  | cons p r ih => exact .cons (D.rel _ _) ih
theorem perm_fst {l m : List (κ × Tok)} (p : l.Perm m) : (l.map (·.1)).Perm (m.map (·.1)) := p.map _
/-- sorted(a set) -/
theorem call_sortedG {a : Addr} {kt : List (κ × Tok)} {ord : List κ → Prop} {Q : Value → Shared → Prop} (srt : SortsBy D ord) (g : SetG D s.heap a kt) (hh : A.handled = none) (h64 : kt.length < 64)
    (hQ : ∀ s' p (out : Array Value) (c : Nat) (ys : List κ), (∀ b o, s.heap.get? b = some o → s'.heap.get? b = some o) → s'.gens = s.gens → s'.os = s.os → s.heap.objs.size ≤ p →
      s'.heap.get? p = some (seqObj "list" out c) → Vals (ys.map D.vv) out.toList → ys.Perm (kt.map (·.1)) → ord ys → Q (.ref p) s') :
    wpAny (model P w) A (call (.builtin "sorted") [.ref a]) Q E s := by
  obtain ⟨⟨o, es, ep, t, ho, hex, hd, hes, hf, hr, hl⟩, nd, few⟩ := g
  have hb : es.size < scanBound := by rw [size_of hes]; exact few
  refine Calls.call_function_entry kind_sorted plain_sorted entry_sorted (args_sorted1 _) ?_
  unfold Builtin.«sorted»
  refine wpAny_bind (m := checkCount "sorted" 1 1 _) (wpAny_pure (wpAny_bind (collect_set (A := A.in1) hh ⟨o, ho, hex.1, hd⟩ hf hb hr hl fun s1 vs k1 hz g1 o1 pm => ?_)))
  have pm2 : vs.Perm (kt.map fun p => D.val p.1 p.2) := by
    rw [hes, List.map_map] at pm
    exact pm
  obtain ⟨kv, e1, p1⟩ := perm_of_map _ pm2 kt rfl
  have hvl : vs.length = kt.length := by rw [pm2.length_eq, List.length_map]
  have hv : Vals ((kv.map (·.1)).map D.vv) vs := by rw [e1]; exact vals_ents kv
  refine wpAny_bind (wpAny_newList ?_ (by rw [hvl, sizeLine_eq]; omega))
  have n1 : (s1.heap.push (seqObj "list" vs.toArray 0)).get? s1.heap.objs.size = some (seqObj "list" vs.toArray 0) := Heap.get?_push_size _ rfl
  refine wpAny_bind (wpAny_holding (srt n1 hv (by rw [hvl]; exact h64) fun out ys a1 a2 a3 => ?_))
  obtain ⟨c, hc⟩ := sortedHeap_at (vs := vs) (out := out) n1
  refine wpAny_pure ⟨_, rfl, hQ _ s1.heap.objs.size out c ys (fun b u e => ?_) g1 o1 hz hc a1 (a2.trans (perm_fst p1)) a3⟩
  have q := k1 b u e
  have hlt := Heap.lt_size q
  refine Eq.trans (sortedHeap_old (Nat.ne_of_lt hlt) (by rw [size_push']; exact Nat.lt_succ_of_lt hlt)) (Heap.get?_push_of_some _ q)
theorem sorts_int : SortsBy (kdInt P w) (fun ns => ns.Pairwise (· ≤ ·)) := by
  intro A E u l vs ks Q ho hv h64 h
  have hi : IntsAre vs ks := hv.ints
  exact wpAny_call_entry slot_list_sort ⟨_, ho, rfl⟩ entry_list_sort (list_sort_tree ho hi h64 fun out ns' a1 a2 a3 => ⟨_, rfl, h out ns' (vals_of_ints a1) a2 a3⟩) (args_list_sort _)
theorem sorts_str : SortsBy (kdStr P w) (fun zs => sortedS zs = true) := by
  intro A E u l vs ks Q ho hv h64 h
  have hS : StrsAre vs ks := hv.strs
  refine wpAny_call_entry slot_list_sort ⟨_, ho, rfl⟩ entry_list_sort (list_sort_treeK strKind_oneLt ho hS.keysOf (fun a b r e => keyKind_strs (by rw [← e]; exact hS)) h64 fun st hp hs => ?_) (args_list_sort _)
  obtain ⟨ys, g1, g2, g3⟩ := sorted_out_str hS hp hs
  exact ⟨_, rfl, h _ ys (vals_of_strs g1) g2 g3⟩
end
/-! ### over the layer -/
def SetO2 {P : Program} {w : World} {κ : Type} [DecidableEq κ] (D : Kd P w κ) (a : Addr) (kt : List (κ × Tok)) : HO := .ext fun h => SetG D h a kt
section
variable {X : Cx} {κ : Type} [DecidableEq κ]
def rSetOf (K : PySem.W.Frag) {P : Program} {w : World} (D : Kd P w κ) : List V → Hp → VK → Prop := fun xs H Q => ∃ (l : Addr) (ks : List κ), xs = [.ref l] ∧ SqL K H l (ks.map D.vv) ∧ ks.length ≤ 1000 ∧
  ∀ (p : Addr) (kt : List (κ × Tok)), kt.length ≤ ks.length → (∀ j, j ∈ kt.map (·.1) ↔ j ∈ ks) → (kt.map (·.1)).Nodup → H p = none → Q (.ref p) (upd H p (SetO2 D p kt))
theorem cr_setOf (D : Kd X.prog X.w κ) (hc : X.calm = true) : CallR X (.type "set") (rSetOf X.K D) := by
  intro pins s σ H vs us Q I r h
  obtain ⟨l, ks, rfl, hs, hn, q⟩ := h
  obtain ⟨its, rv, hl, _⟩ := I.list hs
  rw [Vals.ref1 r]
  have hlen := rv.length
  rw [List.length_map] at hlen
  refine call_setG (D := D) ks (I.ok.hd hc) hl.isList (by simpa using hlen.symm) (fun i v hv => ?_) (by unfold scanBound; omega) fun h' tk kt g c m k => ?_
  · have hv2 : its[i]? = some v := by simpa using hv
    have hi : i < ks.length := by
      rw [hlen]
      exact (List.getElem?_eq_some_iff.mp hv2).1
    obtain ⟨u, h1, h2⟩ := rv.get (i := i) (x := D.vv ks[i]) (by rw [List.getElem?_map, List.getElem?_eq_getElem hi]; rfl)
    rw [hv2] at h1
    obtain ⟨t, e⟩ := D.get _ _ h2
    exact ⟨ks[i], t, List.getElem?_eq_getElem hi, by rw [Option.some.inj h1]; exact e⟩
  · obtain ⟨o, es, ep, t, ho, _⟩ := g.ex
    have hnew : H s.heap.objs.size = none := I.hok.fresh (Nat.le_refl _)
    refine ⟨.ref s.heap.objs.size, upd H s.heap.objs.size (SetO2 D s.heap.objs.size kt), I.laid (t' := tk) k (Nat.le_refl _) ⟨g, ⟨o, ho⟩, fun h1 h2 r k2 => r.moved k2⟩, rfl, q _ kt c m g.nd hnew⟩
def rSortedG {P : Program} {w : World} (D : Kd P w κ) (ord : List κ → Prop) : List V → Hp → VK → Prop := fun vs H Q => ∃ (a : Addr) (kt : List (κ × Tok)), vs = [.ref a] ∧ H a = some (SetO2 D a kt) ∧ kt.length < 64 ∧
  ∀ (ys : List κ) (p : Addr), ys.Perm (kt.map (·.1)) → ord ys → H p = none → Q (.ref p) (upd H p (.lst (ys.map D.vv)))
theorem cr_sortedG {D : Kd X.prog X.w κ} {ord : List κ → Prop} (srt : SortsBy D ord) (hc : X.calm = true) : CallR X (.builtin "sorted") (rSortedG D ord) := by
  intro pins s σ H vs us Q I r h
  obtain ⟨a, kt, rfl, ha, h64, q⟩ := h
  have g : SetG D s.heap a kt := (I.hok a _ ha).1
  rw [Vals.ref1 r]
  refine call_sortedG srt g (I.ok.hd hc) h64 fun s' p out c ys k eg eo hp hg hv hpm ho => ?_
  have hlen : (ys.map D.vv).length ≤ sizeLine := by
    rw [List.length_map, hpm.length_eq, List.length_map]
    exact small (by omega)
  have hn : H p = none := I.hok.fresh hp
  have J : Inv X pins σ (upd H p (.lst (ys.map D.vv))) { s with heap := s'.heap, gens := s'.gens, drawn := s'.drawn, toks := s'.toks } :=
    I.call (ch := []) (Un.laid k hp hn) (I.hok.laid k hp ⟨hlen, out.toList, c, hv, hg⟩) (by rw [eg]; exact I.bare) (fun _ z => nomatch z)
  have e : s' = { s with heap := s'.heap, gens := s'.gens, drawn := s'.drawn, toks := s'.toks } := by
    cases s'
    cases s
    cases eo
    rfl
  rw [e]
  exact ⟨.ref p, _, J, rfl, q ys p hpm ho hn⟩
end
end Fv
set_option Elab.async false
set_option linter.all false
set_option maxRecDepth 100000
set_option maxHeartbeats 2000000
namespace Fv
open PySem L2 TL
/-- a comprehension whose element leaves the heap as it was -/
theorem lc_pure {J : It} {n s : Nat} {te : TE} {vs : List Nat} {σ : St} {H1 : Hp} {D : Addr} {Qd : Hp → Prop} (x f : Nat → V)
    (w : Walk J n (fun _ => True) (fun i H v H' => H' = H ∧ v = x i)) (hw : ∀ v, wipe ((wipe σ vs).set s (some v)) vs = wipe σ vs) (hn : n ≤ 10000)
    (he : ∀ i (Q : VK), i < n → Q (f i) (upd H1 D (.lst ((List.range i).map f))) → te ((wipe σ vs).set s (some (x i))) (upd H1 D (.lst ((List.range i).map f))) Q)
    (hd : Qd (upd H1 D (.lst ((List.range n).map f)))) :
    ∃ W : Nat → Nat → Hp → Prop, (∃ m, W 0 m (upd H1 D (.lst []))) ∧ ∀ i m H, W i m H →
      (J.stop i H ∧ Qd H) ∨ (J.go i H ∧ ∃ Nx : Hp → Prop, (∀ H', Nx H' → ∃ m', m' < m ∧ W (i + 1) m' H') ∧ ∀ x H', J.yld i H x H' → gName s x (wipe σ vs) H' fun σ2 H2 => wipe σ2 vs = wipe σ vs ∧ tYes σ2 H2 fun b H3 =>
        if b = true then te σ2 H3 fun y H4 => ∃ acc, H4 D = some (.lst acc) ∧ acc.length < sizeLine ∧ Nx (upd H4 D (.lst (acc ++ [y]))) else Nx H3) := by
  refine lc_it w (fun i H => H = upd H1 D (.lst ((List.range i).map f))) rfl (fun _ _ _ _ => trivial) (fun i v H H' hi p y => ?_) (fun H p => by rw [p]; exact hd)
  obtain ⟨rfl, rfl⟩ := y
  subst p
  refine ⟨hw _, ?_⟩
  simp only [tYes, ↓reduceIte]
  refine he i _ hi ⟨_, upd_same, ?_, ?_⟩
  · rw [List.length_map, List.length_range, sizeLine_eq]
    omega
  · rw [upd_upd, List.range_succ, List.map_append] <;> rfl
/-- the i-th sign of a text -/
def signV (z : Str) (i : Nat) : V := .str ⟨#[z.cps.toList.getD i 0]⟩
theorem walk_text {z : Str} : Walk (Its z) z.length (fun _ => True) (fun i H v H' => H' = H ∧ v = signV z i) :=
  ⟨fun _ _ hi _ => hi, fun _ _ => Nat.le_refl _, fun i H v H' hi _ y => by
    obtain ⟨e, c, h1, h2⟩ := y
    refine ⟨e, ?_⟩
    rw [h2]
    unfold signV
    have h3 : z.cps.toList[i]? = some c := by rw [Array.getElem?_toList]; exact h1
    rw [List.getD_eq_getElem?_getD, h3]
    rfl⟩
theorem map_signs {β : Type} (z : Str) (g : Nat → β) : (List.range z.length).map (fun i => g (z.cps.toList.getD i 0)) = (tl z).map g := by
  apply List.ext_getElem
  · rw [List.length_map, List.length_range, List.length_map, len_tl]
  · intro i h1 h2
    rw [List.getElem_map, List.getElem_map, List.getElem_range]
    rw [List.length_map] at h2
    congr 1
    rw [List.getD_eq_getElem?_getD, List.getElem?_eq_getElem h2]
    rfl
/-! ### is_of_letters -/
abbrev alpha : Str := "abcdefghijklmnopqrstuvwxyz"
theorem tl_alpha : tl alpha = (List.range 26).map (· + 97) := by decide +kernel
abbrev s_is_of_letters : Stmt := top 22
abbrev sc_is_of_lettersN : List Str := ["word", "sign"]
theorem sc_is_of_letters : FnScope sc_is_of_lettersN ["word"] (defScope s_is_of_letters) := ⟨rfl, rfl, rfl, by decide +kernel, rfl, by decide +kernel, by decide +kernel⟩
/-- the constants of parsing -/
structure Consts (K : PySem.W.Frag) (mg : Str → Option Value) : Prop where
  alpha : ∃ t, mg "ALPHABET" = some (.str alpha t)
  mostCells : ∃ t, mg "MOST_CELLS" = some (.int 2 t)
  mostParts : ∃ t, mg "MOST_PARTS" = some (.int 2 t)
  mostStatements : ∃ t, mg "MOST_STATEMENTS" = some (.int 20 t)
  mostBodies : ∃ t, mg "MOST_BODIES" = some (.int 4 t)
  longest : ∃ t, mg "LONGEST_NAME" = some (.int 8 t)
  all : mg "all" = none
  sorted : mg "sorted" = none
  set : mg "set" = none
/-- a def of a text that answers, all else as it was -/
def spText1 (f : Str → Bool) : Sp := fun vs H Q _ => ∃ z : Str, vs = [.str z] ∧ z.length ≤ 1000 ∧ ∀ H', Same H H' → Q (.bl (f z)) H'
def ofLetters (z : Str) : Bool := (tl z).all fun c => decide (c ∈ tl alpha)
section
variable {P : Program} {w : World} {K : PySem.W.Frag} {mg : Str → Option Value} {base : Heap}
theorem ok_is_of_letters {f : Addr} {fd : FuncData} (F : Fun K "is_of_letters" "is_of_letters" s_is_of_letters f fd) (T : Consts K mg) : FnOk P w K mg base CX0 1 f fd ["word"] (spText1 ofLetters) := by
  refine F.ok sc_is_of_letters (fun vs H Q E h => ?_) (fun cdv A outer st H vs Q E hr h => ?_)
  · obtain ⟨z, rfl, _⟩ := h
    rfl
  obtain ⟨z, rfl, hz, q⟩ := h
  obtain ⟨ta, hal⟩ := T.alpha
  refine ⟨_, (pss_one (ps_ret (pe_callB (cr_all rfl) (by rfl) T.all (by decide +kernel) (pa_cons (pe_lc (own := [("sign", 1)]) (g := gName 1) rfl sc_is_of_letters.nd (pi_str (pv 0)) (blkOk_by (N := sc_is_of_lettersN) (sc := defScope s_is_of_letters) (by decide +kernel)) (fun _ _ _ _ _ => pg_name (i := 1) sc_is_of_letters.nd rfl (Or.inl rfl)) (fun _ _ _ _ _ => pts_nil) (fun _ _ _ _ _ => (pe_cmpR op_in_sign (pv 1) (pe_glob (v := .str alpha) rfl hal ⟨_, rfl⟩) (by rfl)))) pa_nil)))), ?_⟩
  refine ⟨_, rfl, z, rfl, fun D hD => lc_pure (signV z) (fun i => V.bl (decide (z.cps.toList.getD i 0 ∈ alpha.cps.toList))) walk_text (fun _ => rfl) (by omega) (fun i Q' hi k => ?_) ?_⟩
  · exact ⟨_, rfl, _, alpha, rfl, rfl, k⟩
  · refine ⟨D, (tl z).map (fun c => decide (c ∈ alpha.cps.toList)), rfl, .inl (.inl ?_), ?_⟩
    · rw [upd_same, List.map_map, ← map_signs]
      rfl
    · have e : ((tl z).map (fun c => decide (c ∈ alpha.cps.toList))).all id = ofLetters z := by
        unfold ofLetters
        rw [List.all_map]
        rfl
      rw [e]
      exact q _ (same_new hD _)
end
end Fv
set_option Elab.async false
set_option linter.all false
set_option maxRecDepth 100000
set_option maxHeartbeats 2000000
namespace Fv
open PySem L2 TL
/-! ### data -/
theorem dp_ints {K : PySem.W.Frag} {H : Hp} : ∀ ns : List Int, DpAll K H (ns.map V.int) (ns.map PyData.int)
  | [] => .nil
  | n :: r => .cons (.int n) (dp_ints r)
theorem dp_strs {K : PySem.W.Frag} {H : Hp} : ∀ zs : List Str, DpAll K H (zs.map V.str) (zs.map PyData.str)
  | [] => .nil
  | n :: r => .cons (.str n) (dp_strs r)
theorem lay_ints : ∀ ns : List Int, PyData.canLayAll0 (ns.map PyData.int) = true ∧ PyData.depthAll (ns.map PyData.int) = 0
  | [] => ⟨rfl, rfl⟩
  | n :: r => by
    obtain ⟨h1, h2⟩ := lay_ints r
    refine ⟨?_, ?_⟩
    · show (true && PyData.canLayAll0 (r.map PyData.int)) = true
      rw [h1]; rfl
    · show max 0 (PyData.depthAll (r.map PyData.int)) = 0
      rw [h2]; rfl
theorem eqv_ints : ∀ a b : List Int, PyData.eqvAll (a.map PyData.int) (b.map PyData.int) = decide (a = b)
  | [], [] => rfl
  | [], _ :: _ => rfl
  | _ :: _, [] => rfl
  | x :: r, y :: s => by
    show ((x == y) && PyData.eqvAll (r.map PyData.int) (s.map PyData.int)) = _
    rw [eqv_ints r s]
    by_cases e : x = y
    · subst e
      simp
    · simp [e]
theorem eqv_strs : ∀ a b : List Str, PyData.eqvAll (a.map PyData.str) (b.map PyData.str) = decide (a = b)
  | [], [] => rfl
  | [], _ :: _ => rfl
  | _ :: _, [] => rfl
  | x :: r, y :: s => by
    show ((x == y) && PyData.eqvAll (r.map PyData.str) (s.map PyData.str)) = _
    rw [eqv_strs r s]
    by_cases e : x = y
    · subst e
      simp
    · simp [e]
/-! ### is_in_order -/
abbrev s_is_in_order : Stmt := top 40
abbrev sc_is_in_orderN : List Str := ["word", "order", "places", "sign"]
theorem sc_is_in_order : FnScope sc_is_in_orderN ["word", "order"] (defScope s_is_in_order) := ⟨rfl, rfl, rfl, by decide +kernel, rfl, by decide +kernel, by decide +kernel⟩
def places (z o : Str) : List Int := (tl z).map fun c => Txt.find o ⟨#[c]⟩
/-- the signs of z are signs of o, in o's order -/
structure InOrder (z o : Str) : Prop where
  up : (places z o).Pairwise (· < ·)
  on : ∀ x ∈ places z o, 0 ≤ x
def spOrder : Sp := fun vs H Q _ => ∃ z o : Str, vs = [.str z, .str o] ∧ z.length < 60 ∧ InOrder z o ∧ ∀ H', Same H H' → Q (.bl true) H'
theorem inV_int (x : Int) (xs : List Int) : inV (.int x) (xs.map V.int) = decide (x ∈ xs) := by
  unfold inV
  rw [List.any_map]
  induction xs with
  | nil => rfl
  | cons y r ih =>
    rw [List.any_cons, ih]
    show ((y == x) || decide (x ∈ r)) = decide (x ∈ y :: r)
    by_cases e : x = y
    · subst e
      simp
    · have e' : (y == x) = false := beq_eq_false_iff_ne.mpr (Ne.symm e)
      rw [e', Bool.false_or]
      simp [e]
theorem flatI (xs : List Int) : (xs.map V.int).all flatV = true := by
  induction xs with
  | nil => rfl
  | cons y r ih => exact ih
theorem up_unique {a b : List Int} (ha : a.Pairwise (· ≤ ·)) (hb : b.Pairwise (· < ·)) (h : ∀ j, j ∈ a ↔ j ∈ b) (hn : a.Nodup) : a = b := by
  have hb1 : b.Pairwise (· ≤ ·) := hb.imp Int.le_of_lt
  have hb2 : b.Nodup := hb.imp Int.ne_of_lt
  have p : a.Perm b := (List.perm_ext_iff_of_nodup hn hb2).mpr h
  exact p.eq_of_pairwise (fun x y _ _ h1 h2 => Int.le_antisymm h1 h2) ha hb1
section
variable {P : Program} {w : World} {K : PySem.W.Frag} {mg : Str → Option Value} {base : Heap}
theorem ok_is_in_order {f : Addr} {fd : FuncData} (F : Fun K "is_in_order" "is_in_order" s_is_in_order f fd) (T : Consts K mg) : FnOk P w K mg base CX0 1 f fd ["word", "order"] spOrder := by
  refine F.ok sc_is_in_order (fun vs H Q E h => ?_) (fun cdv A outer st H vs Q E hr h => ?_)
  · obtain ⟨z, o, rfl, _⟩ := h
    rfl
  obtain ⟨z, o, rfl, hz, hO, q⟩ := h
  refine ⟨_, (pss_cons (ps_setLc (i := 2) (own := [("sign", 3)]) (g := gName 3) rfl sc_is_in_order.nd rfl rfl (sw_true rfl rfl rfl (by decide +kernel)) (pi_str (pv 0)) (blkOk_by (N := sc_is_in_orderN) (sc := defScope s_is_in_order) (by decide +kernel)) (fun _ _ _ _ _ => pg_name (i := 3) sc_is_in_order.nd rfl (Or.inl rfl)) (fun _ _ _ _ _ => pts_nil) (fun _ _ _ _ _ => (pe_m1 PySem.F.slot_str_find PySem.F.type_str_find mt_find (pv 1) (pv 3))))
(pss_one (ps_ret (pe_and (pe_cmpR op_notIn_seq (pe_un un_neg pe_int) (pv 2) (by rfl)) (pe_one (pe_cmpR (op_eqD hr.units) (pe_callB (cr_sortedG sorts_int rfl) (by rfl) T.sorted (by decide +kernel) (pa_cons (pe_callTy (cr_setOf (kdInt _ _) rfl) (by rfl) T.set (by decide +kernel) (pa_cons (pv 2) pa_nil)) pa_nil)) (pv 2) (nomark _))))))), ?_⟩
  refine ⟨_, rfl, z, rfl, fun D hD => lc_pure (signV z) (fun i => V.int (Txt.find o ⟨#[z.cps.toList.getD i 0]⟩)) walk_text (fun _ => rfl) (by omega) (fun i Q' hi k => ?_) ?_⟩
  · exact ⟨_, rfl, ⟨_, rfl⟩, _, rfl, _, _, rfl, rfl, k⟩
  · have eD : (List.range z.length).map (fun i => V.int (Txt.find o ⟨#[z.cps.toList.getD i 0]⟩)) = (places z o).map V.int := by
      unfold places
      rw [List.map_map]
      exact map_signs z fun c => V.int (Txt.find o ⟨#[c]⟩)
    rw [eD]
    have hS : SqL K (upd H D (.lst ((places z o).map V.int))) D ((places z o).map V.int) := .inl (.inl upd_same)
    have ln : (places z o).length = z.length := by unfold places; rw [List.length_map, len_tl]
    refine ⟨1, rfl, _, rfl, D, _, rfl, .inl hS, rfl, flatI _, ?_⟩
    have e1 : inV (.int (-1)) ((places z o).map V.int) = false := by
      rw [inV_int]
      exact decide_eq_false fun m => by
        have := hO.on _ m
        omega
    show ∃ c, V.bl (!inV (.int (-1)) ((places z o).map V.int)) = .bl c ∧ _
    rw [e1]
    refine ⟨true, rfl, iteT ?_⟩
    refine ⟨_, rfl, D, places z o, rfl, hS, by omega, fun p kt h1 h2 h3 hp => ?_⟩
    have npD : D ≠ p := ne_of_none upd_same hp
    refine ⟨p, kt, rfl, upd_same, by omega, fun ys p2 h4 h5 hp2 => ?_⟩
    have e2 : ys = places z o := up_unique h5 hO.up (fun j => by rw [h4.mem_iff, h2]) (h4.nodup_iff.mpr h3)
    have nD2 : D ≠ p2 := ne_of_none (by rw [upd_ne npD]; exact upd_same) hp2
    have hS2 : SqL K (upd (upd (upd H D (.lst ((places z o).map V.int))) p (SetO2 (kdInt P w) p kt)) p2 (.lst (ys.map V.int))) D ((places z o).map V.int) := .inl (.inl (by rw [upd_ne nD2, upd_ne npD]; exact upd_same))
    refine ⟨_, rfl, .list (ys.map .int), .list ((places z o).map .int), .lst (.inl (.inl upd_same)) (dp_ints ys), .lst hS2 (dp_ints _), ?_, ?_, ?_⟩
    · unfold SeqAt.shaped
      rw [Bool.and_eq_true]
      exact ⟨(lay_ints ys).1, decide_eq_true (by show PyData.depthAll (ys.map PyData.int) + 1 ≤ 64; rw [(lay_ints ys).2]; decide)⟩
    · unfold SeqAt.shaped
      rw [Bool.and_eq_true]
      exact ⟨(lay_ints _).1, decide_eq_true (by show PyData.depthAll ((places z o).map PyData.int) + 1 ≤ 64; rw [(lay_ints _).2]; decide)⟩
    · show Q (.bl (PyData.eqvAll (ys.map PyData.int) ((places z o).map PyData.int))) _
      rw [eqv_ints, e2, decide_eq_true rfl]
      refine q _ ?_
      exact ((same_new hD _).trans (same_new hp _)).trans (same_new hp2 _)
end
end Fv
set_option Elab.async false
set_option linter.all false
set_option maxRecDepth 100000
set_option maxHeartbeats 2000000
namespace Fv
open PySem L2 TL
abbrev NV := List (Str × Nat)
def kvS (l : NV) : List (Key × V) := l.map fun x => ((Sum.inr x.1 : Key), V.int (x.2 : Int))
def numS (n : Nat) : Str := Str.ofString (toString (n : Int))
theorem nodup_at {l : NV} (h : (l.map (·.1)).Nodup) {i j : Nat} {x y : Str × Nat} (hi : l[i]? = some x) (hj : l[j]? = some y) (e : x.1 = y.1) : i = j := by
  have h1 : (l.map (·.1))[i]? = some x.1 := by rw [List.getElem?_map, hi]; rfl
  have h2 : (l.map (·.1))[j]? = some x.1 := by rw [List.getElem?_map, hj, e]; rfl
  exact nd_ix h h1 h2
theorem valV_kvS : ∀ {l : NV} {i : Nat} {x : Str × Nat}, (l.map (·.1)).Nodup → l[i]? = some x → valV (kvS l) (Sum.inr x.1) = some (.int (x.2 : Int))
  | [], i, x, _, h => by simp at h
  | y :: r, 0, x, _, h => by
    have e : y = x := Option.some.inj h
    subst e
    unfold valV kvS
    rw [List.map_cons, List.find?_cons_of_pos (by simp)]
    rfl
  | y :: r, i + 1, x, nd, h => by
    have hx : r[i]? = some x := h
    have hne : y.1 ≠ x.1 := fun e => by
      have := nodup_at nd (i := 0) (j := i + 1) rfl h e
      omega
    have ih := valV_kvS (l := r) (List.nodup_cons.mp nd).2 hx
    unfold valV kvS at ih ⊢
    rw [List.map_cons, List.find?_cons_of_neg (by simpa using hne)]
    exact ih
theorem kvS_get {l : NV} {i : Nat} {x : Str × Nat} (h : l[i]? = some x) : ((kvS l).map fun kv => kV kv.1)[i]? = some (.str x.1) := by
  unfold kvS
  rw [List.map_map, List.getElem?_map, h]
  rfl
theorem kvS_flat (l : NV) : ((kvS l).map fun kv => kV kv.1).all flatV = true := by
  unfold kvS
  rw [List.map_map, List.all_map]
  exact List.all_eq_true.mpr fun _ _ => rfl
/-- the parser with its cells and parts -/
structure PIn (C : Addr) (H : Hp) (p l m s t : Addr) (n : Int) (sy : Str) (fi : Int) (ms ss : NV) : Prop where
  ob : PAt C H p l m s t n sy fi
  mo : H m = some (.dK (kvS ms))
  st : H s = some (.dK (kvS ss))
  nm : (ms.map (·.1)).Nodup
  ns : (ss.map (·.1)).Nodup
theorem PIn.same {C : Addr} {H H' : Hp} {p l m s t : Addr} {n : Int} {sy : Str} {fi : Int} {ms ss : NV} (h : PIn C H p l m s t n sy fi ms ss) (e : Same H H') : PIn C H' p l m s t n sy fi ms ss := by
  obtain ⟨⟨dx, h1⟩, h2, h3, h4, h5⟩ := h
  exact ⟨⟨dx, e _ _ h1⟩, e _ _ h2, e _ _ h3, h4, h5⟩
/-- more constants -/
structure Consts2 (K : PySem.W.Frag) (mg : Str → Option Value) : Prop where
  values : ∃ a, mg "VALUES" = some (.ref a) ∧ ∀ H, SqT K H a [.str "0", .str "1", .str "2"]
  bare : ∃ a, mg "BARE_WORDS" = some (.ref a) ∧ ∀ H, SqT K H a [.str "right", .str "left", .str "copy", .str "stop"]
  words : ∃ a, mg "WORDS" = some (.ref a) ∧ ∀ H, SqT K H a (["symbols", "cell", "part", "main", "right", "left", "write", "copy", "set", "add", "if", "else", "while", "do", "stop", "at", "not"].map fun z => V.str (Str.ofString z))
abbrev s_Parser_setting_by : Stmt := inClass (top 41) 11
abbrev sc_Parser_setting_byN : List Str := ["self", "words", "name", "value"]
theorem sc_Parser_setting_by : FnScope sc_Parser_setting_byN ["self", "words"] (defScope s_Parser_setting_by) := ⟨rfl, rfl, rfl, by decide +kernel, rfl, by decide +kernel, by decide +kernel⟩
def spSetting (K : PySem.W.Frag) (C : Addr) : Sp := fun vs H Q _ => ∃ (p l m s t a : Addr) (n : Int) (sy : Str) (fi : Int) (ms ss : NV) (c : Str) (i v most : Nat), vs = [.ref p, .ref a] ∧ PIn C H p l m s t n sy fi ms ss ∧ SqL K H a [.str c, .str (numS v)] ∧
  ms[i]? = some (c, most) ∧ v ≤ most ∧ most ≤ 2 ∧ ∀ (b : Addr) (H' : Hp), Same H H' → H b = none → H' b = some (.tup [.int (i : Int), .int (v : Int)]) → Q (.ref b) H'
theorem num_in {v most : Nat} (h : v ≤ most) (h2 : most ≤ 2) : inV (.str (numS v)) (cutV [.str "0", .str "1", .str "2"] none (some ((most : Int) + 1))) = true := by
  have hc : most = 0 ∨ most = 1 ∨ most = 2 := by omega
  have hd : v = 0 ∨ v = 1 ∨ v = 2 := by omega
  rcases hc with rfl | rfl | rfl <;> rcases hd with rfl | rfl | rfl <;> first | omega | decide +kernel
theorem num_in3 {v : Nat} (h : v ≤ 2) : inV (.str (numS v)) [.str "0", .str "1", .str "2"] = true := by
  have hd : v = 0 ∨ v = 1 ∨ v = 2 := by omega
  rcases hd with rfl | rfl | rfl <;> decide +kernel
theorem num_int {v : Nat} (h : v ≤ 2) : intText? (numS v) = some (v : Int) ∧ (numS v).length ≤ 640 := by
  have hd : v = 0 ∨ v = 1 ∨ v = 2 := by omega
  rcases hd with rfl | rfl | rfl <;> decide +kernel
section
variable {P : Program} {w : World} {K : PySem.W.Frag} {mg : Str → Option Value} {base : Heap}
theorem ok_setting_by {f C : Addr} {fd : FuncData} (F : Fun K "setting_by" "Parser.setting_by" s_Parser_setting_by f fd) (T : Bare mg) (T2 : Consts2 K mg) (TP : PTxt K C) : FnOk P w K mg base CX0 1 f fd ["self", "words"] (spSetting K C) := by
  refine F.ok sc_Parser_setting_by (fun vs H Q E h => ?_) (fun cdv A outer st H vs Q E hr h => ?_)
  · obtain ⟨p, l, m, s, t, a, n, sy, fi, ms, ss, c, i, v, most, rfl, _⟩ := h
    rfl
  obtain ⟨p, l, m, s, t, a, n, sy, fi, ms, ss, c, i, v, most, rfl, I, hS, hm, hv, h2, q⟩ := h
  obtain ⟨⟨dx, hp⟩, mo, hst, nm, ns⟩ := id I
  have hu := hu_of hr
  obtain ⟨aV, gV, sV⟩ := T2.values
  refine ⟨_, (pss_cons (ps_if (PW.pt (pw_or (pt_cmpR op_ne (pe_callB call_len_seq (by rfl) T.len PySem.boot_len (pa_cons (pv 1) pa_nil)) pe_int (nomark _)) (pw_or1 (pt_cmp (pc_dnotin hu (pe_ix ix_list (pv 1) pe_int (fun _ _ => rfl)) (pe_fld (pv 0) rfl))))))
(pss_one (ps_ret pe_non))
pss_nil)
(pss_cons (ps_asg (pv 1) (pg_unl (n := 2) rfl (pgs_cons (pg_name (i := 2) sc_Parser_setting_by.nd rfl (Or.inl rfl)) (pgs_cons (pg_name (i := 3) sc_Parser_setting_by.nd rfl (Or.inl rfl)) pgs_nil))))
(pss_cons (ps_if (pt_cmpR op_notIn_seq (pv 3) (pe_slice sl_tupA (pe_glob (v := .ref aV) rfl gV rfl) po_none (po_some (pe_op op_add (pe_dget hu (pe_fld (pv 0) rfl) (pv 2) (fun _ _ => rfl)) pe_int))) (by rfl))
(pss_one (ps_ret pe_non))
pss_nil)
(pss_one (ps_ret (pe_tup (pa_cons (pe_bm PySem.F.plainAttrs_list PySem.F.slot_list_index PySem.F.type_list_index mt_index (pe_callTy (call_list_dK rfl) (by rfl) T.list (by decide +kernel) (pa_cons (pe_fld (pv 0) rfl) pa_nil)) (pa_cons (pv 2) pa_nil)) (pa_cons (pe_callTy call_int_str (by rfl) T.int (by decide +kernel) (pa_cons (pv 3) pa_nil)) pa_nil)))))))), ?_⟩
  have hval := valV_kvS nm hm
  refine ⟨_, rfl, a, _, rfl, .inl hS, rfl, _, rfl, iteF ?_⟩
  refine ⟨_, rfl, a, _, 0, _, rfl, rfl, hS, rfl, _, rfl, p, C, dx, _, _, rfl, hp, TP.cl, TP.nMosts, pf_mosts, m, _, rfl, DGet.k (k := Sum.inr c) mo, _, rfl, ?_⟩
  rw [hval]
  refine iteF ?_
  refine ⟨_, rfl, a, _, rfl, hS, rfl, _, _, rfl, _, _, rfl, rfl, ?_⟩
  refine ⟨_, rfl, _, rfl, p, C, dx, _, _, rfl, hp, TP.cl, TP.nMosts, pf_mosts, _, rfl, m, .int (most : Int), rfl, ?_, ?_⟩
  · exact .inl ⟨_, Sum.inr c, .inl mo, rfl, hval.symm⟩
  have v2 : v ≤ 2 := Nat.le_trans hv h2
  have hidx : ∀ (j : Nat) (z' : V), j < i → ((kvS ms).map fun kv => kV kv.1)[j]? = some z' → eqV z' (.str c) = false := fun j z' hj hz => by
    have hjl : j < ms.length := by
      have := (List.getElem?_eq_some_iff.mp hz).1
      unfold kvS at this
      rw [List.length_map, List.length_map] at this
      exact this
    have e1 := kvS_get (List.getElem?_eq_getElem hjl)
    rw [hz] at e1
    have e2 := Option.some.inj e1
    subst e2
    show ((ms[j]).1 == c) = false
    refine beq_eq_false_iff_ne.mpr fun e => ?_
    have := nodup_at nm (List.getElem?_eq_getElem hjl) hm e
    omega
  refine ⟨_, _, rfl, rfl, _, rfl, aV, _, rfl, sV _, fun _ => ?_, fun _ b hb => ?_⟩
  · refine ⟨aV, _, rfl, .inr (sV _), rfl, rfl, _, rfl, ?_⟩
    rw [num_in3 v2]
    refine iteF ?_
    refine ⟨_, rfl, p, C, dx, _, _, rfl, hp, TP.cl, TP.nMosts, pf_mosts, m, _, rfl, mo, fun L hL => ?_⟩
    have s1 := same_new hL (.lst ((kvS ms).map fun kv => kV kv.1))
    refine ⟨.inl ⟨rfl, _, .inl (.inl upd_same)⟩, _, rfl, L, _, _, i, _, rfl, rfl, .inl (.inl upd_same), rfl, kvS_flat ms, kvS_get hm, beq_self_eq_true _, hidx, ?_⟩
    refine ⟨_, rfl, _, _, rfl, (num_int v2).1, (num_int v2).2, small (by show 2 ≤ 1000; decide), fun b hb => ?_⟩
    exact q b _ (s1.trans (same_new hb _)) (s1.free hb) upd_same
  · have s0 := same_new hb (.tup (cutV [.str "0", .str "1", .str "2"] none (some ((most : Int) + 1))))
    refine ⟨b, _, rfl, .inr (.inl (.inl upd_same)), rfl, ?_, _, rfl, ?_⟩
    · refine List.all_eq_true.mpr fun x hx => ?_
      have hx2 : x ∈ ([.str "0", .str "1", .str "2"] : List V) := List.mem_of_mem_drop (List.mem_of_mem_take hx)
      rcases List.mem_cons.mp hx2 with rfl | hx2
      · rfl
      rcases List.mem_cons.mp hx2 with rfl | hx2
      · rfl
      rcases List.mem_cons.mp hx2 with rfl | hx2
      · rfl
      · cases hx2
    dsimp only
    rw [num_in hv h2]
    refine iteF ?_
    refine ⟨_, rfl, p, C, dx, _, _, rfl, s0 _ _ hp, TP.cl, TP.nMosts, pf_mosts, m, _, rfl, s0 _ _ mo, fun L hL => ?_⟩
    have s1 := same_new hL (.lst ((kvS ms).map fun kv => kV kv.1))
    refine ⟨.inl ⟨rfl, _, .inl (.inl upd_same)⟩, _, rfl, L, _, _, i, _, rfl, rfl, .inl (.inl upd_same), rfl, kvS_flat ms, kvS_get hm, beq_self_eq_true _, hidx, ?_⟩
    refine ⟨_, rfl, _, _, rfl, (num_int v2).1, (num_int v2).2, small (by show 2 ≤ 1000; decide), fun b2 hb2 => ?_⟩
    exact q b2 _ ((s0.trans s1).trans (same_new hb2 _)) ((s0.trans s1).free hb2) upd_same
end
end Fv
set_option Elab.async false
set_option linter.all false
set_option maxRecDepth 100000
set_option maxHeartbeats 2000000
namespace Fv
open PySem L2 TL
/-! ### sum_by -/
abbrev s_Parser_sum_by : Stmt := inClass (top 41) 12
abbrev sc_Parser_sum_byN : List Str := ["self", "words"]
theorem sc_Parser_sum_by : FnScope sc_Parser_sum_byN ["self", "words"] (defScope s_Parser_sum_by) := ⟨rfl, rfl, rfl, by decide +kernel, rfl, by decide +kernel, by decide +kernel⟩
def spSum (K : PySem.W.Frag) (C : Addr) : Sp := fun vs H Q _ => ∃ (p l m s t a : Addr) (n : Int) (sy : Str) (fi : Int) (ms ss : NV) (c : Str) (i v most : Nat), vs = [.ref p, .ref a] ∧ PIn C H p l m s t n sy fi ms ss ∧ SqL K H a [.str c, .str (numS v)] ∧
  ms[i]? = some (c, most) ∧ 1 ≤ v ∧ v ≤ 2 ∧ ∀ (b : Addr) (H' : Hp), Same H H' → H b = none → H' b = some (.tup [.int (i : Int), .int (v : Int)]) → Q (.ref b) H'
theorem idx_first {ms : NV} {i : Nat} {c : Str} {most : Nat} (nm : (ms.map (·.1)).Nodup) (hm : ms[i]? = some (c, most)) : ∀ (j : Nat) (z' : V), j < i → ((kvS ms).map fun kv => kV kv.1)[j]? = some z' → eqV z' (.str c) = false := fun j z' hj hz => by
  have hjl : j < ms.length := by
    have := (List.getElem?_eq_some_iff.mp hz).1
    unfold kvS at this
    rw [List.length_map, List.length_map] at this
    exact this
  have e1 := kvS_get (List.getElem?_eq_getElem hjl)
  rw [hz] at e1
  have e2 := Option.some.inj e1
  subst e2
  show ((ms[j]).1 == c) = false
  refine beq_eq_false_iff_ne.mpr fun e => ?_
  have := nodup_at nm (List.getElem?_eq_getElem hjl) hm e
  omega
section
variable {P : Program} {w : World} {K : PySem.W.Frag} {mg : Str → Option Value} {base : Heap}
theorem ok_sum_by {f C : Addr} {fd : FuncData} (F : Fun K "sum_by" "Parser.sum_by" s_Parser_sum_by f fd) (T : Bare mg) (TP : PTxt K C) : FnOk P w K mg base CX0 1 f fd ["self", "words"] (spSum K C) := by
  refine F.ok sc_Parser_sum_by (fun vs H Q E h => ?_) (fun cdv A outer st H vs Q E hr h => ?_)
  · obtain ⟨p, l, m, s, t, a, n, sy, fi, ms, ss, c, i, v, most, rfl, _⟩ := h
    rfl
  obtain ⟨p, l, m, s, t, a, n, sy, fi, ms, ss, c, i, v, most, rfl, I, hS, hm, hv, h2, q⟩ := h
  obtain ⟨⟨dx, hp⟩, mo, hst, nm, ns⟩ := id I
  have hu := hu_of hr
  refine ⟨_, (pss_cons (ps_if (PW.pt (pw_or (pt_cmpR op_ne (pe_callB call_len_seq (by rfl) T.len PySem.boot_len (pa_cons (pv 1) pa_nil)) pe_int (nomark _)) (pw_or (pt_cmp (pc_dnotin hu (pe_ix ix_list (pv 1) pe_int (fun _ _ => rfl)) (pe_fld (pv 0) rfl))) (pw_or1 (pt_cmpR op_notIn_seq (pe_ix ix_list (pv 1) pe_int (fun _ _ => rfl)) (pe_tup (pa_cons pe_str (pa_cons pe_str pa_nil))) (by rfl))))))
(pss_one (ps_ret pe_non))
pss_nil)
(pss_one (ps_ret (pe_tup (pa_cons (pe_bm PySem.F.plainAttrs_list PySem.F.slot_list_index PySem.F.type_list_index mt_index (pe_callTy (call_list_dK rfl) (by rfl) T.list (by decide +kernel) (pa_cons (pe_fld (pv 0) rfl) pa_nil)) (pa_cons (pe_ix ix_list (pv 1) pe_int (fun _ _ => rfl)) pa_nil)) (pa_cons (pe_callTy call_int_str (by rfl) T.int (by decide +kernel) (pa_cons (pe_ix ix_list (pv 1) pe_int (fun _ _ => rfl)) pa_nil)) pa_nil)))))), ?_⟩
  have hval := valV_kvS nm hm
  refine ⟨_, rfl, a, _, rfl, .inl hS, rfl, _, rfl, iteF ?_⟩
  refine ⟨_, rfl, a, _, 0, _, rfl, rfl, hS, rfl, _, rfl, p, C, dx, _, _, rfl, hp, TP.cl, TP.nMosts, pf_mosts, m, _, rfl, DGet.k (k := Sum.inr c) mo, _, rfl, ?_⟩
  rw [hval]
  refine iteF ?_
  refine ⟨_, rfl, a, _, 1, _, rfl, rfl, hS, rfl, small (by show 2 ≤ 1000; decide), fun T1 hT1 => ?_⟩
  have s0 := same_new hT1 (.tup [.str "1", .str "2"])
  have hin : inV (.str (numS v)) [.str "1", .str "2"] = true := by
    have hd : v = 1 ∨ v = 2 := by omega
    rcases hd with rfl | rfl <;> decide +kernel
  refine ⟨T1, _, rfl, .inr (.inl (.inl upd_same)), rfl, rfl, _, rfl, ?_⟩
  dsimp only
  rw [hin]
  refine iteF ?_
  refine ⟨_, rfl, p, C, dx, _, _, rfl, s0 _ _ hp, TP.cl, TP.nMosts, pf_mosts, m, _, rfl, s0 _ _ mo, fun L hL => ?_⟩
  have s1 := same_new hL (.lst ((kvS ms).map fun kv => kV kv.1))
  have hS1 := (s0.trans s1).seq hS
  refine ⟨.inl ⟨rfl, _, .inl (.inl upd_same)⟩, _, rfl, a, _, 0, _, rfl, rfl, hS1, rfl, L, _, _, i, _, rfl, rfl, .inl (.inl upd_same), rfl, kvS_flat ms, kvS_get hm, beq_self_eq_true _, idx_first nm hm, ?_⟩
  refine ⟨_, rfl, a, _, 1, _, rfl, rfl, hS1, rfl, _, _, rfl, (num_int h2).1, (num_int h2).2, small (by show 2 ≤ 1000; decide), fun b hb => ?_⟩
  exact q b _ ((s0.trans s1).trans (same_new hb _)) ((s0.trans s1).free hb) upd_same
end
/-! ### condition_by -/
def ordOf (sy : Str) : Str := ((Str.empty ++ ("<" : Str)) ++ sy) ++ (">" : Str)
theorem len_app (x y : Str) : (x ++ y).length = x.length + y.length := by
  rw [len_tl, tl_append, List.length_append, ← len_tl, ← len_tl]
inductive Core (sy : Str) (ms : NV) : List Str → Str → Nat → Nat → Prop where
  | at_ (x : Str) : x.length < 60 → InOrder x (ordOf sy) → Core sy ms ["at", x] x 0 0
  | eq (c : Str) (i v most : Nat) : ms[i]? = some (c, most) → v ≤ most → most ≤ 2 → c ≠ "not" → PyData.strOk c = true → Core sy ms [c, "=", numS v] "" i v
def CondOk (sy : Str) (ms : NV) (ws : List Str) (wt : Bool) (pl : Str) (i v : Nat) : Prop := (wt = true ∧ Core sy ms ws pl i v) ∨ (wt = false ∧ ∃ r, ws = ("not" : Str) :: r ∧ Core sy ms r pl i v)
/-- a condition that is kept -/
def CondAt (H : Hp) (b : Addr) (wt : Bool) (pl : Str) (i v : Nat) : Prop := ∃ c, H b = some (.tup [.bl wt, .str pl, .ref c]) ∧ H c = some (.tup [.int (i : Int), .int (v : Int)])
abbrev s_Parser_condition_by : Stmt := inClass (top 41) 13
abbrev sc_Parser_condition_byN : List Str := ["self", "words", "wanted", "setting"]
theorem sc_Parser_condition_by : FnScope sc_Parser_condition_byN ["self", "words"] (defScope s_Parser_condition_by) := ⟨rfl, rfl, rfl, by decide +kernel, rfl, by decide +kernel, by decide +kernel⟩
def spCond (K : PySem.W.Frag) (C : Addr) : Sp := fun vs H Q _ => ∃ (p l m s t a : Addr) (n : Int) (sy : Str) (fi : Int) (ms ss : NV) (ws : List Str) (wt : Bool) (pl : Str) (iq vq : Nat), vs = [.ref p, .ref a] ∧ PIn C H p l m s t n sy fi ms ss ∧ SqL K H a (ws.map V.str) ∧
  CondOk sy ms ws wt pl iq vq ∧ sy.length ≤ 10 ∧ ∀ (b : Addr) (H' : Hp), Same H H' → CondAt H' b wt pl iq vq → Q (.ref b) H'
theorem lay_strs : ∀ zs : List Str, (∀ z ∈ zs, PyData.strOk z = true) → PyData.canLayAll0 (zs.map PyData.str) = true
  | [], _ => rfl
  | z :: r, h => by
    show (PyData.strOk z && PyData.canLayAll0 (r.map PyData.str)) = true
    rw [h z List.mem_cons_self, lay_strs r fun y hy => h y (List.mem_cons_of_mem _ hy)]
    rfl
theorem dep_strs : ∀ zs : List Str, PyData.depthAll (zs.map PyData.str) = 0
  | [] => rfl
  | n :: r => by
    show max 0 (PyData.depthAll (r.map PyData.str)) = 0
    rw [dep_strs r]; rfl
theorem shaped_strs {zs : List Str} (h : ∀ z ∈ zs, PyData.strOk z = true) : SeqAt.shaped (.list (zs.map PyData.str)) = true := by
  unfold SeqAt.shaped
  rw [Bool.and_eq_true]
  exact ⟨lay_strs zs h, decide_eq_true (by show PyData.depthAll (zs.map PyData.str) + 1 ≤ 64; rw [dep_strs]; decide)⟩
theorem core_head {sy : Str} {ms : NV} {ws : List Str} {pl : Str} {i v : Nat} (h : Core sy ms ws pl i v) : ∃ x r, ws = x :: r ∧ x ≠ ("not" : Str) ∧ PyData.strOk x = true := by
  cases h with
  | at_ x _ _ => exact ⟨_, _, rfl, by decide +kernel, by decide +kernel⟩
  | eq c i v most _ _ _ h1 h2 => exact ⟨_, _, rfl, h1, h2⟩
theorem take1 (x : Str) (r : List Str) : cutV ((x :: r).map V.str) none (some 1) = ([x] : List Str).map V.str := by
  unfold cutV
  rw [HT.sIx_none, show HT.sIx ((x :: r).map V.str).length ((x :: r).map V.str).length (some 1) = min 1 ((x :: r).map V.str).length from HT.sIx_nat _ _ 1]
  rw [List.length_map, List.length_cons, Nat.min_eq_left (by omega)]
  rfl
theorem drop1 (x : Str) (r : List Str) : cutV ((x :: r).map V.str) (some 1) none = r.map V.str := by
  unfold cutV
  rw [HT.sIx_none, show HT.sIx ((x :: r).map V.str).length 0 (some 1) = min 1 ((x :: r).map V.str).length from HT.sIx_nat _ _ 1]
  rw [List.length_map, List.length_cons, Nat.min_eq_left (by omega), List.map_cons, List.drop_succ_cons, List.drop_zero]
  exact List.take_of_length_le (by rw [List.length_map]; omega)
section
variable {P : Program} {w : World} {K : PySem.W.Frag} {mg : Str → Option Value} {base : Heap}
theorem ok_condition_by {f C : Addr} {fd : FuncData} (F : Fun K "condition_by" "Parser.condition_by" s_Parser_condition_by f fd) (T : Bare mg) (TP : PTxt K C) (CO : Callee P w K mg base 1 "is_in_order" ["word", "order"] spOrder)
    (MS : Meter P w K mg base C 1 "setting_by" ["self", "words"] (spSetting K C)) : FnOk P w K mg base CX0 2 f fd ["self", "words"] (spCond K C) := by
  refine F.ok sc_Parser_condition_by (fun vs H Q E h => ?_) (fun cdv A outer st H vs Q E hr h => ?_)
  · obtain ⟨p, l, m, s, t, a, n, sy, fi, ms, ss, ws, wt, pl, iq, vq, rfl, _⟩ := h
    rfl
  obtain ⟨p, l, m, s, t, a, n, sy, fi, ms, ss, ws, wt, pl, iq, vq, rfl, I, hS, hc, hsy, q⟩ := h
  -- behind the first two rows
  have rest : ∃ tt, PSs (cxOf CX0 P w K mg base sc_Parser_condition_byN "Parser.condition_by" (defScope s_Parser_condition_by) f cdv A outer st H E).nox ((defBody s_Parser_condition_by).drop 2) tt ∧
      ∀ (H2 : Hp) (a2 : Addr) (b : Bool) (cr : List Str), Same H H2 → SqL K H2 a2 (cr.map V.str) → Core sy ms cr pl iq vq → b = wt → tt { nx := fun _ H' => Q .non H', rt := Q } [some (.ref p), some (.ref a2), some (.bl b), none] H2 := by
    refine ⟨_, (pss_cons (ps_if (PW.pt (pw_and (pt_cmpR op_eq (pe_callB call_len_seq (by rfl) T.len PySem.boot_len (pa_cons (pv 1) pa_nil)) pe_int (nomark _)) (pw_and (pt_cmpR op_eq (pe_ix ix_list (pv 1) pe_int (fun _ _ => rfl)) pe_str (nomark _)) (pw_and1 (pt_val (pe_call CO.ok (hr.mono (by decide)) rfl CO.mg CO.kp CO.b .nil pass0 (pa_cons (pe_ix ix_list (pv 1) pe_int (fun _ _ => rfl)) (pa_cons (pe_joined (.cons pe_str (.cons (pe_fmt (pe_fld (pv 0) rfl)) (.cons pe_str .nil)))) pa_nil))))))))
(pss_one (ps_ret (pe_tup (pa_cons (pv 2) (pa_cons (pe_ix ix_list (pv 1) pe_int (fun _ _ => rfl)) (pa_cons (pe_tup (pa_cons pe_int (pa_cons pe_int pa_nil))) pa_nil))))))
pss_nil)
(pss_cons (ps_if (PW.pt (pw_or (pt_cmpR op_ne (pe_callB call_len_seq (by rfl) T.len PySem.boot_len (pa_cons (pv 1) pa_nil)) pe_int (nomark _)) (pw_or1 (pt_cmpR op_ne (pe_ix ix_list (pv 1) pe_int (fun _ _ => rfl)) pe_str (nomark _)))))
(pss_one (ps_ret pe_non))
pss_nil)
(pss_cons (ps_set (i := 3) sc_Parser_condition_by.nd rfl (Or.inl rfl) (pe_meth (pv 0) TP.cl MS.m MS.ok (hr.mono (by decide)) MS.b .nil pass0 (pa_cons (pe_lst (pa_cons (pe_ix ix_list (pv 1) pe_int (fun _ _ => rfl)) (pa_cons (pe_ix ix_list (pv 1) pe_int (fun _ _ => rfl)) pa_nil))) pa_nil)))
(pss_one (ps_ret (pe_ifExp (pt_cmpR op_isN (pv 3) pe_non (nomark _)) pe_non (pe_tup (pa_cons (pv 2) (pa_cons pe_str (pa_cons (pv 3) pa_nil)))))))))), ?_⟩
    intro H2 a2 b cr s2 hS2 hcore eb
    subst eb
    have I2 := I.same s2
    obtain ⟨⟨dx, hp⟩, mo, hst, nm, ns⟩ := id I2
    cases hcore with
    | at_ _ hx hO =>
      refine ⟨_, rfl, a2, _, rfl, .inl hS2, rfl, _, rfl, iteT ?_⟩
      refine ⟨_, rfl, a2, _, 0, _, rfl, rfl, hS2, rfl, rfl, _, rfl, iteT ?_⟩
      have l0 : (Str.empty ++ ("<" : Str)).length = 1 := by decide +kernel
      have l1 : ((Str.empty ++ ("<" : Str)) ++ sy).length ≤ 11 := by rw [len_app, l0]; omega
      have l2 : (((Str.empty ++ ("<" : Str)) ++ sy) ++ (">" : Str)).length ≤ 12 := by
        have e : (">" : Str).length = 1 := by decide +kernel
        rw [len_app, e]; omega
      refine ⟨_, rfl, a2, _, 1, _, rfl, rfl, hS2, rfl, _, rfl, small (by rw [l0]; decide), _, rfl, p, C, dx, _, _, rfl, hp, TP.cl, TP.nSymbols, pf_symbols, .inl ⟨sy, rfl, small (by omega), sy, rfl, small (by omega), _, rfl, small (by omega), ?_⟩⟩
      refine ⟨pl, _, rfl, hx, hO, fun H3 s3 => ⟨true, rfl, iteT ?_⟩⟩
      refine ⟨_, rfl, _, rfl, a2, _, 1, _, rfl, rfl, s3.seq hS2, rfl, small (by show 2 ≤ 1000; decide), fun T0 h0 => ⟨small (by show 3 ≤ 1000; decide), fun B hB => ?_⟩⟩
      refine q B _ (((s2.trans s3).trans (same_new h0 _)).trans (same_new hB _)) ⟨T0, upd_same, ?_⟩
      rw [upd_ne (ne_of_none upd_same hB)]
      exact upd_same
    | eq c _ _ most hm hv h2 hn hok =>
      refine ⟨_, rfl, a2, _, rfl, .inl hS2, rfl, _, rfl, iteF ?_⟩
      refine ⟨_, rfl, a2, _, rfl, .inl hS2, rfl, _, rfl, iteF ?_⟩
      refine ⟨_, rfl, a2, _, 1, _, rfl, rfl, hS2, rfl, rfl, _, rfl, iteF ?_⟩
      refine ⟨_, rfl, p, dx, _, rfl, hp, (by kernel_rfl), _, rfl, a2, _, 0, _, rfl, rfl, hS2, rfl, _, rfl, a2, _, 2, _, rfl, rfl, hS2, rfl, small (by show 2 ≤ 1000; decide), fun L hL => ?_⟩
      have s3 := same_new hL (.lst [.str c, .str (numS vq)])
      refine ⟨p, l, m, s, t, L, n, sy, fi, ms, ss, c, iq, vq, most, rfl, I2.same s3, .inl (.inl upd_same), hm, hv, h2, fun B H4 s4 hB hT => ?_⟩
      refine ⟨_, rfl, rfl, _, rfl, iteF ?_⟩
      refine ⟨_, rfl, _, rfl, small (by show 3 ≤ 1000; decide), fun B2 hB2 => ?_⟩
      exact q B2 _ (((s2.trans s3).trans s4).trans (same_new hB2 _)) ⟨B, upd_same, same_new hB2 _ _ _ hT⟩
  obtain ⟨tt, ht, hrest⟩ := rest
  refine ⟨_, (pss_cons (ps_set (i := 2) sc_Parser_condition_by.nd rfl (Or.inl rfl) (pe_cmpR (op_neD hr.units) (pe_slice sl_list (pv 1) po_none (po_some pe_int)) (pe_lst (pa_cons pe_str pa_nil)) (nomark _)))
(pss_cons (ps_set (i := 1) sc_Parser_condition_by.nd rfl (Or.inl rfl) (pe_ifExp (pt_val (pv 2)) (pv 1) (pe_slice sl_list (pv 1) (po_some pe_int) po_none))) ht)), ?_⟩
  have okN : PyData.strOk ("not" : Str) = true := by decide +kernel
  have hd : ∃ x r, ws = x :: r ∧ PyData.strOk x = true := by
    rcases hc with ⟨_, h⟩ | ⟨_, r, rfl, h⟩
    · obtain ⟨x, r, e, _, o⟩ := core_head h
      exact ⟨x, r, e, o⟩
    · exact ⟨_, r, rfl, okN⟩
  obtain ⟨x, r, rfl, ox⟩ := hd
  refine ⟨_, rfl, 1, rfl, a, _, rfl, hS, fun A1 hA1 => ?_⟩
  rw [take1]
  have s1 := same_new hA1 (.lst (([x] : List Str).map V.str))
  refine ⟨small (by show 1 ≤ 1000; decide), fun A2 hA2 => ?_⟩
  have s2 := same_new hA2 (.lst [.str "not"])
  refine ⟨.list (([x] : List Str).map .str), .list (([("not" : Str)] : List Str).map .str), .lst (.inl (.inl (s2 _ _ upd_same))) (dp_strs _), .lst (.inl (.inl upd_same)) (dp_strs [("not" : Str)]), shaped_strs (by simpa using ox), shaped_strs (by simpa using okN), ?_⟩
  have ev : PyData.eqv (.list (([x] : List Str).map .str)) (.list (([("not" : Str)] : List Str).map .str)) = decide (([x] : List Str) = [("not" : Str)]) := eqv_strs _ _
  rw [ev]
  have s12 := s1.trans s2
  rcases hc with ⟨ew, h⟩ | ⟨ew, r', e, h⟩
  · obtain ⟨x', r', e, hne, _⟩ := core_head h
    have e1 : x = x' := (List.cons.inj e).1
    have hf : decide (([x] : List Str) = [("not" : Str)]) = false := decide_eq_false fun z => hne (by rw [← e1]; exact (List.cons.inj z).1)
    rw [hf]
    refine ⟨_, rfl, _, rfl, iteT ?_⟩
    exact ⟨_, rfl, hrest _ a _ _ s12 (s12.seq hS) h ew.symm⟩
  · have e1 : x = "not" := (List.cons.inj e).1
    have e2 : r = r' := (List.cons.inj e).2
    subst e1
    subst e2
    rw [decide_eq_true rfl]
    refine ⟨_, rfl, _, rfl, iteF ?_⟩
    refine ⟨_, rfl, 1, rfl, a, _, rfl, s12.seq hS, fun A3 hA3 => ?_⟩
    rw [drop1]
    exact hrest _ A3 _ _ (s12.trans (same_new hA3 _)) (.inl (.inl upd_same)) h ew.symm
end
end Fv
set_option Elab.async false
set_option linter.all false
set_option maxRecDepth 100000
set_option maxHeartbeats 2000000
namespace Fv
open PySem PySem.Spec PyProof.Rows L2 TL
theorem pt_weak {X : Cx} {e : Expr} {t t' : TT} (h : PT X e t) (i : ∀ σ H Q, t' σ H Q → t σ H Q) : PT X e t' := ⟨fun pins s σ H Q I q => h.run pins s σ H Q I (i _ _ _ q)⟩
/-- x in a tuple of data -/
def rInDT (K : PySem.W.Frag) : R2 := fun x y H Q => ∃ d ds, Dp K H x d ∧ Dp K H y (.tuple ds) ∧ SeqAt.shaped d = true ∧ SeqAt.shaped (.tuple ds) = true ∧ Q (.bl (ds.any fun z => PyData.eqv z d)) H
theorem op_inDT {X : Cx} (hu : X.A.units + 65 < cLine) : OpR X (compareOp .In) (rInDT X.K) := by
  intro pins s σ H x y v u Q I rx ry h
  obtain ⟨d, ds, h1, h2, h3, h4, q⟩ := h
  obtain ⟨as, r1⟩ := Dp.reads I d x v h1 rx
  obtain ⟨bs, r2⟩ := Dp.reads I (.tuple ds) y u h2 ry
  have z := SeqAt.depth_of_shaped h3
  exact SeqAt.in_tuple_reads r2 r1 (SeqAt.canLay_of_shaped h4) (SeqAt.canLay_of_shaped h3) (Nat.lt_of_le_of_lt (by omega) hu) ⟨.bl _, H, I, rfl, q⟩
section
variable {X : Cx} {i : Nat} {e : Expr} {lit lit2 : Str} {k : Nat} {p1 p2 p3 p4 p5 p6 p7 : Pos} {o1 o2 o3 : Nat}
/-- name == ["lit"], the name a list of one text -/
def tWord (K : PySem.W.Frag) (i : Nat) (lit : Str) : TT := fun σ H Q => ∃ (a : Addr) (x : Str), σ[i]? = some (some (.ref a)) ∧ SqL K H a [.str x] ∧ PyData.strOk x = true ∧ PyData.strOk lit = true ∧ ∀ H', Same H H' → Q (decide (x = lit)) H'
theorem one_str {x y : Str} : decide (([x] : List Str) = [y]) = decide (x = y) := by
  by_cases e : x = y
  · subst e; simp
  · rw [decide_eq_false e, decide_eq_false fun z => e (List.cons.inj z).1]
theorem pt_word (hu : X.A.units + 64 < cLine) (hn : PE X e (tVar i)) : PT X (.Compare e [.Eq] [.List [.Constant (.str lit) o1 p2] p3] p4) (tWord X.K i lit) := by
  refine pt_weak (pt_cmpR (op_eqD hu) hn (pe_lst (pa_cons pe_str pa_nil)) (nomark _)) fun σ H Q h => ?_
  obtain ⟨a, x, h1, h2, h3, h4, q⟩ := h
  refine ⟨_, h1, small (by show 1 ≤ 1000; decide), fun A hA => ?_⟩
  have s1 := same_new hA (.lst [.str lit])
  refine ⟨.list (([x] : List Str).map .str), .list (([lit] : List Str).map .str), .lst (s1.seq h2) (dp_strs [x]), .lst (.inl (.inl upd_same)) (dp_strs [lit]), shaped_strs (by simpa using h3), shaped_strs (by simpa using h4), ?_⟩
  refine ⟨_, (congrArg V.bl (Eq.trans (eqv_strs [x] [lit]) one_str)), ?_⟩
  exact q _ s1
def tWord2 (K : PySem.W.Frag) (i : Nat) (l1 l2 : Str) : TT := fun σ H Q => ∃ (a : Addr) (x : Str), σ[i]? = some (some (.ref a)) ∧ SqL K H a [.str x] ∧ PyData.strOk x = true ∧ PyData.strOk l1 = true ∧ PyData.strOk l2 = true ∧ ∀ H', Same H H' → Q (decide (x = l1) || decide (x = l2)) H'
theorem two_any (x l1 l2 : Str) : ([PyData.list ([l1].map .str), .list ([l2].map .str)]).any (fun z => PyData.eqv z (.list ([x].map .str))) = (decide (x = l1) || decide (x = l2)) := by
  have h : ∀ l : Str, PyData.eqv (.list ([l].map .str)) (.list ([x].map .str)) = decide (x = l) := fun l => by
    refine Eq.trans (eqv_strs [l] [x]) (Eq.trans one_str ?_)
    by_cases e : x = l
    · subst e; rfl
    · rw [decide_eq_false e, decide_eq_false fun z => e z.symm]
  rw [List.any_cons, List.any_cons, List.any_nil, Bool.or_false, h, h]
theorem pt_word2 (hu : X.A.units + 65 < cLine) (hn : PE X e (tVar i)) : PT X (.Compare e [.In] [.Tuple [.List [.Constant (.str lit) o1 p1] p2, .List [.Constant (.str lit2) o2 p3] p4] k p5] p6) (tWord2 X.K i lit lit2) := by
  refine pt_weak (pt_cmpR (op_inDT hu) hn (pe_tup (pa_cons (pe_lst (pa_cons pe_str pa_nil)) (pa_cons (pe_lst (pa_cons pe_str pa_nil)) pa_nil))) (by rfl)) fun σ H Q h => ?_
  obtain ⟨a, x, h1, h2, h3, h4, h5, q⟩ := h
  refine ⟨_, h1, small (by show 1 ≤ 1000; decide), fun A hA => ⟨small (by show 1 ≤ 1000; decide), fun B hB => ⟨small (by show 2 ≤ 1000; decide), fun C hC => ?_⟩⟩⟩
  have s1 := same_new hA (.lst [.str lit])
  have s2 := same_new hB (.lst [.str lit2])
  have s3 := same_new hC (.tup [.ref A, .ref B])
  refine ⟨.list (([x] : List Str).map .str), [.list (([lit] : List Str).map .str), .list (([lit2] : List Str).map .str)], .lst (((s1.trans s2).trans s3).seq h2) (dp_strs [x]),
    .tup (.inl (.inl upd_same)) (.cons (.lst (.inl (.inl ((s2.trans s3) _ _ upd_same))) (dp_strs [lit])) (.cons (.lst (.inl (.inl (s3 _ _ upd_same))) (dp_strs [lit2])) .nil)), shaped_strs (by simpa using h3), ?_, ?_⟩
  · unfold SeqAt.shaped
    rw [Bool.and_eq_true]
    refine ⟨?_, decide_eq_true (by show max (PyData.depthAll ([lit].map PyData.str) + 1) (max (PyData.depthAll ([lit2].map PyData.str) + 1) 0) + 1 ≤ 64; rw [dep_strs, dep_strs]; decide)⟩
    show (PyData.canLayAll0 ([lit].map PyData.str) && (PyData.canLayAll0 ([lit2].map PyData.str) && true)) = true
    rw [lay_strs [lit] (by simpa using h4), lay_strs [lit2] (by simpa using h5)]
    rfl
  · exact ⟨_, congrArg V.bl (two_any x lit lit2), q _ ((s1.trans s2).trans s3)⟩
end
/-! ### given_by -/
/-- what stands behind the word of a statement -/
inductive Gv where
  | non
  | letter (z : Str)
  | pair (i n : Nat)
  | cond (wt : Bool) (pl : Str) (i v : Nat)
  | part (ln : Nat)
def GvAt (H : Hp) (g : V) : Gv → Prop
  | .non => g = .str ""
  | .letter z => g = .str z
  | .pair i n => ∃ b, g = .ref b ∧ H b = some (.tup [.int (i : Int), .int (n : Int)])
  | .cond wt pl i v => ∃ b, g = .ref b ∧ CondAt H b wt pl i v
  | .part ln => g = .int (ln : Int)
inductive Giv (sy : Str) (ms ss : NV) : List Str → Gv → Prop where
  | set (c : Str) (i v most : Nat) : ms[i]? = some (c, most) → v ≤ most → most ≤ 2 → Giv sy ms ss ["set", c, numS v] (.pair i v)
  | add (c : Str) (i v most : Nat) : ms[i]? = some (c, most) → 1 ≤ v → v ≤ 2 → Giv sy ms ss ["add", c, numS v] (.pair i v)
  | if_ (r : List Str) (wt : Bool) (pl : Str) (i v : Nat) : CondOk sy ms r wt pl i v → Giv sy ms ss ("if" :: r) (.cond wt pl i v)
  | while_ (r : List Str) (wt : Bool) (pl : Str) (i v : Nat) : CondOk sy ms r wt pl i v → Giv sy ms ss ("while" :: r) (.cond wt pl i v)
  | write (z : Str) : z.length = 1 → ofLetters z = true → Giv sy ms ss ["write", z] (.letter z)
  | do_ (x : Str) (i n : Nat) : ss[i]? = some (x, n) → Giv sy ms ss ["do", x] (.part n)
  | right : Giv sy ms ss ["right"] .non
  | left : Giv sy ms ss ["left"] .non
  | copy : Giv sy ms ss ["copy"] .non
  | stop : Giv sy ms ss ["stop"] .non
def GvOk (x : Str) (g : V) : Prop := g ≠ .non ∧ (x = "write" → ∃ z : Str, g = .str z)
abbrev s_Parser_given_by : Stmt := inClass (top 41) 10
abbrev sc_Parser_given_byN : List Str := ["self", "words", "word", "rest"]
theorem sc_Parser_given_by : FnScope sc_Parser_given_byN ["self", "words"] (defScope s_Parser_given_by) := ⟨rfl, rfl, rfl, by decide +kernel, rfl, by decide +kernel, by decide +kernel⟩
def spGiven (K : PySem.W.Frag) (C : Addr) : Sp := fun vs H Q _ => ∃ (p l m s t a : Addr) (n : Int) (sy : Str) (fi : Int) (ms ss : NV) (x : Str) (r : List Str) (gv : Gv), vs = [.ref p, .ref a] ∧ PIn C H p l m s t n sy fi ms ss ∧ SqL K H a ((x :: r).map V.str) ∧
  Giv sy ms ss (x :: r) gv ∧ sy.length ≤ 10 ∧ ∀ (g : V) (H' : Hp), Same H H' → GvOk x g → GvAt H' g gv → Q g H'
theorem giv_ok {sy : Str} {ms ss : NV} {x : Str} {r : List Str} {gv : Gv} (h : Giv sy ms ss (x :: r) gv) : PyData.strOk x = true := by
  cases h <;> decide +kernel
section
variable {P : Program} {w : World} {K : PySem.W.Frag} {mg : Str → Option Value} {base : Heap}
theorem ok_given_by {f C : Addr} {fd : FuncData} (F : Fun K "given_by" "Parser.given_by" s_Parser_given_by f fd) (T : Bare mg) (T2 : Consts2 K mg) (TP : PTxt K C) (CL : Callee P w K mg base 1 "is_of_letters" ["word"] (spText1 ofLetters))
    (MS : Meter P w K mg base C 1 "setting_by" ["self", "words"] (spSetting K C)) (MA : Meter P w K mg base C 1 "sum_by" ["self", "words"] (spSum K C)) (MC : Meter P w K mg base C 2 "condition_by" ["self", "words"] (spCond K C)) : FnOk P w K mg base CX0 3 f fd ["self", "words"] (spGiven K C) := by
  refine F.ok sc_Parser_given_by (fun vs H Q E h => ?_) (fun cdv A outer st H vs Q E hr h => ?_)
  · obtain ⟨p, l, m, s, t, a, n, sy, fi, ms, ss, x, r, gv, rfl, _⟩ := h
    rfl
  obtain ⟨p, l, m, s, t, a, n, sy, fi, ms, ss, x, r, gv, rfl, I, hS, hg, hsy, q⟩ := h
  have hu := hu_of hr
  have hu65 : A.units + 3 + 65 < cLine := by
    have := hr.un
    have e : (A.deeper (envOfC "Parser.given_by" (defScope s_Parser_given_by) st.heap.objs.size f cdv)).units = A.units + 3 := rfl
    rw [e] at this
    omega
  obtain ⟨aB, gB, sB⟩ := T2.bare
  have ox := giv_ok hg
  refine ⟨_, (pss_cons (ps_par (i := 2) (j := 3) (by rfl) sc_Parser_given_by.nd rfl rfl (by decide) rfl rfl (pa_cons (pe_slice sl_list (pv 1) po_none (po_some pe_int)) (pa_cons (pe_slice sl_list (pv 1) (po_some pe_int) po_none) pa_nil)) (by rfl))
(pss_cons (ps_if (pt_word hr.units (pv 2))
(pss_one (ps_ret (pe_meth (pv 0) TP.cl MS.m MS.ok (hr.mono (by decide)) MS.b .nil pass0 (pa_cons (pv 3) pa_nil))))
pss_nil)
(pss_cons (ps_if (pt_word hr.units (pv 2))
(pss_one (ps_ret (pe_meth (pv 0) TP.cl MA.m MA.ok (hr.mono (by decide)) MA.b .nil pass0 (pa_cons (pv 3) pa_nil))))
pss_nil)
(pss_cons (ps_if (pt_word2 hu65 (pv 2))
(pss_one (ps_ret (pe_meth (pv 0) TP.cl MC.m MC.ok (hr.mono (by decide)) MC.b .nil pass0 (pa_cons (pv 3) pa_nil))))
pss_nil)
(pss_cons (ps_if (PW.pt (pw_and (pt_word hr.units (pv 2)) (pw_and1 (pt_cmpR op_eq (pe_callB call_len_seq (by rfl) T.len PySem.boot_len (pa_cons (pv 3) pa_nil)) pe_int (nomark _)))))
(pss_one (ps_ret (pe_ifExp (PW.pt (pw_and (pt_cmpR op_eq (pe_callB call_len_str (by rfl) T.len PySem.boot_len (pa_cons (pe_ix ix_list (pv 3) pe_int (fun _ _ => rfl)) pa_nil)) pe_int (nomark _)) (pw_and1 (pt_val (pe_call CL.ok (hr.mono (by decide)) rfl CL.mg CL.kp CL.b .nil pass0 (pa_cons (pe_ix ix_list (pv 3) pe_int (fun _ _ => rfl)) pa_nil)))))) (pe_ix ix_list (pv 3) pe_int (fun _ _ => rfl)) pe_non)))
pss_nil)
(pss_cons (ps_if (PW.pt (pw_and (pt_word hr.units (pv 2)) (pw_and1 (pt_cmpR op_eq (pe_callB call_len_seq (by rfl) T.len PySem.boot_len (pa_cons (pv 3) pa_nil)) pe_int (nomark _)))))
(pss_one (ps_ret (pe_dget1 hu (pe_fld (pv 0) rfl) (pe_ix ix_list (pv 3) pe_int (fun _ _ => rfl)) ⟨rfl, rfl, rfl, rfl⟩)))
pss_nil)
(pss_one (ps_ret (pe_ifExp (PW.pt (pw_and (pt_cmpR op_eq (pe_callB call_len_seq (by rfl) T.len PySem.boot_len (pa_cons (pv 1) pa_nil)) pe_int (nomark _)) (pw_and1 (pt_cmpR op_in_seq (pe_ix ix_list (pv 1) pe_int (fun _ _ => rfl)) (pe_glob (v := .ref aB) rfl gB rfl) (by rfl))))) pe_str pe_non))))))))), ?_⟩
  refine ⟨_, rfl, 1, rfl, a, _, rfl, hS, fun A1 hA1 => ?_⟩
  rw [take1]
  have s1 := same_new hA1 (.lst (([x] : List Str).map V.str))
  refine ⟨_, rfl, 1, rfl, a, _, rfl, s1.seq hS, fun A2 hA2 => ?_⟩
  rw [drop1]
  have s2 := same_new hA2 (.lst (r.map V.str))
  have s12 := s1.trans s2
  refine ⟨_, _, rfl, ?_⟩
  have hW : SqL K (upd (upd H A1 (.lst (([x] : List Str).map V.str))) A2 (.lst (r.map V.str))) A1 [.str x] := .inl (.inl (s2 _ _ upd_same))
  have hR : SqL K (upd (upd H A1 (.lst (([x] : List Str).map V.str))) A2 (.lst (r.map V.str))) A2 (r.map V.str) := .inl (.inl upd_same)
  generalize upd (upd H A1 (.lst (([x] : List Str).map V.str))) A2 (.lst (r.map V.str)) = H0 at s12 hW hR ⊢
  -- set?
  have ne : ∀ {u v : Str}, (decide (u = v)) = false → u ≠ v := fun h z => by rw [decide_eq_true z] at h; cases h
  refine ⟨A1, x, rfl, hW, ox, by decide +kernel, fun H1 t1 => ?_⟩
  cases hg with
  | set c i v most h1 h2 h3 =>
    refine iteT ?_
    have I1 := I.same (s12.trans t1)
    obtain ⟨⟨dx, hp⟩, _⟩ := id I1
    refine ⟨_, rfl, p, dx, _, rfl, hp, (by kernel_rfl), _, rfl, p, l, m, s, t, A2, n, sy, fi, ms, ss, c, i, v, most, rfl, I1, t1.seq hR, h1, h2, h3, fun B H4 s4 hB hT => ?_⟩
    exact q _ _ ((s12.trans t1).trans s4) ⟨(by intro z; cases z), fun z => absurd z (by decide +kernel)⟩ ⟨B, rfl, hT⟩
  | add c i v most h1 h2 h3 =>
    refine iteF ?_
    refine ⟨A1, _, rfl, t1.seq hW, by decide +kernel, by decide +kernel, fun H2 t2 => iteT ?_⟩
    have T2' := t1.trans t2
    have I1 := I.same (s12.trans T2')
    obtain ⟨⟨dx, hp⟩, _⟩ := id I1
    refine ⟨_, rfl, p, dx, _, rfl, hp, (by kernel_rfl), _, rfl, p, l, m, s, t, A2, n, sy, fi, ms, ss, c, i, v, most, rfl, I1, T2'.seq hR, h1, h2, h3, fun B H4 s4 hB hT => ?_⟩
    exact q _ _ ((s12.trans T2').trans s4) ⟨(by intro z; cases z), fun z => absurd z (by decide +kernel)⟩ ⟨B, rfl, hT⟩
  | if_ r wt pl iq vq hc =>
    refine iteF ?_
    refine ⟨A1, _, rfl, t1.seq hW, by decide +kernel, by decide +kernel, fun H2 t2 => iteF ?_⟩
    refine ⟨A1, _, rfl, (t1.trans t2).seq hW, by decide +kernel, by decide +kernel, by decide +kernel, fun H3 t3 => iteT ?_⟩
    have T2' := (t1.trans t2).trans t3
    have I1 := I.same (s12.trans T2')
    obtain ⟨⟨dx, hp⟩, _⟩ := id I1
    refine ⟨_, rfl, p, dx, _, rfl, hp, (by kernel_rfl), _, rfl, p, l, m, s, t, A2, n, sy, fi, ms, ss, r, wt, pl, iq, vq, rfl, I1, T2'.seq hR, hc, hsy, fun B H4 s4 hC => ?_⟩
    exact q _ _ ((s12.trans T2').trans s4) ⟨(by intro z; cases z), fun z => absurd z (by decide +kernel)⟩ ⟨B, rfl, hC⟩
  | while_ r wt pl iq vq hc =>
    refine iteF ?_
    refine ⟨A1, _, rfl, t1.seq hW, by decide +kernel, by decide +kernel, fun H2 t2 => iteF ?_⟩
    refine ⟨A1, _, rfl, (t1.trans t2).seq hW, by decide +kernel, by decide +kernel, by decide +kernel, fun H3 t3 => iteT ?_⟩
    have T2' := (t1.trans t2).trans t3
    have I1 := I.same (s12.trans T2')
    obtain ⟨⟨dx, hp⟩, _⟩ := id I1
    refine ⟨_, rfl, p, dx, _, rfl, hp, (by kernel_rfl), _, rfl, p, l, m, s, t, A2, n, sy, fi, ms, ss, r, wt, pl, iq, vq, rfl, I1, T2'.seq hR, hc, hsy, fun B H4 s4 hC => ?_⟩
    exact q _ _ ((s12.trans T2').trans s4) ⟨(by intro z; cases z), fun z => absurd z (by decide +kernel)⟩ ⟨B, rfl, hC⟩
  | write z hz hl =>
    refine iteF ?_
    refine ⟨A1, _, rfl, t1.seq hW, by decide +kernel, by decide +kernel, fun H2 t2 => iteF ?_⟩
    refine ⟨A1, _, rfl, (t1.trans t2).seq hW, by decide +kernel, by decide +kernel, by decide +kernel, fun H3 t3 => iteF ?_⟩
    have T3 := (t1.trans t2).trans t3
    refine ⟨A1, _, rfl, T3.seq hW, by decide +kernel, by decide +kernel, fun H4 t4 => iteT ?_⟩
    have T4 := T3.trans t4
    refine ⟨_, rfl, A2, _, rfl, .inl (T4.seq hR), rfl, _, rfl, iteT ?_⟩
    refine ⟨_, rfl, A2, _, 0, _, rfl, rfl, T4.seq hR, rfl, _, rfl, small (by omega), rfl, _, rfl, ?_⟩
    have e1 : decide (V.int ((z.length : Nat) : Int) = V.int 1) = true := decide_eq_true (by rw [hz]; rfl)
    rw [e1]
    refine iteT ?_
    refine ⟨_, rfl, A2, _, 0, _, rfl, rfl, T4.seq hR, rfl, z, rfl, by omega, fun H5 t5 => ?_⟩
    rw [hl]
    refine ⟨true, rfl, iteT ?_⟩
    refine ⟨_, rfl, A2, _, 0, _, rfl, rfl, (T4.trans t5).seq hR, rfl, ?_⟩
    exact q _ _ ((s12.trans T4).trans t5) ⟨(by intro z; cases z), fun _ => ⟨z, rfl⟩⟩ rfl
  | do_ y i ln hy =>
    refine iteF ?_
    refine ⟨A1, _, rfl, t1.seq hW, by decide +kernel, by decide +kernel, fun H2 t2 => iteF ?_⟩
    refine ⟨A1, _, rfl, (t1.trans t2).seq hW, by decide +kernel, by decide +kernel, by decide +kernel, fun H3 t3 => iteF ?_⟩
    have T3 := (t1.trans t2).trans t3
    refine ⟨A1, _, rfl, T3.seq hW, by decide +kernel, by decide +kernel, fun H4 t4 => iteF (iteF ?_)⟩
    have T4 := T3.trans t4
    refine ⟨A1, _, rfl, T4.seq hW, by decide +kernel, by decide +kernel, fun H5 t5 => iteT ?_⟩
    have T5 := T4.trans t5
    refine ⟨_, rfl, A2, _, rfl, .inl (T5.seq hR), rfl, _, rfl, iteT ?_⟩
    obtain ⟨⟨dx, hp⟩, mo, hst, nm, ns⟩ := I.same (s12.trans T5)
    refine ⟨_, rfl, p, C, dx, _, _, rfl, hp, TP.cl, TP.nStarts, pf_starts, s, rfl, ?_, _, rfl, A2, _, 0, _, rfl, rfl, T5.seq hR, rfl, some (.int (ln : Int)), .inl ⟨_, Sum.inr y, .inl hst, rfl, (valV_kvS ns hy).symm⟩, ?_⟩
    · exact .inl ⟨_, .inl hst⟩
    · exact q _ _ (s12.trans T5) ⟨(by intro z; cases z), fun z => absurd z (by decide +kernel)⟩ rfl
  | right =>
    refine iteF ?_
    refine ⟨A1, _, rfl, t1.seq hW, by decide +kernel, by decide +kernel, fun H2 t2 => iteF ?_⟩
    refine ⟨A1, _, rfl, (t1.trans t2).seq hW, by decide +kernel, by decide +kernel, by decide +kernel, fun H3 t3 => iteF ?_⟩
    have T3 := (t1.trans t2).trans t3
    refine ⟨A1, _, rfl, T3.seq hW, by decide +kernel, by decide +kernel, fun H4 t4 => iteF (iteF ?_)⟩
    have T4 := T3.trans t4
    refine ⟨A1, _, rfl, T4.seq hW, by decide +kernel, by decide +kernel, fun H5 t5 => iteF (iteF ?_)⟩
    have T5 := s12.trans (T4.trans t5)
    refine ⟨_, rfl, a, _, rfl, .inl (T5.seq hS), rfl, _, rfl, iteT ?_⟩
    refine ⟨_, rfl, a, _, 0, _, rfl, rfl, T5.seq hS, rfl, aB, _, rfl, .inr (sB _), rfl, rfl, _, rfl, ?_⟩
    refine iteT ?_
    exact q _ _ T5 ⟨(by intro z; cases z), fun z => absurd z (by decide +kernel)⟩ rfl
  | left =>
    refine iteF ?_
    refine ⟨A1, _, rfl, t1.seq hW, by decide +kernel, by decide +kernel, fun H2 t2 => iteF ?_⟩
    refine ⟨A1, _, rfl, (t1.trans t2).seq hW, by decide +kernel, by decide +kernel, by decide +kernel, fun H3 t3 => iteF ?_⟩
    have T3 := (t1.trans t2).trans t3
    refine ⟨A1, _, rfl, T3.seq hW, by decide +kernel, by decide +kernel, fun H4 t4 => iteF (iteF ?_)⟩
    have T4 := T3.trans t4
    refine ⟨A1, _, rfl, T4.seq hW, by decide +kernel, by decide +kernel, fun H5 t5 => iteF (iteF ?_)⟩
    have T5 := s12.trans (T4.trans t5)
    refine ⟨_, rfl, a, _, rfl, .inl (T5.seq hS), rfl, _, rfl, iteT ?_⟩
    refine ⟨_, rfl, a, _, 0, _, rfl, rfl, T5.seq hS, rfl, aB, _, rfl, .inr (sB _), rfl, rfl, _, rfl, ?_⟩
    refine iteT ?_
    exact q _ _ T5 ⟨(by intro z; cases z), fun z => absurd z (by decide +kernel)⟩ rfl
  | copy =>
    refine iteF ?_
    refine ⟨A1, _, rfl, t1.seq hW, by decide +kernel, by decide +kernel, fun H2 t2 => iteF ?_⟩
    refine ⟨A1, _, rfl, (t1.trans t2).seq hW, by decide +kernel, by decide +kernel, by decide +kernel, fun H3 t3 => iteF ?_⟩
    have T3 := (t1.trans t2).trans t3
    refine ⟨A1, _, rfl, T3.seq hW, by decide +kernel, by decide +kernel, fun H4 t4 => iteF (iteF ?_)⟩
    have T4 := T3.trans t4
    refine ⟨A1, _, rfl, T4.seq hW, by decide +kernel, by decide +kernel, fun H5 t5 => iteF (iteF ?_)⟩
    have T5 := s12.trans (T4.trans t5)
    refine ⟨_, rfl, a, _, rfl, .inl (T5.seq hS), rfl, _, rfl, iteT ?_⟩
    refine ⟨_, rfl, a, _, 0, _, rfl, rfl, T5.seq hS, rfl, aB, _, rfl, .inr (sB _), rfl, rfl, _, rfl, ?_⟩
    refine iteT ?_
    exact q _ _ T5 ⟨(by intro z; cases z), fun z => absurd z (by decide +kernel)⟩ rfl
  | stop =>
    refine iteF ?_
    refine ⟨A1, _, rfl, t1.seq hW, by decide +kernel, by decide +kernel, fun H2 t2 => iteF ?_⟩
    refine ⟨A1, _, rfl, (t1.trans t2).seq hW, by decide +kernel, by decide +kernel, by decide +kernel, fun H3 t3 => iteF ?_⟩
    have T3 := (t1.trans t2).trans t3
    refine ⟨A1, _, rfl, T3.seq hW, by decide +kernel, by decide +kernel, fun H4 t4 => iteF (iteF ?_)⟩
    have T4 := T3.trans t4
    refine ⟨A1, _, rfl, T4.seq hW, by decide +kernel, by decide +kernel, fun H5 t5 => iteF (iteF ?_)⟩
    have T5 := s12.trans (T4.trans t5)
    refine ⟨_, rfl, a, _, rfl, .inl (T5.seq hS), rfl, _, rfl, iteT ?_⟩
    refine ⟨_, rfl, a, _, 0, _, rfl, rfl, T5.seq hS, rfl, aB, _, rfl, .inr (sB _), rfl, rfl, _, rfl, ?_⟩
    refine iteT ?_
    exact q _ _ T5 ⟨(by intro z; cases z), fun z => absurd z (by decide +kernel)⟩ rfl
end
end Fv
set_option Elab.async false
set_option linter.all false
set_option maxRecDepth 100000
set_option maxHeartbeats 2000000
namespace Fv
open PySem L2 TL
/-! ### statements as objects -/
def sf (ln : Int) (wd : Str) (g : V) (li lo : Addr) (fo : Int) : List (Str × V) :=
  [("line", .int ln), ("word", .str wd), ("given", g), ("inside", .ref li), ("otherwise", .ref lo), ("follow", .int fo)]
section
variable {ln fo : Int} {wd : Str} {g : V} {li lo : Addr}
theorem sf_line : (sf ln wd g li lo fo).lookup ("line" : Str) = some (V.int ln) := by kernel_rfl
theorem sf_word : (sf ln wd g li lo fo).lookup ("word" : Str) = some (V.str wd) := by kernel_rfl
theorem sf_given : (sf ln wd g li lo fo).lookup ("given" : Str) = some g := by kernel_rfl
theorem sf_inside : (sf ln wd g li lo fo).lookup ("inside" : Str) = some (V.ref li) := by kernel_rfl
theorem sf_otherwise : (sf ln wd g li lo fo).lookup ("otherwise" : Str) = some (V.ref lo) := by kernel_rfl
theorem sf_follow : (sf ln wd g li lo fo).lookup ("follow" : Str) = some (V.int fo) := by kernel_rfl
theorem put_inside {z : Addr} : putF "inside" (.ref z) (sf ln wd g li lo fo) = sf ln wd g z lo fo := by kernel_rfl
theorem put_otherwise {z : Addr} : putF "otherwise" (.ref z) (sf ln wd g li lo fo) = sf ln wd g li z fo := by kernel_rfl
theorem put_follow {k : Int} : putF "follow" (.int k) (sf ln wd g li lo fo) = sf ln wd g li lo k := by kernel_rfl
end
structure STxt (K : PySem.W.Frag) (C : Addr) : Prop where
  cl : Cls K C
  nLine : NoAttr K C "line"
  nWord : NoAttr K C "word"
  nGiven : NoAttr K C "given"
  nInside : NoAttr K C "inside"
  nOtherwise : NoAttr K C "otherwise"
  nFollow : NoAttr K C "follow"
abbrev s_Statement___init__ : Stmt := inClass (top 28) 0
abbrev sc_Statement___init__N : List Str := ["self", "line", "word", "given"]
theorem sc_Statement___init__ : FnScope sc_Statement___init__N ["self", "line", "word", "given"] (defScope s_Statement___init__) := ⟨rfl, rfl, rfl, by decide +kernel, rfl, by decide +kernel, by decide +kernel⟩
def spStInit (CS : Addr) : Sp := fun vs H Q _ => ∃ (a dx : Addr) (ln : Int) (wd : Str) (g : V), vs = [.ref a, .int ln, .str wd, g] ∧ H a = some (.ins CS dx []) ∧
  ∀ (li lo : Addr) (H' : Hp), H li = none → H lo = none → li ≠ lo → H' a = some (.ins CS dx (sf ln wd g li lo 0)) → H' li = some (.lst []) → H' lo = some (.lst []) → (∀ b o, H b = some o → b ≠ a → H' b = some o) → Q .non H'
section
variable {P : Program} {w : World} {K : PySem.W.Frag} {mg : Str → Option Value} {base : Heap}
theorem ok_st_init {f C : Addr} {fd : FuncData} (F : Fun K "__init__" "Statement.__init__" s_Statement___init__ f fd) (T : STxt K C) : FnOk P w K mg base CX0 1 f fd ["self", "line", "word", "given"] (spStInit C) := by
  refine F.ok sc_Statement___init__ (fun vs H Q E h => ?_) (fun cdv A outer st H vs Q E hr h => ?_)
  · obtain ⟨a, dx, ln, wd, g, rfl, _⟩ := h
    rfl
  obtain ⟨a, dx, ln, wd, g, rfl, ha, q⟩ := h
  refine ⟨_, (pss_cons (ps_fld (pv 0) (pv 1) rfl)
(pss_cons (ps_fld (pv 0) (pv 2) rfl)
(pss_cons (ps_fld (pv 0) (pv 3) rfl)
(pss_cons (ps_fld (pv 0) (pe_lst pa_nil) rfl)
(pss_cons (ps_fld (pv 0) (pe_lst pa_nil) rfl)
(pss_one (ps_fld (pv 0) pe_int rfl))))))), ?_⟩
  refine ⟨_, rfl, _, rfl, a, C, dx, _, rfl, ha, T.cl, T.nLine, (by show 0 < 1000; decide), ?_⟩
  refine ⟨_, rfl, _, rfl, a, C, dx, _, rfl, upd_same, T.cl, T.nWord, (by show 1 < 1000; decide), ?_⟩
  refine ⟨_, rfl, _, rfl, a, C, dx, _, rfl, upd_same, T.cl, T.nGiven, (by show 2 < 1000; decide), ?_⟩
  refine ⟨small (by show 0 ≤ 1000; decide), fun li hli => ?_⟩
  have n1 : a ≠ li := ne_of_none upd_same hli
  refine ⟨_, rfl, a, C, dx, _, rfl, (by rw [upd_ne n1]; exact upd_same), T.cl, T.nInside, (by show 3 < 1000; decide), ?_⟩
  refine ⟨small (by show 0 ≤ 1000; decide), fun lo hlo => ?_⟩
  have n2 : a ≠ lo := ne_of_none upd_same hlo
  refine ⟨_, rfl, a, C, dx, _, rfl, (by rw [upd_ne n2]; exact upd_same), T.cl, T.nOtherwise, (by show 4 < 1000; decide), ?_⟩
  refine ⟨_, rfl, a, C, dx, _, rfl, upd_same, T.cl, T.nFollow, (by show 5 < 1000; decide), ?_⟩
  have n3 : li ≠ lo := ne_of_none (by rw [upd_ne n1.symm]; exact upd_same) hlo
  refine q li lo _ ?_ ?_ n3 ?_ ?_ ?_ ?_
  · rw [upd_ne n1.symm, upd_ne n1.symm, upd_ne n1.symm] at hli
    exact hli
  · rw [upd_ne n2.symm, upd_ne n3.symm, upd_ne n2.symm, upd_ne n2.symm, upd_ne n2.symm] at hlo
    exact hlo
  · exact Eq.trans upd_same (congrArg (fun l => some (HO.ins C dx l)) (by kernel_rfl))
  · rw [upd_ne n1.symm, upd_ne n1.symm, upd_ne n3, upd_ne n1.symm]; exact upd_same
  · rw [upd_ne n2.symm, upd_ne n2.symm]; exact upd_same
  · intro b o hb nb
    rw [upd_ne nb, upd_ne nb]
    have hb1 : upd (upd (upd (upd (upd H a (.ins C dx (putF "line" (.int ln) []))) a (.ins C dx (putF "word" (.str wd) (putF "line" (.int ln) [])))) a (.ins C dx (putF "given" g (putF "word" (.str wd) (putF "line" (.int ln) []))))) li (.lst [])) a (.ins C dx (putF "inside" (.ref li) (putF "given" g (putF "word" (.str wd) (putF "line" (.int ln) []))))) b = some o := by
      rw [upd_ne nb]
      have hbl : (upd (upd (upd H a (.ins C dx (putF "line" (.int ln) []))) a (.ins C dx (putF "word" (.str wd) (putF "line" (.int ln) [])))) a (.ins C dx (putF "given" g (putF "word" (.str wd) (putF "line" (.int ln) []))))) b = some o := by
        rw [upd_ne nb, upd_ne nb, upd_ne nb]; exact hb
      rw [upd_ne (ne_of_none hbl hli)]
      exact hbl
    rw [upd_ne (ne_of_none hb1 hlo)]
    exact hb1
end
end Fv
set_option Elab.async false
set_option linter.all false
set_option maxRecDepth 100000
set_option maxHeartbeats 2000000
namespace Fv
open PySem L2 TL
/-! ### statements with their addresses -/
inductive AT where
  | node (a : Addr) (ln : Nat) (wd : Str) (g : V) (gv : Gv) (li lo : Addr) (ins oth : List AT)
def AT.a : AT → Addr
  | .node a _ _ _ _ _ _ _ _ => a
def AT.ln : AT → Nat
  | .node _ ln _ _ _ _ _ _ _ => ln
def refs (ts : List AT) : List V := ts.map fun t => V.ref t.a
mutual
def adrs : AT → List Addr
  | .node a _ _ _ _ _ _ ins oth => a :: (adrsAll ins ++ adrsAll oth)
def adrsAll : List AT → List Addr
  | [] => []
  | t :: ts => adrs t ++ adrsAll ts
end
mutual
def ht : AT → Nat
  | .node _ _ _ _ _ _ _ ins oth => max (htAll ins) (htAll oth) + 1
def htAll : List AT → Nat
  | [] => 0
  | t :: ts => max (ht t) (htAll ts)
end
mutual
/-- a tree of statements; all of it new since G -/
def TOk (CS : Addr) (G : Addr → Prop) (H : Hp) : AT → Prop
  | .node a ln wd g gv li lo ins oth => G a ∧ (∃ (dx : Addr) (fo : Int), H a = some (.ins CS dx (sf (ln : Int) wd g li lo fo))) ∧ GvAt H g gv ∧ H li = some (.lst (refs ins)) ∧ H lo = some (.lst (refs oth)) ∧
      (ins.length ≤ 20 ∧ G li ∧ G lo) ∧ oth.length ≤ 20 ∧ TOks CS G H ins ∧ TOks CS G H oth
def TOks (CS : Addr) (G : Addr → Prop) (H : Hp) : List AT → Prop
  | [] => True
  | t :: ts => TOk CS G H t ∧ TOks CS G H ts
end
theorem toks_iff {CS : Addr} {G : Addr → Prop} {H : Hp} : ∀ {ts : List AT}, TOks CS G H ts ↔ ∀ t ∈ ts, TOk CS G H t
  | [] => ⟨fun _ t h => (nomatch h), fun _ => by simp only [TOks]⟩
  | t :: ts => by
    simp only [TOks]
    rw [toks_iff]
    exact ⟨fun h u m => by
      rcases List.mem_cons.mp m with rfl | m
      · exact h.1
      · exact h.2 u m, fun h => ⟨h t (.head _), fun u m => h u (.tail _ m)⟩⟩
/-- what comes behind: the first of the rest, or the end -/
def nxt (e : Nat) : List AT → Nat
  | [] => e
  | u :: _ => u.ln
def bk (wd : Str) (ln f : Nat) : Nat := if wd = "while" then ln else f
def FoAt (CS : Addr) (H : Hp) (a : Addr) (f : Nat) : Prop := ∃ (dx : Addr) (ln : Int) (wd : Str) (g : V) (li lo : Addr), H a = some (.ins CS dx (sf ln wd g li lo (f : Int)))
mutual
/-- what follows is told throughout -/
def LkT (CS : Addr) (H : Hp) : AT → Nat → Prop
  | .node a ln wd _ _ _ _ ins oth, f => FoAt CS H a f ∧ Lk CS H ins (bk wd ln f) ∧ Lk CS H oth (bk wd ln f)
def Lk (CS : Addr) (H : Hp) : List AT → Nat → Prop
  | [], _ => True
  | t :: ts, e => LkT CS H t (nxt e ts) ∧ Lk CS H ts e
end
/-- nothing but what follows a statement is other -/
def Fol (CS : Addr) (H H' : Hp) : Prop := ∀ b o, H b = some o → H' b = some o ∨
  ∃ (dx : Addr) (ln : Int) (wd : Str) (g : V) (li lo : Addr) (fo fo' : Int), o = .ins CS dx (sf ln wd g li lo fo) ∧ H' b = some (.ins CS dx (sf ln wd g li lo fo'))
theorem Fol.of_same {CS : Addr} {H H' : Hp} (s : Same H H') : Fol CS H H' := fun b o h => .inl (s b o h)
theorem Fol.trans {CS : Addr} {H H1 H2 : Hp} (a : Fol CS H H1) (b : Fol CS H1 H2) : Fol CS H H2 := fun c o h => by
  rcases a c o h with h1 | ⟨dx, ln, wd, g, li, lo, fo, fo', e, h1⟩
  · exact b c o h1
  · rcases b c _ h1 with h2 | ⟨dx2, ln2, wd2, g2, li2, lo2, fo2, fo3, e2, h2⟩
    · exact .inr ⟨dx, ln, wd, g, li, lo, fo, fo', e, h2⟩
    · refine .inr ⟨dx, ln, wd, g, li, lo, fo, fo3, e, ?_⟩
      rw [h2]
      have z : sf ln wd g li lo fo' = sf ln2 wd2 g2 li2 lo2 fo2 ∧ dx = dx2 := by
        injection e2 with _ q1 q2
        exact ⟨q2, q1⟩
      obtain ⟨z1, z2⟩ := z
      unfold sf at z1
      simp only [List.cons.injEq, Prod.mk.injEq, V.int.injEq, V.str.injEq, V.ref.injEq, true_and, and_true] at z1
      obtain ⟨r1, r2, r3, r4, r5, r6⟩ := z1
      subst r1 r2 r3 r4 r5 z2
      rfl
theorem Fol.lst {CS : Addr} {H H' : Hp} (f : Fol CS H H') {b : Addr} {xs : List V} (h : H b = some (.lst xs)) : H' b = some (.lst xs) := by
  rcases f b _ h with h1 | ⟨_, _, _, _, _, _, _, _, e, _⟩
  · exact h1
  · cases e
theorem Fol.st {CS : Addr} {H H' : Hp} (f : Fol CS H H') {b dx : Addr} {ln : Int} {wd : Str} {g : V} {li lo : Addr} {fo : Int} (h : H b = some (.ins CS dx (sf ln wd g li lo fo))) : ∃ fo', H' b = some (.ins CS dx (sf ln wd g li lo fo')) := by
  rcases f b _ h with h1 | ⟨dx2, ln2, wd2, g2, li2, lo2, fo2, fo3, e2, h2⟩
  · exact ⟨fo, h1⟩
  · have z : sf ln wd g li lo fo = sf ln2 wd2 g2 li2 lo2 fo2 ∧ dx = dx2 := by
      injection e2 with _ q1 q2
      exact ⟨q2, q1⟩
    obtain ⟨z1, z2⟩ := z
    unfold sf at z1
    simp only [List.cons.injEq, Prod.mk.injEq, V.int.injEq, V.str.injEq, V.ref.injEq, true_and, and_true] at z1
    obtain ⟨r1, r2, r3, r4, r5, r6⟩ := z1
    subst r1 r2 r3 r4 r5 z2
    exact ⟨fo3, h2⟩
theorem Fol.tup {CS : Addr} {H H' : Hp} (f : Fol CS H H') {b : Addr} {xs : List V} (h : H b = some (.tup xs)) : H' b = some (.tup xs) := by
  rcases f b _ h with h1 | ⟨_, _, _, _, _, _, _, _, e, _⟩
  · exact h1
  · cases e
theorem GvAt.fol {CS : Addr} {H H' : Hp} (f : Fol CS H H') {g : V} : ∀ {gv : Gv}, GvAt H g gv → GvAt H' g gv
  | .non, h => h
  | .letter _, h => h
  | .pair _ _, ⟨b, h1, h2⟩ => ⟨b, h1, f.tup h2⟩
  | .cond _ _ _ _, ⟨b, h1, c, h2, h3⟩ => ⟨b, h1, c, f.tup h2, f.tup h3⟩
  | .part _, h => h
mutual
theorem TOk.fol {CS : Addr} {G : Addr → Prop} {H H' : Hp} (f : Fol CS H H') : ∀ (t : AT), TOk CS G H t → TOk CS G H' t
  | .node a ln wd g gv li lo ins oth, h => by
    simp only [TOk] at h ⊢
    obtain ⟨h0, ⟨dx, fo, h1⟩, h2, h3, h4, h5, h6, h7, h8⟩ := h
    obtain ⟨fo', h1'⟩ := f.st h1
    exact ⟨h0, ⟨dx, fo', h1'⟩, h2.fol f, f.lst h3, f.lst h4, h5, h6, TOks.fol f ins h7, TOks.fol f oth h8⟩
theorem TOks.fol {CS : Addr} {G : Addr → Prop} {H H' : Hp} (f : Fol CS H H') : ∀ (ts : List AT), TOks CS G H ts → TOks CS G H' ts
  | [], _ => by simp only [TOks]
  | t :: ts, h => by
    simp only [TOks] at h ⊢
    exact ⟨TOk.fol f t h.1, TOks.fol f ts h.2⟩
end
theorem Fol.at_ {CS : Addr} {H : Hp} {b dx : Addr} {ln : Int} {wd : Str} {g : V} {li lo : Addr} {fo fo' : Int} (h : H b = some (.ins CS dx (sf ln wd g li lo fo))) : Fol CS H (upd H b (.ins CS dx (sf ln wd g li lo fo'))) := fun c o hc => by
  by_cases e : c = b
  · subst e
    rw [h] at hc
    exact .inr ⟨dx, ln, wd, g, li, lo, fo, fo', (Option.some.inj hc).symm, upd_same⟩
  · exact .inl (by rw [upd_ne e]; exact hc)
/-- .. and none but those of S -/
def FolS (CS : Addr) (S : Addr → Prop) (H H' : Hp) : Prop := Fol CS H H' ∧ ∀ b o, ¬ S b → H b = some o → H' b = some o
theorem FolS.of_same {CS : Addr} {S : Addr → Prop} {H H' : Hp} (s : Same H H') : FolS CS S H H' := ⟨Fol.of_same s, fun b o _ h => s b o h⟩
theorem FolS.trans {CS : Addr} {S : Addr → Prop} {H H1 H2 : Hp} (a : FolS CS S H H1) (b : FolS CS S H1 H2) : FolS CS S H H2 := ⟨a.1.trans b.1, fun c o n h => b.2 c o n (a.2 c o n h)⟩
theorem FolS.mono {CS : Addr} {S S' : Addr → Prop} {H H' : Hp} (a : FolS CS S H H') (i : ∀ b, S b → S' b) : FolS CS S' H H' := ⟨a.1, fun b o n h => a.2 b o (fun z => n (i b z)) h⟩
theorem FolS.at_ {CS : Addr} {H : Hp} {b dx : Addr} {ln : Int} {wd : Str} {g : V} {li lo : Addr} {fo fo' : Int} (h : H b = some (.ins CS dx (sf ln wd g li lo fo))) : FolS CS (fun c => c = b) H (upd H b (.ins CS dx (sf ln wd g li lo fo'))) := ⟨Fol.at_ h, fun c o n hc => by rw [upd_ne n]; exact hc⟩
theorem FoAt.keep {CS : Addr} {S : Addr → Prop} {H H' : Hp} (f : FolS CS S H H') {a : Addr} {k : Nat} (n : ¬ S a) (h : FoAt CS H a k) : FoAt CS H' a k := by
  obtain ⟨dx, ln, wd, g, li, lo, e⟩ := h
  exact ⟨dx, ln, wd, g, li, lo, f.2 _ _ n e⟩
mutual
theorem LkT.keep {CS : Addr} {S : Addr → Prop} {H H' : Hp} (f : FolS CS S H H') : ∀ (t : AT) (e : Nat), (∀ b ∈ adrs t, ¬ S b) → LkT CS H t e → LkT CS H' t e
  | .node a ln wd g gv li lo ins oth, e, n, h => by
    simp only [adrs, List.mem_cons, List.mem_append] at n
    simp only [LkT] at h ⊢
    exact ⟨h.1.keep f (n a (.inl rfl)), Lk.keep f ins _ (fun b m => n b (.inr (.inl m))) h.2.1, Lk.keep f oth _ (fun b m => n b (.inr (.inr m))) h.2.2⟩
theorem Lk.keep {CS : Addr} {S : Addr → Prop} {H H' : Hp} (f : FolS CS S H H') : ∀ (ts : List AT) (e : Nat), (∀ b ∈ adrsAll ts, ¬ S b) → Lk CS H ts e → Lk CS H' ts e
  | [], _, _, _ => by simp only [Lk]
  | t :: ts, e, n, h => by
    simp only [adrsAll, List.mem_append] at n
    simp only [Lk] at h ⊢
    exact ⟨LkT.keep f t _ (fun b m => n b (.inl m)) h.1, Lk.keep f ts e (fun b m => n b (.inr m)) h.2⟩
end
theorem lk_of {CS : Addr} {H : Hp} {e : Nat} : ∀ {ts : List AT}, (∀ j t, ts[j]? = some t → LkT CS H t (nxt e (ts.drop (j + 1)))) → Lk CS H ts e
  | [], _ => by simp only [Lk]
  | t :: ts, h => by
    simp only [Lk]
    exact ⟨h 0 t rfl, lk_of fun j u hu => h (j + 1) u hu⟩
theorem adrs_all (xs ys : List AT) : adrsAll (xs ++ ys) = adrsAll xs ++ adrsAll ys := by
  induction xs with
  | nil => rfl
  | cons t ts ih =>
    show adrs t ++ adrsAll (ts ++ ys) = (adrs t ++ adrsAll ts) ++ adrsAll ys
    rw [ih, List.append_assoc]
theorem ht_mem {t : AT} : ∀ {ts : List AT}, t ∈ ts → ht t ≤ htAll ts
  | [], h => (nomatch h)
  | u :: ts, h => by
    simp only [htAll]
    rcases List.mem_cons.mp h with rfl | h
    · omega
    · have := ht_mem h
      omega
def lnsOf (ts : List AT) : List Int := ts.map fun t => (t.ln : Int)
/-- what follows, one by one -/
def folsOf (e : Nat) (ts : List AT) : List Int := lnsOf (ts.drop 1) ++ [(e : Int)]
theorem fols_at (e : Nat) : ∀ (ts : List AT) (i : Nat), i < ts.length → (folsOf e ts)[i]? = some ((nxt e (ts.drop (i + 1)) : Nat) : Int)
  | t :: ts, 0, _ => by
    cases ts with
    | nil => rfl
    | cons u us => rfl
  | t :: u :: us, i + 1, h => by
    have ih := fols_at e (u :: us) i (by simpa using h)
    show (lnsOf (u :: us) ++ [(e : Int)])[i + 1]? = _
    exact ih
  | [t], i + 1, h => absurd h (by simp)
theorem adrs_mem {t : AT} : ∀ {ts : List AT}, t ∈ ts → ∀ b ∈ adrs t, b ∈ adrsAll ts
  | [], h, _, _ => (nomatch h)
  | u :: ts, h, b, m => by
    simp only [adrsAll, List.mem_append]
    rcases List.mem_cons.mp h with rfl | h
    · exact .inl m
    · exact .inr (adrs_mem h b m)
theorem nd_at {ts : List AT} {i : Nat} {t : AT} (h : ts[i]? = some t) (n : (adrsAll ts).Nodup) : (adrs t).Nodup ∧ (∀ b ∈ adrsAll (ts.take i), ∀ c ∈ adrs t, b ≠ c) ∧ adrsAll (ts.take (i + 1)) = adrsAll (ts.take i) ++ adrs t := by
  have e1 : adrsAll (ts.take (i + 1)) = adrsAll (ts.take i) ++ adrs t := by
    rw [List.take_succ, h, adrs_all]
    show _ ++ (adrs t ++ []) = _
    rw [List.append_nil]
  rw [← List.take_append_drop (i + 1) ts, adrs_all] at n
  have n1 := (List.nodup_append.mp n).1
  rw [e1] at n1
  exact ⟨(List.nodup_append.mp n1).2.1, (List.nodup_append.mp n1).2.2, e1⟩
theorem adrs_take {n : Nat} {ts : List AT} {b : Addr} (h : b ∈ adrsAll (ts.take n)) : b ∈ adrsAll ts := by
  rw [← List.take_append_drop n ts, adrs_all]
  exact List.mem_append_left _ h
theorem fols_len (e : Nat) (ts : List AT) : ts.length ≤ (folsOf e ts).length := by
  unfold folsOf lnsOf
  rw [List.length_append, List.length_map, List.length_drop]
  show _ ≤ _ + 1
  omega
abbrev s_link : Stmt := top 29
abbrev sc_linkN : List Str := ["body", "end", "follows", "statement", "follow", "back"]
theorem sc_link : FnScope sc_linkN ["body", "end"] (defScope s_link) := ⟨rfl, rfl, rfl, by decide +kernel, rfl, by decide +kernel, by decide +kernel⟩
/-- link: n calls, one in another, are allowed -/
def spLink (CS : Addr) : Nat → Sp
  | 0 => fun _ _ _ _ => False
  | n + 1 => fun vs H Q _ => ∃ (lb : Addr) (e : Nat) (ts : List AT) (G : Addr → Prop), vs = [.ref lb, .int (e : Int)] ∧ H lb = some (.lst (refs ts)) ∧ ts.length ≤ 20 ∧ htAll ts ≤ n ∧ TOks CS G H ts ∧ (adrsAll ts).Nodup ∧
    ∀ H', FolS CS (fun b => b ∈ adrsAll ts) H H' → Lk CS H' ts e → Q .non H'
section
variable {P : Program} {w : World} {K : PySem.W.Frag} {mg : Str → Option Value} {base : Heap}
theorem ok_link_step {f CS : Addr} {fd : FuncData} {n : Nat} (F : Fun K "link" "link" s_link f fd) (TS : STxt K CS) (mz : mg "zip" = none) (C : Callee P w K mg base n "link" ["body", "end"] (spLink CS n)) : FnOk P w K mg base CX0 (n + 1) f fd ["body", "end"] (spLink CS (n + 1)) := by
  refine F.ok sc_link (fun vs H Q E h => ?_) (fun cdv A outer st H vs Q E hr h => ?_)
  · obtain ⟨lb, e, xs, G, rfl, _⟩ := h
    rfl
  obtain ⟨lb, e, ts, G, rfl, hb, hl, hh, hT, hN, q⟩ := h
  refine ⟨_, (pss_cons (ps_set (i := 2) sc_link.nd rfl (Or.inl rfl) (pe_op op_cat (pe_lc (own := [("statement", 3)]) (g := gName 3) rfl sc_link.nd (pi_list (pe_slice sl_list (pv 0) (po_some pe_int) po_none)) (blkOk_by (N := sc_linkN) (sc := defScope s_link) (by decide +kernel)) (fun _ _ _ _ _ => pg_name (i := 3) sc_link.nd rfl (Or.inl rfl)) (fun _ _ _ _ _ => pts_nil) (fun _ _ _ _ _ => (show PE _ _ (tFld K (tVar 3) "line") from pe_fld (pv 3) rfl))) (pe_lst (pa_cons (pv 1) pa_nil))))
(pss_one (ps_for PassesOwn.never rfl (pi_zip (by rfl) mz (pa_cons (pv 0) (pa_cons (pv 2) pa_nil))) (pg_tup (by rfl) (pgs_cons (pg_name (i := 3) sc_link.nd rfl (Or.inl rfl)) (pgs_cons (pg_name (i := 4) sc_link.nd rfl (Or.inl rfl)) pgs_nil)))
(pss_cons (ps_fld (pv 3) (pv 4) rfl)
(pss_cons (ps_set (i := 5) sc_link.nd rfl (Or.inl rfl) (pe_ifExp (pt_cmpR op_eq (pe_fld (pv 3) rfl) pe_str (nomark _)) (pe_fld (pv 3) rfl) (pv 4)))
(pss_cons (ps_expr (pe_call C.ok hr rfl C.mg C.kp C.b .nil pass0 (pa_cons (pe_fld (pv 3) rfl) (pa_cons (pv 5) pa_nil))))
(pss_one (ps_expr (pe_call C.ok hr rfl C.mg C.kp C.b .nil pass0 (pa_cons (pe_fld (pv 3) rfl) (pa_cons (pv 5) pa_nil))))))))))), ?_⟩
  have hT' := toks_iff.mp hT
  refine ⟨_, rfl, 1, rfl, lb, _, rfl, .inl (.inl hb), fun S hS => ?_⟩
  have s1 := same_new hS (.lst (cutV (refs ts) (some 1) none))
  have cut : cutV (refs ts) (some 1) none = refs (ts.drop 1) := by
    unfold cutV
    have hlen : (refs ts).length = ts.length := List.length_map _
    rw [HT.sIx_none, show HT.sIx (refs ts).length 0 (some 1) = min 1 (refs ts).length from HT.sIx_nat _ _ 1, hlen]
    cases ts with
    | nil => rfl
    | cons x r =>
      rw [List.length_cons, Nat.min_eq_left (by omega)]
      show List.take _ (refs r) = refs r
      exact List.take_of_length_le (by rw [show (refs r).length = r.length from List.length_map _]; omega)
  rw [cut] at s1 ⊢
  refine ⟨S, rfl, ⟨_, .inl (.inl upd_same)⟩, fun D hD => ?_⟩
  have nSD : S ≠ D := ne_of_none upd_same hD
  refine lc_list (K := K) (a := S) (xs := refs (ts.drop 1)) (fun i H1 => H1 = upd (upd H S (.lst (refs (ts.drop 1)))) D (.lst ((lnsOf ((ts.drop 1).take i)).map V.int))) rfl (fun i H1 _ e1 => .inl (.inl (by rw [e1, upd_ne nSD]; exact upd_same))) ?_ ?_
  · rintro i x H1 hx rfl
    refine ⟨rfl, ?_⟩
    simp only [tYes, ↓reduceIte]
    unfold refs at hx
    rw [List.getElem?_map] at hx
    obtain ⟨y, hy, rfl⟩ := Option.map_eq_some_iff.mp hx
    have hyx : y ∈ ts := List.mem_of_mem_drop (List.mem_of_getElem? hy)
    have ht := hT' y hyx
    have hil : i < ts.length := by
      have := (List.getElem?_eq_some_iff.mp hy).1
      rw [List.length_drop] at this
      omega
    have e2 : lnsOf ((ts.drop 1).take (i + 1)) = lnsOf ((ts.drop 1).take i) ++ [(y.ln : Int)] := by
      rw [List.take_succ, hy]
      unfold lnsOf
      rw [List.map_append]
      rfl
    have e3 : (lnsOf ((ts.drop 1).take i)).length ≤ 20 := by
      unfold lnsOf
      rw [List.length_map, List.length_take, List.length_drop]
      omega
    obtain ⟨a, ln, wd, g, gv, li, lo, ins, oth⟩ := y
    simp only [TOk] at ht
    obtain ⟨_, ⟨dx, fo, h1⟩, _⟩ := ht
    have h1' := (s1.trans (same_new hD (.lst ((lnsOf ((ts.drop 1).take i)).map V.int)))) _ _ h1
    refine ⟨_, rfl, a, CS, dx, _, _, rfl, h1', TS.cl, TS.nLine, sf_line, _, upd_same, ?_, ?_⟩
    · rw [List.length_map]
      exact small1000 (by omega)
    · rw [upd_upd, e2, List.map_append]
      rfl
  · rintro H1 rfl
    have eA : (ts.drop 1).take (refs (ts.drop 1)).length = ts.drop 1 := by
      rw [show (refs (ts.drop 1)).length = (ts.drop 1).length from List.length_map _, List.take_length]
    rw [eA]
    have ea : (lnsOf (ts.drop 1)).length ≤ 20 := by
      unfold lnsOf
      rw [List.length_map, List.length_drop]
      omega
    have sD := same_new hD (.lst ((lnsOf (ts.drop 1)).map V.int))
    refine ⟨_, rfl, small (by show 1 ≤ 1000; decide), fun L hL => ?_⟩
    have sL := same_new hL (.lst [.int e])
    refine ⟨D, L, _, _, rfl, rfl, sL _ _ upd_same, upd_same, ?_, fun Fl hFl => ?_⟩
    · rw [List.length_map]
      exact small (by show _ + 1 ≤ 1000; omega)
    have sF := same_new hFl (.lst ((lnsOf (ts.drop 1)).map V.int ++ [.int e]))
    have sAll : Same H _ := ((s1.trans sD).trans sL).trans sF
    have eF : (lnsOf (ts.drop 1)).map V.int ++ [V.int e] = (folsOf e ts).map V.int := by unfold folsOf; rw [List.map_append]; rfl
    rw [eF] at sAll sF ⊢
    refine ⟨_, rfl, _, rfl, lb, Fl, refs ts, (folsOf e ts).map V.int, rfl, .inl (.inl (sAll _ _ hb)), .inl (.inl upd_same), ?_⟩
    refine for_it (walk_zip rfl) (fun i σ H2 => ∃ y3 y4 y5, σ = [some (.ref lb), some (.int e), some (.ref Fl), y3, y4, y5] ∧ FolS CS (fun b => b ∈ adrsAll (ts.take i)) H H2 ∧ H2 lb = some (.lst (refs ts)) ∧ H2 Fl = some (.lst ((folsOf e ts).map V.int)) ∧ ∀ j t, j < i → ts[j]? = some t → LkT CS H2 t (nxt e (ts.drop (j + 1))))
      ⟨none, none, none, rfl, FolS.of_same sAll, sAll _ _ hb, upd_same, fun j t h => absurd h (by omega)⟩ (fun i σ H2 _ ⟨_, _, _, _, _, e1, e2, _⟩ => ⟨.inl (.inl e1), .inl (.inl e2)⟩) ?_ (fun σ H2 ⟨_, _, _, _, fo, _, _, hk⟩ => q H2 (fo.mono fun b m => adrs_take m) (lk_of fun j t hj => hk j t (by
        have := fols_len e ts
        have := (List.getElem?_eq_some_iff.mp hj).1
        rw [show (refs ts).length = ts.length from List.length_map _, List.length_map]
        omega) hj))
    rintro i v σ H2 H2' hi ⟨y3, y4, y5, rfl, fo, e1, e2, hk⟩ ⟨T, x, y, rfl, hT0, rfl, hx, hy⟩
    obtain ⟨t, ht, rfl⟩ : ∃ t, ts[i]? = some t ∧ x = V.ref t.a := by
      dsimp only at hx
      unfold refs at hx
      rw [List.getElem?_map] at hx
      obtain ⟨a, h1, h2⟩ := Option.map_eq_some_iff.mp hx
      exact ⟨a, h1, h2.symm⟩
    obtain ⟨f, hf, rfl⟩ : ∃ f : Nat, nxt e (ts.drop (i + 1)) = f ∧ y = V.int (f : Int) := by
      dsimp only at hy
      rw [List.getElem?_map, fols_at e ts i (List.getElem?_eq_some_iff.mp ht).1] at hy
      exact ⟨_, rfl, (Option.some.inj hy).symm⟩
    obtain ⟨nd1, nd2, nd3⟩ := nd_at ht hN
    have hta := (hT' t (List.mem_of_getElem? ht)).fol fo.1
    have hht := Nat.le_trans (ht_mem (List.mem_of_getElem? ht)) hh
    obtain ⟨ta, eta⟩ : ∃ z, t.a = z := ⟨_, rfl⟩
    rw [eta]
    obtain ⟨a, ln, wd, g, gv, li, lo, us, vs⟩ := t
    have eta' : a = ta := eta
    subst eta'
    cases n with
    | zero => simp only [Fv.ht] at hht; omega
    | succ m =>
      simp only [Fv.ht] at hht
      simp only [TOk] at hta
      simp only [adrs] at nd1 nd2 nd3
      have nd1' := List.nodup_cons.mp nd1
      obtain ⟨nu, nv, nuv⟩ := List.nodup_append.mp nd1'.2
      have na := nd1'.1
      rw [List.mem_append] at na
      obtain ⟨ga, ⟨dx, f0, h1⟩, hgv, h2, h3, h4, h5, h6, h7⟩ := hta
      have sT := same_new hT0 (.tup [.ref a, .int (f : Int)])
      refine ⟨T, _, rfl, .inl (.inl upd_same), rfl, _, _, rfl, _, _, rfl, rfl, ?_⟩
      refine ⟨_, rfl, _, rfl, a, CS, dx, _, rfl, sT _ _ h1, TS.cl, TS.nFollow, (by show 6 < 1000; decide), ?_⟩
      rw [put_follow]
      have f2 : FolS CS (fun b => b = a) H2 (upd (upd H2 T (.tup [.ref a, .int (f : Int)])) a (.ins CS dx (sf ln wd g li lo f))) := (FolS.of_same sT).trans (FolS.at_ (sT _ _ h1))
      have ea : (upd (upd H2 T (.tup [.ref a, .int (f : Int)])) a (.ins CS dx (sf ln wd g li lo f))) a = some (.ins CS dx (sf ln wd g li lo f)) := upd_same
      generalize upd (upd H2 T (.tup [.ref a, .int (f : Int)])) a (.ins CS dx (sf ln wd g li lo f)) = H3 at f2 ea ⊢
      have k1 : H3 li = some (.lst (refs us)) := f2.1.lst h2
      have k2 : TOks CS G H3 us := h6.fol f2.1 us
      have fin : ∀ (y5 : Option V) (H4 H5 : Hp), FolS CS (fun b => b ∈ adrsAll us) H3 H4 → Lk CS H4 us (bk wd ln f) → FolS CS (fun b => b ∈ adrsAll vs) H4 H5 → Lk CS H5 vs (bk wd ln f) → ∃ y3 y4 y5', [some (.ref lb), some (.int e), some (.ref Fl), some (.ref a), some (.int (f : Int)), y5] = [some (.ref lb), some (.int e), some (.ref Fl), y3, y4, y5'] ∧ FolS CS (fun b => b ∈ adrsAll (ts.take (i + 1))) H H5 ∧ H5 lb = some (.lst (refs ts)) ∧ H5 Fl = some (.lst ((folsOf e ts).map V.int)) ∧
          ∀ j t, j < i + 1 → ts[j]? = some t → LkT CS H5 t (nxt e (ts.drop (j + 1))) := fun y5 H4 H5 f4 l4 f5 l5 => by
        have fS : FolS CS (fun b => b ∈ adrs (.node a ln wd g gv li lo us vs)) H2 H5 := by
          refine ((f2.mono fun b m => ?_).trans (f4.mono fun b m => ?_)).trans (f5.mono fun b m => ?_)
          · subst m
            simp only [adrs]
            exact .head _
          · simp only [adrs]
            exact .tail _ (List.mem_append_left _ m)
          · simp only [adrs]
            exact .tail _ (List.mem_append_right _ m)
        refine ⟨_, _, _, rfl, ?_, f5.1.lst (f4.1.lst (f2.1.lst e1)), f5.1.lst (f4.1.lst (f2.1.lst e2)), fun j t hj hjt => ?_⟩
        · refine (fo.mono fun b m => ?_).trans (fS.mono fun b m => ?_)
          · rw [nd3]
            exact List.mem_append_left _ m
          · rw [nd3]
            simp only [adrs] at m
            exact List.mem_append_right _ m
        · by_cases hji : j = i
          · subst hji
            rw [ht] at hjt
            cases hjt
            rw [hf]
            simp only [LkT]
            refine ⟨?_, l4.keep f5 us _ (fun b m z => nuv b m b z rfl), l5⟩
            exact (FoAt.keep f4 (fun z => na (.inl z)) ⟨dx, ln, wd, g, li, lo, ea⟩).keep f5 (fun z => na (.inr z))
          · refine (hk j t (by omega) hjt).keep fS t _ (fun b m z => ?_)
            have m1 : b ∈ adrsAll (ts.take i) := adrs_mem (List.mem_of_getElem? (i := j) (by rw [List.getElem?_take_of_lt (by omega)]; exact hjt)) b m
            simp only [adrs] at z
            exact nd2 b m1 b z rfl
      refine ⟨_, rfl, a, CS, dx, _, _, rfl, ea, TS.cl, TS.nWord, sf_word, rfl, _, rfl, ?_⟩
      have hu : htAll us ≤ m := by omega
      have hv : htAll vs ≤ m := by omega
      refine ite2 (fun hw => ?_) (fun hw => ?_)
      · have hw' : wd = "while" := V.str.inj (of_decide_eq_true hw)
        have eb : bk wd ln f = ln := if_pos hw'
        rw [eb] at fin
        refine ⟨_, rfl, a, CS, dx, _, _, rfl, ea, TS.cl, TS.nLine, sf_line, ?_⟩
        refine ⟨_, rfl, a, CS, dx, _, _, rfl, ea, TS.cl, TS.nInside, sf_inside, _, rfl, li, ln, us, G, rfl, k1, h4.1, hu, k2, nu, fun H4 f4 l4 => ?_⟩
        obtain ⟨fo4, ea4⟩ := f4.1.st ea
        refine ⟨_, rfl, a, CS, dx, _, _, rfl, ea4, TS.cl, TS.nOtherwise, sf_otherwise, _, rfl, lo, ln, vs, G, rfl, f4.1.lst (f2.1.lst h3), h5, hv, (h7.fol f2.1 vs).fol f4.1 vs, nv, fun H5 f5 l5 => ?_⟩
        exact fin _ H4 H5 f4 l4 f5 l5
      · have hw' : ¬ wd = "while" := fun z => hw (decide_eq_true (congrArg V.str z))
        have eb : bk wd ln f = f := if_neg hw'
        rw [eb] at fin
        refine ⟨_, rfl, ?_⟩
        refine ⟨_, rfl, a, CS, dx, _, _, rfl, ea, TS.cl, TS.nInside, sf_inside, _, rfl, li, f, us, G, rfl, k1, h4.1, hu, k2, nu, fun H4 f4 l4 => ?_⟩
        obtain ⟨fo4, ea4⟩ := f4.1.st ea
        refine ⟨_, rfl, a, CS, dx, _, _, rfl, ea4, TS.cl, TS.nOtherwise, sf_otherwise, _, rfl, lo, f, vs, G, rfl, f4.1.lst (f2.1.lst h3), h5, hv, (h7.fol f2.1 vs).fol f4.1 vs, nv, fun H5 f5 l5 => ?_⟩
        exact fin _ H4 H5 f4 l4 f5 l5
theorem ok_link0 {f CS : Addr} {fd : FuncData} : FnOk P w K mg base CX0 0 f fd ["body", "end"] (spLink CS 0) :=
  ⟨fun _ _ _ _ h => h.elim, fun _ _ _ _ _ _ _ _ _ _ _ _ _ h => h.elim⟩
/-- link, so many calls deep -/
theorem ok_link {f CS : Addr} {fd : FuncData} (F : Fun K "link" "link" s_link f fd) (TS : STxt K CS) (mz : mg "zip" = none) (ml : mg "link" = some (.ref f)) (b : Binds K fd ["body", "end"] []) : ∀ n, FnOk P w K mg base CX0 n f fd ["body", "end"] (spLink CS n)
  | 0 => ok_link0
  | n + 1 => ok_link_step F TS mz ⟨f, fd, ok_link F TS mz ml b n, ml, F.kp, b⟩
end
end Fv
set_option Elab.async false
set_option linter.all false
set_option maxRecDepth 100000
set_option maxHeartbeats 2000000
namespace Fv
open PySem L2 TL
/-! ### what rows are statements, bodies -/
/-- a statement as the text tells it -/
inductive Tr where
  | node (ln : Nat) (wd : Str) (gv : Gv) (ins oth : List Tr)
mutual
def AT.tr : AT → Tr
  | .node _ ln wd _ gv _ _ ins oth => .node ln wd gv (trs ins) (trs oth)
def trs : List AT → List Tr
  | [] => []
  | t :: ts => t.tr :: trs ts
end
mutual
/-- the rows of the table, as they are added -/
def ents : AT → List (Key × V)
  | .node a ln _ _ _ _ _ ins oth => ((Sum.inl (ln : Int) : Key), V.ref a) :: (entsAll ins ++ entsAll oth)
def entsAll : List AT → List (Key × V)
  | [] => []
  | t :: ts => ents t ++ entsAll ts
end
theorem ents_all (xs ys : List AT) : entsAll (xs ++ ys) = entsAll xs ++ entsAll ys := by
  induction xs with
  | nil => simp only [List.nil_append, entsAll]
  | cons t ts ih => simp only [List.cons_append, entsAll, ih, List.append_assoc]
theorem ents_one (t : AT) : entsAll [t] = ents t := by simp only [entsAll, List.append_nil]
theorem adrs_one (t : AT) : adrsAll [t] = adrs t := by simp only [adrsAll, List.append_nil]
theorem ht_all (xs ys : List AT) : htAll (xs ++ ys) = max (htAll xs) (htAll ys) := by
  induction xs with
  | nil => simp only [List.nil_append, htAll, Nat.zero_max]
  | cons t ts ih => simp only [List.cons_append, htAll, ih, Nat.max_assoc]
theorem ht_one (t : AT) : htAll [t] = ht t := by simp only [htAll, Nat.max_zero]
theorem trs_map : ∀ ts : List AT, trs ts = ts.map AT.tr
  | [] => by simp only [trs, List.map_nil]
  | t :: ts => by simp only [trs, List.map_cons, trs_map ts]
mutual
inductive Stm (sy : Str) (ms ss : NV) : Nat → Nat → List Row → Nat → Tr → Prop where
  | plain (d k : Nat) (x : Str) (r : List Str) (gv : Gv) : Giv sy ms ss (x :: r) gv → x ≠ "if" → x ≠ "while" → d ≤ 4 → Stm sy ms ss d k [(d, x :: r)] 1 (.node (k + 1) x gv [] [])
  | loop (d k : Nat) (r : List Str) (gv : Gv) (b : List Row) (n : Nat) (ts : List Tr) : Giv sy ms ss ("while" :: r) gv → d ≤ 4 → Bod sy ms ss (d + 1) (k + 1) b n ts → Stm sy ms ss d k ((d, "while" :: r) :: b) (n + 1) (.node (k + 1) "while" gv ts [])
  | cond (d k : Nat) (r : List Str) (gv : Gv) (b : List Row) (n : Nat) (ts : List Tr) : Giv sy ms ss ("if" :: r) gv → d ≤ 4 → Bod sy ms ss (d + 1) (k + 1) b n ts → Stm sy ms ss d k ((d, "if" :: r) :: b) (n + 1) (.node (k + 1) "if" gv ts [])
  | both (d k : Nat) (r : List Str) (gv : Gv) (b c : List Row) (n m : Nat) (ts us : List Tr) : Giv sy ms ss ("if" :: r) gv → d ≤ 4 → Bod sy ms ss (d + 1) (k + 1) b n ts → Bod sy ms ss (d + 1) (k + 1 + b.length + 1) c m us → Stm sy ms ss d k ((d, "if" :: r) :: (b ++ (d, [("else" : Str)]) :: c)) (n + 1 + m) (.node (k + 1) "if" gv ts us)
inductive Bod (sy : Str) (ms ss : NV) : Nat → Nat → List Row → Nat → List Tr → Prop where
  | one (d k : Nat) (s : List Row) (n : Nat) (t : Tr) : Stm sy ms ss d k s n t → Bod sy ms ss d k s n [t]
  | more (d k : Nat) (s t : List Row) (n m : Nat) (u : Tr) (us : List Tr) : Stm sy ms ss d k s n u → Bod sy ms ss d (k + s.length) t m us → Bod sy ms ss d k (s ++ t) (n + m) (u :: us)
end
theorem giv_else {sy : Str} {ms ss : NV} {gv : Gv} (h : Giv sy ms ss [("else" : Str)] gv) : False := by
  generalize e : ([("else" : Str)] : List Str) = ws at h
  have ne : ∀ {y : Str}, y = ("else" : Str) → y ≠ "set" ∧ y ≠ "add" ∧ y ≠ "if" ∧ y ≠ "while" ∧ y ≠ "write" ∧ y ≠ "do" ∧ y ≠ "right" ∧ y ≠ "left" ∧ y ≠ "copy" ∧ y ≠ "stop" := by
    rintro y rfl
    decide +kernel
  obtain ⟨h1, h2, h3, h4, h5, h6, h7, h8, h9, h10⟩ := ne (y := "else") rfl
  cases h <;> first
    | exact h1 (List.cons.inj e).1 | exact h2 (List.cons.inj e).1 | exact h3 (List.cons.inj e).1 | exact h4 (List.cons.inj e).1 | exact h5 (List.cons.inj e).1
    | exact h6 (List.cons.inj e).1 | exact h7 (List.cons.inj e).1 | exact h8 (List.cons.inj e).1 | exact h9 (List.cons.inj e).1 | exact h10 (List.cons.inj e).1
theorem Stm.first {sy : Str} {ms ss : NV} {d k : Nat} {seg : List Row} {n : Nat} {t : Tr} (h : Stm sy ms ss d k seg n t) : ∃ (x : Str) (r : List Str) (rest : List Row) (gv : Gv) (ins oth : List Tr), seg = (d, x :: r) :: rest ∧ Giv sy ms ss (x :: r) gv ∧ d ≤ 4 ∧ 1 ≤ n ∧ t = .node (k + 1) x gv ins oth := by
  cases h with
  | plain _ _ x r gv h1 h2 h3 h4 => exact ⟨_, _, _, _, _, _, rfl, h1, h4, Nat.le_refl _, rfl⟩
  | loop _ _ r gv b n ts h1 h2 h3 => exact ⟨_, _, _, _, _, _, rfl, h1, h2, by omega, rfl⟩
  | cond _ _ r gv b n ts h1 h2 h3 => exact ⟨_, _, _, _, _, _, rfl, h1, h2, by omega, rfl⟩
  | both _ _ r gv b c n m ts us h1 h2 h3 h4 => exact ⟨_, _, _, _, _, _, rfl, h1, h2, by omega, rfl⟩
theorem Bod.first {sy : Str} {ms ss : NV} {d k : Nat} {seg : List Row} {n : Nat} {ts : List Tr} (h : Bod sy ms ss d k seg n ts) : ∃ (x : Str) (r : List Str) (rest : List Row) (gv : Gv), seg = (d, x :: r) :: rest ∧ Giv sy ms ss (x :: r) gv ∧ d ≤ 4 ∧ 1 ≤ n := by
  cases h with
  | one _ _ s n t h =>
    obtain ⟨x, r, rest, gv, _, _, e, h3, h4, h5, _⟩ := h.first
    exact ⟨x, r, rest, gv, e, h3, h4, h5⟩
  | more _ _ s t n m u us h1 h2 =>
    obtain ⟨x, r, rest, gv, _, _, rfl, h3, h4, h5, _⟩ := h1.first
    exact ⟨x, r, rest ++ t, gv, rfl, h3, h4, by omega⟩
/-- what may stand behind a statement, behind a body -/
def AfterStm (d : Nat) (post : List Row) : Prop := ∀ r, post.head? = some r → r.1 ≤ d ∧ (r.1 = d → r.2 ≠ [("else" : Str)])
def AfterBod (d : Nat) (post : List Row) : Prop := ∀ r, post.head? = some r → r.1 < d
theorem AfterStm.bod {sy : Str} {ms ss : NV} {d k : Nat} {t post : List Row} {m : Nat} {us : List Tr} (h : Bod sy ms ss d k t m us) : AfterStm d (t ++ post) := by
  obtain ⟨x, r, rest, gv, rfl, hg, _, _⟩ := h.first
  intro y hy
  have e : (d, x :: r) = y := Option.some.inj hy
  subst e
  exact ⟨Nat.le_refl _, fun _ z => giv_else (by rw [← z]; exact hg)⟩
theorem AfterStm.of_bod {d : Nat} {post : List Row} (h : AfterBod d post) : AfterStm d post := fun r hr => ⟨Nat.le_of_lt (h r hr), fun e => absurd (h r hr) (by omega)⟩
theorem AfterStm.deeper {d : Nat} {post : List Row} (h : AfterStm d post) : AfterBod (d + 1) post := fun r hr => Nat.lt_succ_of_le (h r hr).1
abbrev Good (rows : List Row) : Prop := ∀ r ∈ rows, GoodWs r.2
theorem wordsAt_rows {rows : List Row} (g : Good rows) (k d : Nat) : wordsAt (rows.map lineOf) k d = match rows[k]? with | none => [] | some r => if r.1 = d then r.2 else [] := by
  unfold wordsAt
  rw [List.getElem?_map]
  cases e : rows[k]? with
  | none => rfl
  | some r =>
    obtain ⟨e1, ws⟩ := r
    have gw : GoodWs ws := g _ (List.mem_of_getElem? e)
    show wordsOf (lineOf (e1, ws)) d = if e1 = d then ws else []
    by_cases h : e1 = d
    · subst h
      rw [if_pos rfl]
      exact words_here gw
    · rw [if_neg h]
      rcases Nat.lt_or_gt_of_ne h with h | h
      · exact words_deeper gw h
      · exact words_outer gw h
theorem at_pre {α : Type} {pre seg post : List α} {x : α} {r : List α} (e : seg = x :: r) : (pre ++ seg ++ post)[pre.length]? = some x := by
  subst e
  rw [List.append_assoc, List.getElem?_append_right (Nat.le_refl _), Nat.sub_self]
  rfl
theorem at_post {α : Type} {pre seg post : List α} : (pre ++ seg ++ post)[pre.length + seg.length]? = post.head? := by
  rw [List.getElem?_append_right (by rw [List.length_append]; omega), List.length_append, Nat.sub_self]
  cases post <;> rfl
/-! ### the state -/
def WOk (CS : Addr) (H : Hp) (a : Addr) : Prop := ∃ (dx : Addr) (ln : Int) (wd : Str) (g : V) (li lo : Addr) (fo : Int), H a = some (.ins CS dx (sf ln wd g li lo fo)) ∧ (wd = "write" → ∃ z : Str, g = .str z)
def Keep (p t : Addr) (H H' : Hp) : Prop := ∀ b o, H b = some o → b ≠ p → b ≠ t → H' b = some o
theorem Keep.of_same {p t : Addr} {H H' : Hp} (s : Same H H') : Keep p t H H' := fun b o h _ _ => s b o h
theorem Keep.trans {p t : Addr} {H H1 H2 : Hp} (a : Keep p t H H1) (b : Keep p t H1 H2) : Keep p t H H2 := fun c o h n1 n2 => b c o (a c o h n1 n2) n1 n2
structure SAt (C CS : Addr) (H : Hp) (p l m s t : Addr) (k : Nat) (sy : Str) (fi : Int) (ms ss : NV) (rows : List Row) (kvs : List (Key × V)) (cnt : Nat) : Prop where
  pin : PIn C H p l m s t ((k : Int) + 1) sy fi ms ss
  ln : Lines H l (rows.map lineOf)
  dt : H t = some (.dK kvs)
  few : kvs.length = cnt
  keys : ∀ kv ∈ kvs, ∃ n : Nat, kv.1 = Sum.inl (n : Int) ∧ n ≤ k
  ok : ∀ kv ∈ kvs, ∃ a, kv.2 = V.ref a ∧ WOk CS H a
  nm : m ≠ t
  ns : s ≠ t
  cc : C ≠ CS
variable {C CS : Addr} {H H' : Hp} {p l m s t : Addr} {k : Nat} {sy : Str} {fi : Int} {ms ss : NV} {rows : List Row} {kvs : List (Key × V)} {cnt : Nat}
theorem WOk.keep (S : SAt C CS H p l m s t k sy fi ms ss rows kvs cnt) (e : Keep p t H H') {a : Addr} (h : WOk CS H a) : WOk CS H' a := by
  obtain ⟨dx, ln, wd, g, li, lo, fo, h1, h2⟩ := h
  obtain ⟨⟨dp, hp⟩, _⟩ := S.pin
  refine ⟨dx, ln, wd, g, li, lo, fo, e _ _ h1 (fun z => ?_) (ne_of h1 S.dt (by intro z; cases z)), h2⟩
  rw [z, hp] at h1
  injection Option.some.inj h1 with q
  exact S.cc q
theorem SAt.same (S : SAt C CS H p l m s t k sy fi ms ss rows kvs cnt) (e : Same H H') : SAt C CS H' p l m s t k sy fi ms ss rows kvs cnt :=
  ⟨S.pin.same e, ⟨e _ _ S.ln.at_, S.ln.few, S.ln.short⟩, e _ _ S.dt, S.few, S.keys, fun kv h => by
    obtain ⟨a, h1, h2⟩ := S.ok kv h
    exact ⟨a, h1, h2.keep S (Keep.of_same e)⟩, S.nm, S.ns, S.cc⟩
theorem GvAt.map {g : V} (f : ∀ b xs, H b = some (.tup xs) → H' b = some (.tup xs)) : ∀ {gv : Gv}, GvAt H g gv → GvAt H' g gv
  | .non, h => h
  | .letter _, h => h
  | .pair _ _, ⟨b, h1, h2⟩ => ⟨b, h1, f _ _ h2⟩
  | .cond _ _ _ _, ⟨b, h1, c, h2, h3⟩ => ⟨b, h1, c, f _ _ h2, f _ _ h3⟩
  | .part _, h => h
mutual
theorem TOk.gen {G G' : Addr → Prop} (hg : ∀ c o, G c → H c = some o → G' c) (ho : ∀ c o, G c → H c = some o → ((∃ us, o = .lst us) ∨ ∃ dx fs, o = .ins CS dx fs) → H' c = some o) (ht : ∀ c us, H c = some (.tup us) → H' c = some (.tup us)) : ∀ t : AT, TOk CS G H t → TOk CS G' H' t
  | .node a ln wd g gv li lo ins oth, h => by
    simp only [TOk] at h ⊢
    obtain ⟨h0, ⟨dx, fo, h1⟩, h2, h3, h4, h5, h6, h7, h8⟩ := h
    exact ⟨hg _ _ h0 h1, ⟨dx, fo, ho _ _ h0 h1 (.inr ⟨_, _, rfl⟩)⟩, h2.map ht, ho _ _ h5.2.1 h3 (.inl ⟨_, rfl⟩), ho _ _ h5.2.2 h4 (.inl ⟨_, rfl⟩), ⟨h5.1, hg _ _ h5.2.1 h3, hg _ _ h5.2.2 h4⟩, h6, TOks.gen hg ho ht ins h7, TOks.gen hg ho ht oth h8⟩
theorem TOks.gen {G G' : Addr → Prop} (hg : ∀ c o, G c → H c = some o → G' c) (ho : ∀ c o, G c → H c = some o → ((∃ us, o = .lst us) ∨ ∃ dx fs, o = .ins CS dx fs) → H' c = some o) (ht : ∀ c us, H c = some (.tup us) → H' c = some (.tup us)) : ∀ ts : List AT, TOks CS G H ts → TOks CS G' H' ts
  | [], _ => by simp only [TOks]
  | t :: ts, h => by
    simp only [TOks] at h ⊢
    exact ⟨TOk.gen hg ho ht t h.1, TOks.gen hg ho ht ts h.2⟩
end
theorem TOks.keep {G : Addr → Prop} (hp : ∃ dx fs, H p = some (.ins C dx fs)) (ht : ∃ kv, H t = some (.dK kv)) (cc : C ≠ CS) (e : Keep p t H H') (ts : List AT) (h : TOks CS G H ts) : TOks CS G H' ts := by
  obtain ⟨dp, fs, hp'⟩ := hp
  obtain ⟨kv, ht'⟩ := ht
  refine TOks.gen (fun c o g _ => g) (fun c o _ hc k => e c o hc (fun z => ?_) (fun z => ?_)) (fun c us hc => e c _ hc (ne_of hc hp' (by intro z; cases z)) (ne_of hc ht' (by intro z; cases z))) ts h
  · rw [z, hp'] at hc
    rcases k with ⟨us, rfl⟩ | ⟨dx, fs2, rfl⟩
    · cases hc
    · injection Option.some.inj hc with q
      exact cc q
  · rw [z, ht'] at hc
    rcases k with ⟨us, rfl⟩ | ⟨dx, fs2, rfl⟩ <;> cases hc
theorem TOks.base {G G' : Addr → Prop} (h : ∀ b, G' b → G b) (ts : List AT) (z : TOks CS G' H ts) : TOks CS G H ts := TOks.gen (fun c _ g _ => h c g) (fun c o _ hc _ => hc) (fun c us hc => hc) ts z
theorem TOk.base {G G' : Addr → Prop} (h : ∀ b, G' b → G b) (ts : AT) (z : TOk CS G' H ts) : TOk CS G H ts := TOk.gen (fun c _ g _ => h c g) (fun c o _ hc _ => hc) (fun c us hc => hc) ts z
/-- an object that was there before is none of the tree -/
theorem TOks.upd {G : Addr → Prop} {b dx0 : Addr} {fs fs' : List (Str × V)} (hb : ¬ G b) (hb1 : H b = some (.ins CS dx0 fs)) (ts : List AT) (h : TOks CS G H ts) : TOks CS G (L2.upd H b (.ins CS dx0 fs')) ts :=
  TOks.gen (fun c o g _ => g) (fun c o g hc _ => by rw [upd_ne (fun z => hb (by rw [← z]; exact g))]; exact hc) (fun c us hc => by rw [upd_ne (ne_of hc hb1 (by intro z; cases z))]; exact hc) ts h
theorem TOks.updL {G : Addr → Prop} {b : Addr} {us us' : List V} (hb : ¬ G b) (hb1 : H b = some (.lst us')) (ts : List AT) (h : TOks CS G H ts) : TOks CS G (L2.upd H b (.lst us)) ts :=
  TOks.gen (fun c o g _ => g) (fun c o g hc _ => by rw [upd_ne (fun z => hb (by rw [← z]; exact g))]; exact hc) (fun c us hc => by rw [upd_ne (ne_of hc hb1 (by intro z; cases z))]; exact hc) ts h
/-- what is not there is none of the tree -/
theorem TOk.avoid {G : Addr → Prop} {b : Addr} (hb : H b = none) (t : AT) (h : TOk CS G H t) : TOk CS (fun c => G c ∧ c ≠ b) H t :=
  TOk.gen (fun c o g hc => ⟨g, ne_of_none hc hb⟩) (fun c o _ hc _ => hc) (fun c us hc => hc) t h
mutual
/-- what the addresses of a tree are -/
theorem TOk.adr {G : Addr → Prop} : ∀ t : AT, TOk CS G H t → ∀ b ∈ adrs t, G b ∧ ∃ o, H b = some o
  | .node a ln wd g gv li lo ins oth, h, b, m => by
    simp only [TOk] at h
    obtain ⟨h0, ⟨dx, fo, h1⟩, h2, h3, h4, h5, h6, h7, h8⟩ := h
    simp only [adrs, List.mem_cons, List.mem_append] at m
    rcases m with rfl | m | m
    · exact ⟨h0, _, h1⟩
    · exact TOks.adr ins h7 b m
    · exact TOks.adr oth h8 b m
theorem TOks.adr {G : Addr → Prop} : ∀ ts : List AT, TOks CS G H ts → ∀ b ∈ adrsAll ts, G b ∧ ∃ o, H b = some o
  | [], _, b, m => by simp only [adrsAll, List.not_mem_nil] at m
  | t :: ts, h, b, m => by
    simp only [TOks] at h
    simp only [adrsAll, List.mem_append] at m
    rcases m with m | m
    · exact TOk.adr t h.1 b m
    · exact TOks.adr ts h.2 b m
end
abbrev New (H : Hp) : Addr → Prop := fun b => H b = none
/-- a statement of the dict gets another field -/
theorem SAt.setSt (S : SAt C CS H p l m s t k sy fi ms ss rows kvs cnt) {a dx : Addr} {ln fo fo' : Int} {wd : Str} {g : V} {li lo li' lo' : Addr} (ha : H a = some (.ins CS dx (sf ln wd g li lo fo))) :
    SAt C CS (L2.upd H a (.ins CS dx (sf ln wd g li' lo' fo'))) p l m s t k sy fi ms ss rows kvs cnt := by
  obtain ⟨⟨dp, hp⟩, mo, st, nm, ns⟩ := S.pin
  have np : p ≠ a := fun z => by
    rw [z, ha] at hp
    injection Option.some.inj hp with q
    exact S.cc q.symm
  have nl : l ≠ a := ne_of S.ln.at_ ha (by intro z; cases z)
  have nmm : m ≠ a := ne_of mo ha (by intro z; cases z)
  have nss : s ≠ a := ne_of st ha (by intro z; cases z)
  have nt : t ≠ a := ne_of S.dt ha (by intro z; cases z)
  refine ⟨⟨⟨dp, by rw [upd_ne np]; exact hp⟩, by rw [upd_ne nmm]; exact mo, by rw [upd_ne nss]; exact st, nm, ns⟩, ⟨by rw [upd_ne nl]; exact S.ln.at_, S.ln.few, S.ln.short⟩, by rw [upd_ne nt]; exact S.dt, S.few, S.keys, fun kv h => ?_, S.nm, S.ns, S.cc⟩
  obtain ⟨b, h1, dx2, ln2, wd2, g2, li2, lo2, fo2, h2, h3⟩ := S.ok kv h
  refine ⟨b, h1, ?_⟩
  by_cases e : b = a
  · subst e
    rw [ha] at h2
    have z := Option.some.inj h2
    injection z with _ z1 z2
    unfold sf at z2
    simp only [List.cons.injEq, Prod.mk.injEq, V.int.injEq, V.str.injEq, V.ref.injEq, true_and, and_true] at z2
    obtain ⟨r1, r2, r3, r4, r5, r6⟩ := z2
    subst r2 r3
    exact ⟨dx, ln, wd, g, li', lo', fo', upd_same, h3⟩
  · exact ⟨dx2, ln2, wd2, g2, li2, lo2, fo2, by rw [upd_ne e]; exact h2, h3⟩
end Fv
set_option Elab.async false
set_option linter.all false
set_option maxRecDepth 100000
set_option maxHeartbeats 4000000
namespace Fv
open PySem L2 TL
abbrev s_Parser_read_statement : Stmt := inClass (top 41) 9
abbrev sc_Parser_read_statementN : List Str := ["self", "depth", "words", "given", "statement"]
theorem sc_Parser_read_statement : FnScope sc_Parser_read_statementN ["self", "depth"] (defScope s_Parser_read_statement) := ⟨rfl, rfl, rfl, by decide +kernel, rfl, by decide +kernel, by decide +kernel⟩
def spStm (C CS : Addr) (d : Nat) : Sp := fun vs H Q _ => ∃ (p l m s t : Addr) (k : Nat) (sy : Str) (fi : Int) (ms ss : NV) (rows pre seg post : List Row) (kvs : List (Key × V)) (cnt n : Nat) (tr : Tr), vs = [.ref p, .int (d : Int)] ∧
  SAt C CS H p l m s t k sy fi ms ss rows kvs cnt ∧ rows = pre ++ seg ++ post ∧ pre.length = k ∧ Good rows ∧ Stm sy ms ss d k seg n tr ∧ cnt + n ≤ 20 ∧ AfterStm d post ∧ sy.length ≤ 10 ∧
  ∀ (at_ : AT) (H' : Hp), Keep p t H H' → SAt C CS H' p l m s t (k + seg.length) sy fi ms ss rows (kvs ++ ents at_) (cnt + n) → TOk CS (New H) H' at_ → at_.tr = tr → ht at_ ≤ 5 - d → (adrs at_).Nodup → Q (.ref at_.a) H'
def spBod (C CS : Addr) (d : Nat) : Sp := fun vs H Q _ => ∃ (p l m s t : Addr) (k : Nat) (sy : Str) (fi : Int) (ms ss : NV) (rows pre seg post : List Row) (kvs : List (Key × V)) (cnt n : Nat) (us : List Tr), vs = [.ref p, .int (d : Int)] ∧
  SAt C CS H p l m s t k sy fi ms ss rows kvs cnt ∧ rows = pre ++ seg ++ post ∧ pre.length = k ∧ Good rows ∧ Bod sy ms ss d k seg n us ∧ cnt + n ≤ 20 ∧ AfterBod d post ∧ sy.length ≤ 10 ∧
  ∀ (lb : Addr) (H' : Hp) (xs : List AT), Keep p t H H' → SAt C CS H' p l m s t (k + seg.length) sy fi ms ss rows (kvs ++ entsAll xs) (cnt + n) → H lb = none → H' lb = some (.lst (refs xs)) → xs ≠ [] → xs.length ≤ n → TOks CS (New H) H' xs → trs xs = us → htAll xs ≤ 5 - d → (adrsAll xs).Nodup → Q (.ref lb) H'
/-- a class of one's own that stands ready to be made -/
structure Maker (P : Program) (w : World) (K : PySem.W.Frag) (mg : Str → Option Value) (base : Heap) (C : Addr) (k : Nat) (x : Str) (ps : List Str) (sp : Sp) where
  f : Addr
  fd : FuncData
  ok : FnOk P w K mg base CX0 k f fd ps sp
  mkr : Mk K C f
  mg : mg x = some (.ref C)
  b : Binds K fd ps []
theorem SAt.grown {C CS : Addr} {H H' : Hp} {p l m s t : Addr} {k : Nat} {sy : Str} {fi : Int} {ms ss : NV} {rows : List Row} {kvs : List (Key × V)} {cnt : Nat} (S : SAt C CS H' p l m s t k sy fi ms ss rows kvs cnt) (e : Keep p t H H') : ∀ b, H' b = none → H b = none := fun b h => by
  cases q : H b with
  | none => rfl
  | some o =>
    by_cases h1 : b = p
    · subst h1
      obtain ⟨⟨dx, hp⟩, _⟩ := S.pin
      rw [hp] at h; cases h
    · by_cases h2 : b = t
      · subst h2
        rw [S.dt] at h; cases h
      · rw [e _ _ q h1 h2] at h; cases h
theorem put_next {l : Addr} {k : Nat} {sy : Str} {m s t : Addr} {fi : Int} : putF "number" (.int (((k : Int) + 1) + 1)) (pf l ((k : Int) + 1) sy m s t fi) = pf l (((k + 1 : Nat) : Int) + 1) sy m s t fi := by
  rw [put_number]
  congr 1
theorem SAt.bump {C CS : Addr} {H : Hp} {p l m s t dp : Addr} {k : Nat} {sy : Str} {fi : Int} {ms ss : NV} {rows : List Row} {kvs : List (Key × V)} {cnt : Nat} (S : SAt C CS H p l m s t k sy fi ms ss rows kvs cnt) (hp : H p = some (.ins C dp (pf l ((k : Int) + 1) sy m s t fi))) :
    SAt C CS (upd H p (.ins C dp (pf l (((k + 1 : Nat) : Int) + 1) sy m s t fi))) p l m s t (k + 1) sy fi ms ss rows kvs cnt ∧ Keep p t H (upd H p (.ins C dp (pf l (((k + 1 : Nat) : Int) + 1) sy m s t fi))) := by
  have e : Keep p t H (upd H p (.ins C dp (pf l (((k + 1 : Nat) : Int) + 1) sy m s t fi))) := fun b o h n _ => by rw [upd_ne n]; exact h
  obtain ⟨_, mo, st, nm, ns⟩ := S.pin
  have n1 : l ≠ p := ne_of S.ln.at_ hp (by intro z; cases z)
  have n2 : m ≠ p := ne_of mo hp (by intro z; cases z)
  have n3 : s ≠ p := ne_of st hp (by intro z; cases z)
  have n4 : t ≠ p := ne_of S.dt hp (by intro z; cases z)
  refine ⟨⟨⟨⟨dp, upd_same⟩, by rw [upd_ne n2]; exact mo, by rw [upd_ne n3]; exact st, nm, ns⟩, ⟨by rw [upd_ne n1]; exact S.ln.at_, S.ln.few, S.ln.short⟩, by rw [upd_ne n4]; exact S.dt, S.few, fun kv h => ?_, fun kv h => ?_, S.nm, S.ns, S.cc⟩, e⟩
  · obtain ⟨i, h1, h2⟩ := S.keys kv h
    exact ⟨i, h1, by omega⟩
  · obtain ⟨a, h1, h2⟩ := S.ok kv h
    exact ⟨a, h1, h2.keep S e⟩
section
variable {P : Program} {w : World} {K : PySem.W.Frag} {mg : Str → Option Value} {base : Heap}
theorem ok_read_statement {f C CS : Addr} {fd : FuncData} {d L : Nat} (F : Fun K "read_statement" "Parser.read_statement" s_Parser_read_statement f fd) (T : Bare mg) (T1 : Consts K mg) (TP : PTxt K C) (TS : STxt K CS) (hd : d ≤ 4) (hL : 3 ≤ L)
    (MW : Meter P w K mg base C 1 "words_at" ["self", "depth"] (spWords C)) (MG : Meter P w K mg base C 3 "given_by" ["self", "words"] (spGiven K C)) (MI : Maker P w K mg base CS 1 "Statement" ["self", "line", "word", "given"] (spStInit CS))
    (MB : Meter P w K mg base C L "read_body" ["self", "depth"] (spBod C CS (d + 1))) : FnOk P w K mg base CX0 (L + 1) f fd ["self", "depth"] (spStm C CS d) := by
  refine F.ok sc_Parser_read_statement (fun vs H Q E h => ?_) (fun cdv A outer st H vs Q E hr h => ?_)
  · obtain ⟨p, l, m, s, t, k, sy, fi, ms, ss, rows, pre, seg, post, kvs, cnt, n, tr, rfl, _⟩ := h
    rfl
  obtain ⟨p, l, m, s, t, k, sy, fi, ms, ss, rows, pre, seg, post, kvs, cnt, n, tr, rfl, S, hrows, hk, hG, hS, hcnt, haft, hsy, q⟩ := h
  have hu := hu_of hr
  obtain ⟨t20, g20⟩ := T1.mostStatements
  obtain ⟨x, r, rest, gv, ins0, oth0, eseg, hgiv, _, hn1, etr⟩ := hS.first
  have hat : rows[k]? = some (d, x :: r) := by rw [hrows, ← hk]; exact at_pre eseg
  have gw : GoodWs (x :: r) := hG _ (List.mem_of_getElem? hat)
  have rest : ∃ tt, PSs (cxOf CX0 P w K mg base sc_Parser_read_statementN "Parser.read_statement" (defScope s_Parser_read_statement) f cdv A outer st H E).nox ((defBody s_Parser_read_statement).drop 6) tt ∧
      ∀ (H6 : Hp) (A1 a dx li lo : Addr) (g : V) (kvs6 : List (Key × V)), kvs6 = kvs ++ [((Sum.inl ((k + 1 : Nat) : Int) : Key), V.ref a)] → GvAt H6 g gv → Keep p t H H6 → SAt C CS H6 p l m s t (k + 1) sy fi ms ss rows kvs6 (cnt + 1) → H a = none → H6 a = some (.ins CS dx (sf ((k : Int) + 1) x g li lo 0)) → H6 li = some (.lst []) → H6 lo = some (.lst []) → li ≠ lo → H li = none → H lo = none →
        tt { nx := fun _ H' => Q .non H', rt := Q } [some (.ref p), some (.int (d : Int)), some (.ref A1), some g, some (.ref a)] H6 := by
    refine ⟨_, (pss_cons (ps_if (pt_cmpR op_in_seq (pe_fld (pv 4) rfl) (pe_tup (pa_cons pe_str (pa_cons pe_str pa_nil))) (by rfl))
(pss_one (ps_fld (pv 4) (pe_meth (pv 0) TP.cl MB.m MB.ok hr MB.b .nil pass0 (pa_cons (pe_op op_add (pv 1) pe_int) pa_nil)) rfl))
pss_nil)
(pss_cons (ps_if (PW.pt (pw_and (pt_cmpR op_eq (pe_fld (pv 4) rfl) pe_str (nomark _)) (pw_and1 (pt_cmpR (op_eqD hr.units) (pe_meth (pv 0) TP.cl MW.m MW.ok (hr.mono (by omega)) MW.b .nil pass0 (pa_cons (pv 1) pa_nil)) (pe_lst (pa_cons pe_str pa_nil)) (nomark _)))))
(pss_cons (ps_fldaug (pv 0) pe_int in_add)
(pss_one (ps_fld (pv 4) (pe_meth (pv 0) TP.cl MB.m MB.ok hr MB.b .nil pass0 (pa_cons (pe_op op_add (pv 1) pe_int) pa_nil)) rfl)))
pss_nil)
(pss_one (ps_ret (pv 4))))), ?_⟩
    intro H6 A1 a dx li lo g kvs6 ek6 hgv6 kp S6 haH h6 hl1 hl2 nll hliH hloH
    obtain ⟨⟨dp, hp⟩, _⟩ := id S6.pin
    have npa : a ≠ p := fun z => by
      rw [z, hp] at h6
      injection Option.some.inj h6 with q1
      exact S6.cc q1
    have nta : a ≠ t := ne_of h6 S6.dt (by intro z; cases z)
    have e5 : 5 - d = (4 - d) + 1 := by omega
    refine ⟨_, rfl, a, CS, dx, _, _, rfl, h6, TS.cl, TS.nWord, sf_word, small (by show 2 ≤ 1000; decide), fun T0 hT0 => ?_⟩
    have s7 := same_new hT0 (.tup [.str "if", .str "while"])
    have S7 := S6.same s7
    have kp7 := kp.trans (Keep.of_same s7)
    have h7 := s7 _ _ h6
    have l71 := s7 _ _ hl1
    have l72 := s7 _ _ hl2
    have hp7 := s7 _ _ hp
    have hgv7 : GvAt _ g gv := hgv6.map fun b xs h => s7 _ _ h
    refine ⟨T0, _, rfl, .inr (.inl (.inl upd_same)), rfl, rfl, _, rfl, ?_⟩
    generalize upd H6 T0 (.tup [.str "if", .str "while"]) = H7 at s7 S7 kp7 h7 l71 l72 hp7 hgv7 ⊢
    have ein : (if false = true then !inV (.str x) [.str "if", .str "while"] else inV (.str x) [.str "if", .str "while"]) = decide (x ∈ ([("if" : Str), "while"] : List Str)) := inV_str x [("if" : Str), "while"]
    rw [ein]
    -- the body of an if or while
    have body : ∀ (b post' : List Row) (nb : Nat) (us : List Tr) (R : VK), rows = (pre ++ [(d, x :: r)]) ++ b ++ post' → Bod sy ms ss (d + 1) (k + 1) b nb us → cnt + 1 + nb ≤ 20 → AfterBod (d + 1) post' →
        (∀ (lb : Addr) (H' : Hp) (xs : List AT), Keep p t H7 H' → SAt C CS H' p l m s t (k + 1 + b.length) sy fi ms ss rows (kvs6 ++ entsAll xs) (cnt + 1 + nb) → H7 lb = none → H' lb = some (.lst (refs xs)) → xs ≠ [] → xs.length ≤ nb → TOks CS (New H7) H' xs → trs xs = us → htAll xs ≤ 4 - d → (adrsAll xs).Nodup → R (.ref lb) H') →
        spBod C CS (d + 1) [.ref p, .int ((d : Int) + 1)] H7 R E0 := fun b post' nb us R h1 h2 h3 h4 h5 =>
      ⟨p, l, m, s, t, k + 1, sy, fi, ms, ss, rows, pre ++ [(d, x :: r)], b, post', kvs6, cnt + 1, nb, us, (by rw [Int.natCast_add]; rfl), S7, h1, by rw [List.length_append, hk]; rfl, hG, h2, h3, h4, hsy, by
        have e : 5 - (d + 1) = 4 - d := by omega
        rw [e]
        exact h5⟩
    cases hS with
    | plain _ _ x' r' gv' g1 n1 n2 _ =>
      obtain rfl : gv' = gv := by injection etr
      obtain ⟨e1, e2⟩ : x' = x ∧ r' = r := by
        have z := (Prod.mk.inj (List.cons.inj eseg).1).2
        exact ⟨(List.cons.inj z).1, (List.cons.inj z).2⟩
      subst e1 e2
      rw [decide_eq_false (by
        intro z
        rcases List.mem_cons.mp z with z | z
        · exact n1 z
        · exact n2 (List.mem_singleton.mp z))]
      refine iteF ?_
      refine ⟨_, rfl, a, CS, dx, _, _, rfl, h7, TS.cl, TS.nWord, sf_word, rfl, _, rfl, ?_⟩
      rw [decide_eq_false (fun z => n1 (V.str.inj z))]
      refine iteF (iteF ?_)
      refine ⟨_, rfl, q (.node a (k + 1) x' g gv' li lo [] []) H7 kp7 (by
        have e : ents (.node a (k + 1) x' g gv' li lo [] []) = [((Sum.inl ((k + 1 : Nat) : Int) : Key), V.ref a)] := by simp only [ents, entsAll, List.append_nil]
        rw [e, ← ek6]
        exact S7) ?_ (by simp only [AT.tr, trs]) ?_ (by simp only [adrs, adrsAll, List.append_nil]; simp)⟩
      · simp only [TOk, TOks]
        exact ⟨haH, ⟨dx, 0, h7⟩, hgv7, l71, l72, ⟨by decide, hliH, hloH⟩, by decide, trivial, trivial⟩
      · simp only [ht, htAll]
        omega
    | loop _ _ r' gv' b nb us g1 _ hB =>
      obtain rfl : gv' = gv := by injection etr
      obtain ⟨e1, e2⟩ : ("while" : Str) = x ∧ r' = r := by
        have z := (Prod.mk.inj (List.cons.inj eseg).1).2
        exact ⟨(List.cons.inj z).1, (List.cons.inj z).2⟩
      subst e1 e2
      refine iteT ?_
      refine ⟨_, rfl, p, dp, _, rfl, hp7, (by kernel_rfl), _, rfl, _, _, rfl, rfl, ?_⟩
      dsimp only [tNil]
      refine body b post nb us _ (by rw [hrows, List.append_assoc pre, List.append_assoc pre, List.append_assoc pre]; rfl) hB (by omega) haft.deeper fun lb H8 xs kp8 S8 hlb hlb1 hne hlen hT8 htr hht hnd => ?_
      have h8 := kp8 _ _ h7 npa nta
      have haN : a ∉ adrsAll xs := fun z => by
        have z2 : H7 a = none := (hT8.adr xs a z).1
        rw [h7] at z2
        cases z2
      have hgv8 : GvAt H8 g gv' := hgv7.map fun b us h => kp8 _ _ h (ne_of h hp7 (by intro z; cases z)) (ne_of h S7.dt (by intro z; cases z))
      have k8 : Keep p t H (upd H8 a (.ins CS dx (sf ((k : Int) + 1) "while" g lb lo 0))) := fun c o hc n1 n2 => by
        rw [upd_ne (ne_of_none hc haH)]
        exact kp8 _ _ (kp7 _ _ hc n1 n2) n1 n2
      refine ⟨_, rfl, a, CS, dx, _, rfl, h8, TS.cl, TS.nInside, (by show 6 < 1000; decide), ?_⟩
      rw [put_inside]
      have S9 := S8.setSt (li' := lb) (lo' := lo) (fo' := 0) h8
      have h9 : (upd H8 a (.ins CS dx (sf ((k : Int) + 1) "while" g lb lo 0))) a = some (.ins CS dx (sf ((k : Int) + 1) "while" g lb lo 0)) := upd_same
      refine ⟨_, rfl, a, CS, dx, _, _, rfl, h9, TS.cl, TS.nWord, sf_word, rfl, _, rfl, iteF (iteF ?_)⟩
      refine ⟨_, rfl, q (.node a (k + 1) "while" g gv' lb lo xs []) _ k8 (by
        have e : k + ((d, ("while" : Str) :: r') :: b).length = k + 1 + b.length := by rw [List.length_cons]; omega
        have e' : cnt + (nb + 1) = cnt + 1 + nb := by omega
        have e2 : kvs ++ ents (.node a (k + 1) "while" g gv' lb lo xs []) = kvs6 ++ entsAll xs := by
          rw [ek6]
          simp only [ents, entsAll, List.append_nil, List.append_assoc, List.cons_append, List.nil_append]
        rw [e, e', e2]
        exact S9) ?_ (by simp only [AT.tr, trs, htr]) (by simp only [ht, htAll]; omega) (by simp only [adrs, adrsAll, List.append_nil]; exact List.nodup_cons.mpr ⟨haN, hnd⟩)⟩
      have nlb : lb ≠ a := ne_of hlb1 h8 (by intro z; cases z)
      have l8 : H8 lo = some (.lst []) := kp8 _ _ l72 (ne_of l72 hp7 (by intro z; cases z)) (ne_of l72 S7.dt (by intro z; cases z))
      have nlo : lo ≠ a := ne_of l8 h8 (by intro z; cases z)
      simp only [TOk, TOks]
      exact ⟨haH, ⟨dx, 0, h9⟩, hgv8.map (fun b us h => by rw [upd_ne (ne_of h h8 (by intro z; cases z))]; exact h), by rw [upd_ne nlb]; exact hlb1, by rw [upd_ne nlo]; exact l8, ⟨by omega, S7.grown kp7 _ hlb, hloH⟩, by decide, TOks.base (fun c hc => S7.grown kp7 c hc) _ (TOks.upd (fun z => by have z2 : H7 a = none := z; rw [h7] at z2; cases z2) h8 _ hT8), trivial⟩
    | cond _ _ r' gv' b nb us g1 _ hB =>
      obtain rfl : gv' = gv := by injection etr
      obtain ⟨e1, e2⟩ : ("if" : Str) = x ∧ r' = r := by
        have z := (Prod.mk.inj (List.cons.inj eseg).1).2
        exact ⟨(List.cons.inj z).1, (List.cons.inj z).2⟩
      subst e1 e2
      refine iteT ?_
      refine ⟨_, rfl, p, dp, _, rfl, hp7, (by kernel_rfl), _, rfl, _, _, rfl, rfl, ?_⟩
      dsimp only [tNil]
      refine body b post nb us _ (by rw [hrows, List.append_assoc pre, List.append_assoc pre, List.append_assoc pre]; rfl) hB (by omega) haft.deeper fun lb H8 xs kp8 S8 hlb hlb1 hne hlen hT8 htr hht hnd => ?_
      have h8 := kp8 _ _ h7 npa nta
      have haN : a ∉ adrsAll xs := fun z => by
        have z2 : H7 a = none := (hT8.adr xs a z).1
        rw [h7] at z2
        cases z2
      have hgv8 : GvAt H8 g gv' := hgv7.map fun b us h => kp8 _ _ h (ne_of h hp7 (by intro z; cases z)) (ne_of h S7.dt (by intro z; cases z))
      have k8 : Keep p t H (upd H8 a (.ins CS dx (sf ((k : Int) + 1) "if" g lb lo 0))) := fun c o hc n1 n2 => by
        rw [upd_ne (ne_of_none hc haH)]
        exact kp8 _ _ (kp7 _ _ hc n1 n2) n1 n2
      refine ⟨_, rfl, a, CS, dx, _, rfl, h8, TS.cl, TS.nInside, (by show 6 < 1000; decide), ?_⟩
      rw [put_inside]
      have S9 := S8.setSt (li' := lb) (lo' := lo) (fo' := 0) h8
      have h9 : (upd H8 a (.ins CS dx (sf ((k : Int) + 1) "if" g lb lo 0))) a = some (.ins CS dx (sf ((k : Int) + 1) "if" g lb lo 0)) := upd_same
      have nlb : lb ≠ a := ne_of hlb1 h8 (by intro z; cases z)
      have l8 : H8 lo = some (.lst []) := kp8 _ _ l72 (ne_of l72 hp7 (by intro z; cases z)) (ne_of l72 S7.dt (by intro z; cases z))
      have nlo : lo ≠ a := ne_of l8 h8 (by intro z; cases z)
      have tok : TOk CS (New H) (upd H8 a (.ins CS dx (sf ((k : Int) + 1) "if" g lb lo 0))) (.node a (k + 1) "if" g gv' lb lo xs []) := by
        simp only [TOk, TOks]
        exact ⟨haH, ⟨dx, 0, h9⟩, hgv8.map (fun b us h => by rw [upd_ne (ne_of h h8 (by intro z; cases z))]; exact h), by rw [upd_ne nlb]; exact hlb1, by rw [upd_ne nlo]; exact l8, ⟨by omega, S7.grown kp7 _ hlb, hloH⟩, by decide, TOks.base (fun c hc => S7.grown kp7 c hc) _ (TOks.upd (fun z => by have z2 : H7 a = none := z; rw [h7] at z2; cases z2) h8 _ hT8), trivial⟩
      generalize upd H8 a (.ins CS dx (sf ((k : Int) + 1) "if" g lb lo 0)) = H9 at k8 S9 h9 tok ⊢
      refine ⟨_, rfl, a, CS, dx, _, _, rfl, h9, TS.cl, TS.nWord, sf_word, rfl, _, rfl, iteT ?_⟩
      obtain ⟨⟨dp9, hp9⟩, _⟩ := id S9.pin
      refine ⟨_, rfl, p, dp9, _, rfl, hp9, (by kernel_rfl), _, rfl, p, l, m, s, t, k + 1 + b.length, d, sy, fi, rows.map lineOf, rfl, S9.pin.ob, S9.ln, by omega, fun A2 H10 s10 hA2 hA21 => ⟨small (by show 1 ≤ 1000; decide), fun A3 hA3 => ?_⟩⟩
      have s11 := same_new hA3 (.lst [.str "else"])
      have hw : ∃ W : List Str, wordsAt (rows.map lineOf) (k + 1 + b.length) d = W ∧ (∀ z ∈ W, PyData.strOk z = true) ∧ W ≠ [("else" : Str)] := by
        refine ⟨_, rfl, ?_, ?_⟩
        · intro z hz
          rw [wordsAt_rows hG] at hz
          cases e : rows[k + 1 + b.length]? with
          | none => rw [e] at hz; cases hz
          | some y =>
            rw [e] at hz
            dsimp only at hz
            split at hz
            · exact (hG y (List.mem_of_getElem? e)).ok z hz
            · cases hz
        · rw [wordsAt_rows hG]
          have e : rows[k + 1 + b.length]? = post.head? := by
            have z := at_post (pre := pre) (seg := (d, ("if" : Str) :: r') :: b) (post := post)
            rw [List.length_cons] at z
            rw [hrows, ← hk, ← z]
            congr 1
            omega
          rw [e]
          cases e2 : post.head? with
          | none => intro z; cases z
          | some y =>
            dsimp only
            split
            · rename_i he
              exact (haft y e2).2 he
            · intro z; cases z
      obtain ⟨W, eW, okW, neW⟩ := hw
      rw [eW] at hA21
      refine ⟨.list (W.map .str), .list (([("else" : Str)]).map .str), .lst (.inl (.inl (s11 _ _ hA21))) (dp_strs W), .lst (.inl (.inl upd_same)) (dp_strs [("else" : Str)]), shaped_strs okW, shaped_strs (by simp; decide +kernel), ?_⟩
      have ev : PyData.eqv (.list (W.map .str)) (.list (([("else" : Str)]).map .str)) = decide (W = [("else" : Str)]) := eqv_strs _ _
      rw [ev, decide_eq_false neW]
      refine ⟨_, rfl, iteF ?_⟩
      have s12 := s10.trans s11
      refine ⟨_, rfl, q (.node a (k + 1) "if" g gv' lb lo xs []) _ (k8.trans (Keep.of_same s12)) (by
        have e : k + ((d, ("if" : Str) :: r') :: b).length = k + 1 + b.length := by rw [List.length_cons]; omega
        have e' : cnt + (nb + 1) = cnt + 1 + nb := by omega
        have e2 : kvs ++ ents (.node a (k + 1) "if" g gv' lb lo xs []) = kvs6 ++ entsAll xs := by
          rw [ek6]
          simp only [ents, entsAll, List.append_nil, List.append_assoc, List.cons_append, List.nil_append]
        rw [e, e', e2]
        exact S9.same s12) (tok.fol (Fol.of_same s12)) (by simp only [AT.tr, trs, htr]) (by simp only [ht, htAll]; omega) (by simp only [adrs, adrsAll, List.append_nil]; exact List.nodup_cons.mpr ⟨haN, hnd⟩)⟩
    | both _ _ r' gv' b c nb mc us us2 g1 _ hB hC =>
      obtain rfl : gv' = gv := by injection etr
      obtain ⟨e1, e2⟩ : ("if" : Str) = x ∧ r' = r := by
        have z := (Prod.mk.inj (List.cons.inj eseg).1).2
        exact ⟨(List.cons.inj z).1, (List.cons.inj z).2⟩
      subst e1 e2
      refine iteT ?_
      refine ⟨_, rfl, p, dp, _, rfl, hp7, (by kernel_rfl), _, rfl, _, _, rfl, rfl, ?_⟩
      dsimp only [tNil]
      have hrows1 : rows = (pre ++ [(d, ("if" : Str) :: r')]) ++ b ++ ((d, [("else" : Str)]) :: (c ++ post)) := by
        rw [hrows]
        simp only [List.append_assoc, List.cons_append, List.nil_append]
      have hrows2 : rows = (pre ++ [(d, ("if" : Str) :: r')] ++ b ++ [(d, [("else" : Str)])]) ++ c ++ post := by
        rw [hrows]
        simp only [List.append_assoc, List.cons_append, List.nil_append]
      refine body b ((d, [("else" : Str)]) :: (c ++ post)) nb us _ hrows1 hB (by omega) (fun y hy => by
        have e := Option.some.inj hy
        rw [← e]
        exact Nat.lt_succ_self d) fun lb H8 xs kp8 S8 hlb hlb1 hne hlen hT8 htr hht hnd => ?_
      have h8 := kp8 _ _ h7 npa nta
      have haN : a ∉ adrsAll xs := fun z => by
        have z2 : H7 a = none := (hT8.adr xs a z).1
        rw [h7] at z2
        cases z2
      have hgv8 : GvAt H8 g gv' := hgv7.map fun b us h => kp8 _ _ h (ne_of h hp7 (by intro z; cases z)) (ne_of h S7.dt (by intro z; cases z))
      have k8 : Keep p t H (upd H8 a (.ins CS dx (sf ((k : Int) + 1) "if" g lb lo 0))) := fun c o hc n1 n2 => by
        rw [upd_ne (ne_of_none hc haH)]
        exact kp8 _ _ (kp7 _ _ hc n1 n2) n1 n2
      refine ⟨_, rfl, a, CS, dx, _, rfl, h8, TS.cl, TS.nInside, (by show 6 < 1000; decide), ?_⟩
      rw [put_inside]
      have S9 := S8.setSt (li' := lb) (lo' := lo) (fo' := 0) h8
      have h9 : (upd H8 a (.ins CS dx (sf ((k : Int) + 1) "if" g lb lo 0))) a = some (.ins CS dx (sf ((k : Int) + 1) "if" g lb lo 0)) := upd_same
      have nlb : lb ≠ a := ne_of hlb1 h8 (by intro z; cases z)
      have l9 : (upd H8 a (.ins CS dx (sf ((k : Int) + 1) "if" g lb lo 0))) lb = some (.lst (refs xs)) := by rw [upd_ne nlb]; exact hlb1
      have c9 : TOks CS (New H7) (upd H8 a (.ins CS dx (sf ((k : Int) + 1) "if" g lb lo 0))) xs := TOks.upd (fun z => by have z2 : H7 a = none := z; rw [h7] at z2; cases z2) h8 _ hT8
      have v9 : GvAt (upd H8 a (.ins CS dx (sf ((k : Int) + 1) "if" g lb lo 0))) g gv' := hgv8.map (fun b us h => by rw [upd_ne (ne_of h h8 (by intro z; cases z))]; exact h)
      generalize upd H8 a (.ins CS dx (sf ((k : Int) + 1) "if" g lb lo 0)) = H9 at k8 S9 h9 l9 c9 v9 ⊢
      refine ⟨_, rfl, a, CS, dx, _, _, rfl, h9, TS.cl, TS.nWord, sf_word, rfl, _, rfl, iteT ?_⟩
      obtain ⟨⟨dp9, hp9⟩, _⟩ := id S9.pin
      refine ⟨_, rfl, p, dp9, _, rfl, hp9, (by kernel_rfl), _, rfl, p, l, m, s, t, k + 1 + b.length, d, sy, fi, rows.map lineOf, rfl, S9.pin.ob, S9.ln, by omega, fun A2 H10 s10 hA2 hA21 => ⟨small (by show 1 ≤ 1000; decide), fun A3 hA3 => ?_⟩⟩
      have s11 := same_new hA3 (.lst [.str "else"])
      have eW : wordsAt (rows.map lineOf) (k + 1 + b.length) d = [("else" : Str)] := by
        rw [wordsAt_rows hG]
        have e : rows[k + 1 + b.length]? = some (d, [("else" : Str)]) := by
          have z := at_post (pre := pre ++ [(d, ("if" : Str) :: r')]) (seg := b) (post := (d, [("else" : Str)]) :: (c ++ post))
          rw [← hrows1, List.length_append, hk] at z
          exact z
        rw [e]
        dsimp only
        rw [if_pos rfl]
      rw [eW] at hA21
      have okE : ∀ z ∈ ([("else" : Str)] : List Str), PyData.strOk z = true := by simp; decide +kernel
      refine ⟨.list (([("else" : Str)]).map .str), .list (([("else" : Str)]).map .str), .lst (.inl (.inl (s11 _ _ hA21))) (dp_strs [("else" : Str)]), .lst (.inl (.inl upd_same)) (dp_strs [("else" : Str)]), shaped_strs okE, shaped_strs okE, ?_⟩
      have ev : PyData.eqv (.list (([("else" : Str)]).map .str)) (.list (([("else" : Str)]).map .str)) = decide (([("else" : Str)]) = [("else" : Str)]) := eqv_strs _ _
      rw [ev, decide_eq_true rfl]
      refine ⟨_, rfl, iteT ?_⟩
      have s12 := s10.trans s11
      have S11 := S9.same s12
      have hp11 := s12 _ _ hp9
      have h11 := s12 _ _ h9
      have l11 := s12 _ _ l9
      have c11 : TOks CS (New H7) (upd H10 A3 (.lst [.str "else"])) xs := TOks.fol (Fol.of_same s12) xs c9
      have v11 : GvAt (upd H10 A3 (.lst [.str "else"])) g gv' := v9.map fun b us h => s12 _ _ h
      have k11 := k8.trans (Keep.of_same (t := t) (p := p) s12)
      generalize upd H10 A3 (.lst [.str "else"]) = H11 at S11 hp11 h11 l11 c11 v11 k11 ⊢
      obtain ⟨S12, kb⟩ := S11.bump hp11
      refine ⟨_, rfl, p, C, dp9, _, _, rfl, hp11, TP.cl, TP.nNumber, pf_number, _, _, rfl, rfl, dp9, _, hp11, (by show 7 < 1000; decide), ?_⟩
      rw [put_next]
      have h12 := kb _ _ h11 npa nta
      have hp12 : (upd H11 p (.ins C dp9 (pf l (((k + 1 + b.length + 1 : Nat) : Int) + 1) sy m s t fi))) p = some (.ins C dp9 (pf l (((k + 1 + b.length + 1 : Nat) : Int) + 1) sy m s t fi)) := upd_same
      have k12 := k11.trans kb
      have c12 : TOks CS (New H7) (upd H11 p (.ins C dp9 (pf l (((k + 1 + b.length + 1 : Nat) : Int) + 1) sy m s t fi))) xs := TOks.keep ⟨dp9, _, hp11⟩ ⟨_, S11.dt⟩ S11.cc kb _ c11
      have v12 : GvAt (upd H11 p (.ins C dp9 (pf l (((k + 1 + b.length + 1 : Nat) : Int) + 1) sy m s t fi))) g gv' := v11.map fun b us h => kb _ _ h (ne_of h hp11 (by intro z; cases z)) (ne_of h S11.dt (by intro z; cases z))
      have l12 := kb _ _ l11 (ne_of l11 hp11 (by intro z; cases z)) (ne_of l11 S11.dt (by intro z; cases z))
      generalize upd H11 p (.ins C dp9 (pf l (((k + 1 + b.length + 1 : Nat) : Int) + 1) sy m s t fi)) = H12 at S12 kb h12 hp12 k12 c12 v12 l12 ⊢
      refine ⟨_, rfl, p, dp9, _, rfl, hp12, (by kernel_rfl), _, rfl, _, _, rfl, rfl, ?_⟩
      dsimp only [tNil]
      refine ⟨p, l, m, s, t, k + 1 + b.length + 1, sy, fi, ms, ss, rows, pre ++ [(d, ("if" : Str) :: r')] ++ b ++ [(d, [("else" : Str)])], c, post, kvs6 ++ entsAll xs, cnt + 1 + nb, mc, us2, (by rw [Int.natCast_add]; rfl), S12, hrows2, by simp only [List.length_append, hk]; rfl, hG, hC, by omega, haft.deeper, hsy, fun lc H13 ys kp13 S13 hlc hlc1 hne2 hlen2 hT13 htr2 hht2 hnd2 => ?_⟩
      have e4 : 5 - (d + 1) = 4 - d := by omega
      rw [e4] at hht2
      have h13 := kp13 _ _ h12 npa nta
      have l13 := kp13 _ _ l12 (ne_of l12 hp12 (by intro z; cases z)) (ne_of l12 S12.dt (by intro z; cases z))
      have c13 : TOks CS (New H7) H13 xs := TOks.keep ⟨dp9, _, hp12⟩ ⟨_, S12.dt⟩ S12.cc kp13 _ c12
      have v13 : GvAt H13 g gv' := v12.map fun b us h => kp13 _ _ h (ne_of h hp12 (by intro z; cases z)) (ne_of h S12.dt (by intro z; cases z))
      have haN2 : a ∉ adrsAll ys := fun z => by
        have z2 : H12 a = none := (hT13.adr ys a z).1
        rw [h12] at z2
        cases z2
      refine ⟨_, rfl, a, CS, dx, _, rfl, h13, TS.cl, TS.nOtherwise, (by show 6 < 1000; decide), ?_⟩
      rw [put_otherwise]
      have nlb3 : lb ≠ a := ne_of l13 h13 (by intro z; cases z)
      have nlc3 : lc ≠ a := ne_of hlc1 h13 (by intro z; cases z)
      refine ⟨_, rfl, q (.node a (k + 1) "if" g gv' lb lc xs ys) _ (fun c o hc n1 n2 => ?_) ?_ ?_ (by simp only [AT.tr, htr, htr2]) (by simp only [ht]; omega) ?_⟩
      · rw [upd_ne (ne_of_none hc haH)]
        exact kp13 _ _ (k12 _ _ hc n1 n2) n1 n2
      · have e : k + ((d, ("if" : Str) :: r') :: (b ++ (d, [("else" : Str)]) :: c)).length = k + 1 + b.length + 1 + c.length := by
          rw [List.length_cons, List.length_append, List.length_cons]; omega
        have e' : cnt + (nb + 1 + mc) = cnt + 1 + nb + mc := by omega
        have e2 : kvs ++ ents (.node a (k + 1) "if" g gv' lb lc xs ys) = kvs6 ++ entsAll xs ++ entsAll ys := by
          rw [ek6]
          simp only [ents, List.append_assoc, List.cons_append, List.nil_append]
        rw [e, e', e2]
        exact S13.setSt h13
      · simp only [TOk]
        exact ⟨haH, ⟨dx, 0, upd_same⟩, v13.map (fun b us h => by rw [upd_ne (ne_of h h13 (by intro z; cases z))]; exact h), by rw [upd_ne nlb3]; exact l13, by rw [upd_ne nlc3]; exact hlc1, ⟨by omega, S7.grown kp7 _ hlb, S12.grown k12 _ hlc⟩, by omega,
          TOks.base (fun c hc => S7.grown kp7 c hc) _ (TOks.upd (fun z => by have z2 : H7 a = none := z; rw [h7] at z2; cases z2) h13 _ c13),
          TOks.base (fun c hc => S12.grown k12 c hc) _ (TOks.upd (fun z => by have z2 : H12 a = none := z; rw [h12] at z2; cases z2) h13 _ hT13)⟩
      · simp only [adrs]
        refine List.nodup_cons.mpr ⟨fun z => (List.mem_append.mp z).elim haN haN2, List.nodup_append.mpr ⟨hnd, hnd2, fun b hb c hc e => ?_⟩⟩
        subst e
        obtain ⟨_, o, ho⟩ := TOks.adr xs c12 b hb
        have z2 : H12 b = none := (hT13.adr ys b hc).1
        rw [ho] at z2
        cases z2
  obtain ⟨tt, ht, hrest⟩ := rest
  refine ⟨_, (pss_cons (ps_set (i := 2) sc_Parser_read_statement.nd rfl (Or.inl rfl) (pe_meth (pv 0) TP.cl MW.m MW.ok (hr.mono (by omega)) MW.b .nil pass0 (pa_cons (pv 1) pa_nil)))
(pss_cons (ps_set (i := 3) sc_Parser_read_statement.nd rfl (Or.inl rfl) (pe_meth (pv 0) TP.cl MG.m MG.ok (hr.mono hL) MG.b .nil pass0 (pa_cons (pv 2) pa_nil)))
(pss_cons (ps_if (PW.pt (pw_or (pt_cmpR op_isN (pv 3) pe_non (nomark _)) (pw_or1 (pt_cmpR op_eq (pe_callB call_lenD (by rfl) T.len PySem.boot_len (pa_cons (pe_fld (pv 0) rfl) pa_nil)) (pe_glob (v := .int 20) rfl g20 ⟨_, rfl⟩) (nomark _)))))
(pss_one ps_never)
pss_nil)
(pss_cons (ps_set (i := 4) sc_Parser_read_statement.nd rfl (Or.inl rfl) (pe_make MI.mkr MI.ok (hr.mono (by omega)) rfl MI.mg MI.b .nil pass0 (pa_cons (pe_fld (pv 0) rfl) (pa_cons (pe_ix ix_list (pv 2) pe_int (fun _ _ => rfl)) (pa_cons (pv 3) pa_nil)))))
(pss_cons (ps_dput hu (pe_fld (pv 0) rfl) (pe_fld (pv 0) rfl) (pv 4) rfl)
(pss_cons (ps_fldaug (pv 0) pe_int in_add) ht)))))), ?_⟩
  obtain ⟨⟨dp, hp⟩, mo, hst, nm, ns⟩ := S.pin
  -- words, given
  refine ⟨_, rfl, p, dp, _, rfl, hp, (by kernel_rfl), _, rfl, p, l, m, s, t, k, d, sy, fi, rows.map lineOf, rfl, S.pin.ob, S.ln, by omega, fun A1 H1 s1 hA hA1 => ?_⟩
  rw [wordsAt_rows hG, hat] at hA1
  have hA1' : H1 A1 = some (.lst ((x :: r).map V.str)) := by
    rw [hA1]
    dsimp only
    rw [if_pos rfl]
  have S1 := S.same s1
  refine ⟨_, rfl, p, dp, _, rfl, s1 _ _ hp, (by kernel_rfl), _, rfl, p, l, m, s, t, A1, _, sy, fi, ms, ss, x, r, gv, rfl, S1.pin, .inl (.inl hA1'), hgiv, hsy, fun g H2 s2 hg hgat => ?_⟩
  have s12 := s1.trans s2
  have S2 := S.same s12
  refine ⟨_, rfl, rfl, _, rfl, ?_⟩
  rw [decide_eq_false hg.1]
  refine iteF ?_
  refine ⟨_, rfl, p, C, dp, _, _, rfl, s12 _ _ hp, TP.cl, TP.nStatements, pf_statements, t, kvs, rfl, S2.dt, rfl, _, rfl, ?_⟩
  have hlt : decide (V.int ((kvs.length : Nat) : Int) = V.int 20) = false := decide_eq_false fun z => by
    have := V.int.inj z
    rw [S.few] at this
    omega
  rw [hlt]
  refine iteF ?_
  -- the statement
  refine ⟨_, rfl, p, C, dp, _, _, rfl, s12 _ _ hp, TP.cl, TP.nNumber, pf_number, _, rfl, A1, _, 0, .str x, rfl, rfl, .inl (.inl (s2 _ _ hA1')), at_of (j := 0) rfl rfl, _, rfl, fun a dx ha hdx ne => ?_⟩
  refine ⟨a, dx, _, x, g, rfl, upd_same, fun li lo H3 hli hlo nll h3 hl1 hl2 k3 => ⟨rfl, ?_⟩⟩
  have sn : Same H2 (upd (upd H2 dx (.own a)) a (.ins CS dx [])) := fun b o e => by
    rw [upd_ne (ne_of_none e ha), upd_ne (ne_of_none e hdx)]
    exact e
  have s3 : Same H2 H3 := fun b o e => k3 b o (sn b o e) (ne_of_none e ha)
  have s123 := s12.trans s3
  have S3 := S.same s123
  -- self.statements[self.number] = statement
  have hnone : valV kvs (Sum.inl ((k : Int) + 1) : Key) = none := by
    cases e : valV kvs (Sum.inl ((k : Int) + 1) : Key) with
    | none => rfl
    | some v =>
      obtain ⟨kv, hkv, e2⟩ := List.mem_map.mp (valV_in e)
      obtain ⟨i, h1, h2⟩ := S.keys kv hkv
      rw [h1] at e2
      have := Sum.inl.inj e2
      omega
  refine ⟨_, rfl, _, rfl, p, C, dp, _, _, rfl, s123 _ _ hp, TP.cl, TP.nStatements, pf_statements, _, rfl, p, C, dp, _, _, rfl, s123 _ _ hp, TP.cl, TP.nNumber, pf_number, t, _, rfl, DPut.k (k := Sum.inl ((k : Int) + 1)) S3.dt (small1000 (by rw [S.few]; omega)), ?_⟩
  rw [putK_new _ hnone]
  have npt : p ≠ t := ne_of (s123 _ _ hp) S3.dt (by intro z; cases z)
  -- self.number += 1
  have hp4 : (upd H3 t (.dK (kvs ++ [((Sum.inl ((k : Int) + 1) : Key), V.ref a)]))) p = some (.ins C dp (pf l ((k : Int) + 1) sy m s t fi)) := by rw [upd_ne npt]; exact s123 _ _ hp
  refine ⟨_, rfl, p, C, dp, _, _, rfl, hp4, TP.cl, TP.nNumber, pf_number, _, _, rfl, rfl, dp, _, hp4, (by show 7 < 1000; decide), ?_⟩
  rw [put_next]
  have haH : H a = none := s12.free ha
  have npa : a ≠ p := (ne_of_none (s12 _ _ hp) ha).symm
  have nta : a ≠ t := (ne_of_none S2.dt ha).symm
  have nlt : ∀ {b : Addr} {us : List V}, H3 b = some (.lst us) → b ≠ p ∧ b ≠ t := fun h => ⟨ne_of h (s123 _ _ hp) (by intro z; cases z), ne_of h S3.dt (by intro z; cases z)⟩
  have kp : Keep p t H (upd (upd H3 t (.dK (kvs ++ [((Sum.inl ((k : Int) + 1) : Key), V.ref a)]))) p (.ins C dp (pf l (((k + 1 : Nat) : Int) + 1) sy m s t fi))) := fun b o hb n1 n2 => by
    rw [upd_ne n1, upd_ne n2]
    exact s123 _ _ hb
  have kp2 : Keep p t H3 (upd (upd H3 t (.dK (kvs ++ [((Sum.inl ((k : Int) + 1) : Key), V.ref a)]))) p (.ins C dp (pf l (((k + 1 : Nat) : Int) + 1) sy m s t fi))) := fun b o hb n1 n2 => by
    rw [upd_ne n1, upd_ne n2]
    exact hb
  refine hrest _ A1 a dx li lo g (kvs ++ [((Sum.inl ((k : Int) + 1) : Key), V.ref a)]) rfl (hgat.map fun b us h => kp2 _ _ (s3 _ _ h) (ne_of (s3 _ _ h) (s123 _ _ hp) (by intro z; cases z)) (ne_of (s3 _ _ h) S3.dt (by intro z; cases z))) kp ?_ haH ?_ ?_ ?_ nll (s12.free (sn.free hli)) (s12.free (sn.free hlo))
  · have nmp : m ≠ p := ne_of mo hp (by intro z; cases z)
    have nsp : s ≠ p := ne_of hst hp (by intro z; cases z)
    obtain ⟨nlp, nl2⟩ := nlt S3.ln.at_
    refine ⟨⟨⟨dp, upd_same⟩, by rw [upd_ne nmp, upd_ne S.nm]; exact s123 _ _ mo, by rw [upd_ne nsp, upd_ne S.ns]; exact s123 _ _ hst, nm, ns⟩, ⟨by rw [upd_ne nlp, upd_ne nl2]; exact S3.ln.at_, S.ln.few, S.ln.short⟩, by rw [upd_ne npt.symm]; exact upd_same, ?_, ?_, ?_, S.nm, S.ns, S.cc⟩
    · rw [List.length_append, S.few]; rfl
    · intro kv hkv
      rcases List.mem_append.mp hkv with h | h
      · obtain ⟨i, h1, h2⟩ := S.keys kv h
        exact ⟨i, h1, by omega⟩
      · rw [List.mem_singleton.mp h]
        exact ⟨k + 1, by show Sum.inl _ = Sum.inl _; congr 1, Nat.le_refl _⟩
    · intro kv hkv
      rcases List.mem_append.mp hkv with h | h
      · obtain ⟨b, h1, h2⟩ := S.ok kv h
        exact ⟨b, h1, h2.keep S kp⟩
      · rw [List.mem_singleton.mp h]
        refine ⟨a, rfl, dx, _, x, g, li, lo, 0, by rw [upd_ne npa, upd_ne nta]; exact h3, hg.2⟩
  · rw [upd_ne npa, upd_ne nta]; exact h3
  · obtain ⟨e1, e2⟩ := nlt hl1
    rw [upd_ne e1, upd_ne e2]; exact hl1
  · obtain ⟨e1, e2⟩ := nlt hl2
    rw [upd_ne e1, upd_ne e2]; exact hl2
end
end Fv
set_option Elab.async false
set_option linter.all false
set_option maxRecDepth 100000
set_option maxHeartbeats 4000000
namespace Fv
open PySem L2 TL
abbrev s_Parser_read_body : Stmt := inClass (top 41) 8
abbrev sc_Parser_read_bodyN : List Str := ["self", "depth", "body"]
theorem sc_Parser_read_body : FnScope sc_Parser_read_bodyN ["self", "depth"] (defScope s_Parser_read_body) := ⟨rfl, rfl, rfl, by decide +kernel, rfl, by decide +kernel, by decide +kernel⟩
/-- one statement, and what may be left -/
theorem Bod.split {sy : Str} {ms ss : NV} {d k : Nat} {seg : List Row} {n : Nat} {us : List Tr} (h : Bod sy ms ss d k seg n us) : ∃ (s t : List Row) (i j : Nat) (u : Tr) (vs : List Tr), seg = s ++ t ∧ n = i + j ∧ us = u :: vs ∧ Stm sy ms ss d k s i u ∧ (t = [] ∧ j = 0 ∧ vs = [] ∨ Bod sy ms ss d (k + s.length) t j vs) := by
  cases h with
  | one _ _ s n t h => exact ⟨_, [], _, 0, t, [], (List.append_nil _).symm, rfl, rfl, h, .inl ⟨rfl, rfl, rfl⟩⟩
  | more _ _ s t n m u us h1 h2 => exact ⟨s, t, n, m, u, us, rfl, rfl, rfl, h1, .inr h2⟩
theorem aft_split {sy : Str} {ms ss : NV} {d k : Nat} {t post : List Row} {j : Nat} {vs : List Tr} (h : t = [] ∧ j = 0 ∧ vs = [] ∨ Bod sy ms ss d k t j vs) (ha : AfterBod d post) : AfterStm d (t ++ post) := by
  rcases h with ⟨rfl, _⟩ | h
  · exact AfterStm.of_bod ha
  · exact AfterStm.bod h
section
variable {P : Program} {w : World} {K : PySem.W.Frag} {mg : Str → Option Value} {base : Heap}
theorem ok_read_body {f C CS : Addr} {fd : FuncData} {d L : Nat} (F : Fun K "read_body" "Parser.read_body" s_Parser_read_body f fd) (T1 : Consts K mg) (TP : PTxt K C) (hd : d ≤ 4) (hL : 1 ≤ L)
    (MW : Meter P w K mg base C 1 "words_at" ["self", "depth"] (spWords C)) (MS : Meter P w K mg base C L "read_statement" ["self", "depth"] (spStm C CS d)) : FnOk P w K mg base CX0 (L + 1) f fd ["self", "depth"] (spBod C CS d) := by
  refine F.ok sc_Parser_read_body (fun vs H Q E h => ?_) (fun cdv A outer st H vs Q E hr h => ?_)
  · obtain ⟨p, l, m, s, t, k, sy, fi, ms, ss, rows, pre, seg, post, kvs, cnt, n, us, rfl, _⟩ := h
    rfl
  obtain ⟨p, l, m, s, t, k, sy, fi, ms, ss, rows, pre, seg, post, kvs, cnt, n, us, rfl, S, hrows, hk, hG, hB, hcnt, haft, hsy, q⟩ := h
  obtain ⟨t4, g4⟩ := T1.mostBodies
  refine ⟨_, (pss_cons (ps_if (pt_cmpR op_gt (pv 1) (pe_glob (v := .int 4) rfl g4 ⟨_, rfl⟩) (nomark _))
(pss_one ps_never)
pss_nil)
(pss_cons (ps_set (i := 2) sc_Parser_read_body.nd rfl (Or.inl rfl) (pe_lst (pa_cons (pe_meth (pv 0) TP.cl MS.m MS.ok hr MS.b .nil pass0 (pa_cons (pv 1) pa_nil)) pa_nil)))
(pss_cons (ps_while PassesOwn.never (pt_truth (pe_meth (pv 0) TP.cl MW.m MW.ok (hr.mono hL) MW.b .nil pass0 (pa_cons (pv 1) pa_nil)) (by intro _; rfl))
(pss_one (ps_expr (pe_bm PySem.F.plainAttrs_list PySem.F.slot_list_append PySem.F.type_list_append mt_append (pv 2) (pa_cons (pe_meth (pv 0) TP.cl MS.m MS.ok hr MS.b .nil pass0 (pa_cons (pv 1) pa_nil)) pa_nil)))))
(pss_one (ps_ret (pv 2)))))), ?_⟩
  obtain ⟨⟨dp, hp⟩, _⟩ := id S.pin
  refine ⟨_, rfl, _, _, rfl, rfl, _, rfl, ?_⟩
  have e0 : decide ((4 : Int) < (d : Int)) = false := decide_eq_false (by omega)
  rw [e0]
  refine iteF ?_
  obtain ⟨s0, t0, i0, j0, u0, vs0, rfl, rfl, eus, hS0, hT0⟩ := hB.split
  have hrows0 : rows = pre ++ s0 ++ (t0 ++ post) := by rw [hrows]; simp only [List.append_assoc]
  have hi0 : 1 ≤ i0 := by
    obtain ⟨_, _, _, _, _, _, _, _, _, z, _⟩ := hS0.first
    exact z
  refine ⟨_, rfl, p, dp, _, rfl, hp, (by kernel_rfl), _, rfl, ?_⟩
  dsimp only [tNil]
  refine ⟨p, l, m, s, t, k, sy, fi, ms, ss, rows, pre, s0, t0 ++ post, kvs, cnt, i0, u0, rfl, S, hrows0, hk, hG, hS0, by omega, aft_split hT0 haft, hsy, fun a H1 k1 S1 hta htr hht hnd => ?_⟩
  refine ⟨small (by show 1 ≤ 1000; decide), fun lb hlb => ?_⟩
  have sL := same_new hlb (.lst (refs [a]))
  have hlbH : H lb = none := S1.grown k1 _ hlb
  refine ⟨fun mm σ H2 => ∃ (pre2 t2 : List Row) (j2 cnt2 : Nat) (xs : List AT) (vs2 : List Tr), σ = [some (.ref p), some (.int (d : Int)), some (.ref lb)] ∧ mm = t2.length ∧ rows = pre2 ++ t2 ++ post ∧ (t2 = [] ∧ j2 = 0 ∧ vs2 = [] ∨ Bod sy ms ss d pre2.length t2 j2 vs2) ∧
      SAt C CS H2 p l m s t pre2.length sy fi ms ss rows (kvs ++ entsAll xs) cnt2 ∧ cnt2 + j2 = cnt + (i0 + j0) ∧ pre2.length + t2.length = k + (s0 ++ t0).length ∧ Keep p t H H2 ∧ H2 lb = some (.lst (refs xs)) ∧ xs ≠ [] ∧ xs.length + j2 ≤ i0 + j0 ∧ TOks CS (fun c => New H c ∧ c ≠ lb) H2 xs ∧ trs xs ++ vs2 = us ∧ htAll xs ≤ 5 - d ∧ (adrsAll xs).Nodup, ?_, ?_⟩
  · refine ⟨t0.length, pre ++ s0, t0, j0, cnt + i0, [a], vs0, rfl, rfl, by rw [hrows]; simp only [List.append_assoc], by rw [List.length_append, hk]; exact hT0, ?_, by omega, by simp only [List.length_append, hk]; omega, k1.trans (Keep.of_same sL), upd_same, by simp, by simp; omega, ?_, by simp only [trs, htr, eus, List.cons_append, List.nil_append], by rw [ht_one]; exact hht, by rw [adrs_one]; exact hnd⟩
    · rw [List.length_append, hk, ents_one]
      exact S1.same sL
    · simp only [TOks]
      exact ⟨(TOk.avoid hlb _ hta).fol (Fol.of_same sL) _, trivial⟩
  · rintro mm σ H2 ⟨pre2, t2, j2, cnt2, xs, vs2, rfl, rfl, hr2, hT2, S2, hc2, hl2, k2, hlb2, hne, hxs, hx, htr2, hht2, hnd2⟩
    obtain ⟨⟨dp2, hp2⟩, _⟩ := id S2.pin
    refine ⟨_, rfl, p, dp2, _, rfl, hp2, (by kernel_rfl), _, rfl, p, l, m, s, t, pre2.length, d, sy, fi, rows.map lineOf, rfl, S2.pin.ob, S2.ln, by omega, fun A2 H3 s3 hA2 hA21 => ?_⟩
    have S3 := S2.same s3
    have hp3 := s3 _ _ hp2
    have hlb3 := s3 _ _ hlb2
    have k3 := k2.trans (Keep.of_same s3)
    rcases hT2 with ⟨rfl, rfl, rfl⟩ | hB2
    · have eW : wordsAt (rows.map lineOf) pre2.length d = [] := by
        rw [wordsAt_rows hG]
        have e : rows[pre2.length]? = post.head? := by
          have z := at_post (pre := pre2) (seg := []) (post := post)
          rw [← hr2] at z
          exact z
        rw [e]
        cases e2 : post.head? with
        | none => rfl
        | some y =>
          dsimp only
          rw [if_neg (by have := haft y e2; omega)]
      rw [eW] at hA21
      refine ⟨false, .inl ⟨_, .inl (.inl hA21), rfl⟩, iteF ?_⟩
      refine ⟨_, rfl, q lb H3 xs k3 ?_ hlbH hlb3 hne (by omega) (TOks.fol (Fol.of_same s3) xs (TOks.base (fun c hc => hc.1) _ hx)) (by rw [← htr2, List.append_nil]) hht2 hnd2⟩
      have e1 : k + (s0 ++ t0).length = pre2.length := by rw [← hl2]; rfl
      have e2 : cnt + (i0 + j0) = cnt2 := by omega
      rw [e1, e2]
      exact S3
    · obtain ⟨s4, t4', i4, j4, u4, vs4, rfl, rfl, rfl, hS4, hT4⟩ := hB2.split
      obtain ⟨x4, r4, rest4, gv4, _, _, e4, _, _, hi4, _⟩ := hS4.first
      have hr4 : rows = pre2 ++ s4 ++ (t4' ++ post) := by rw [hr2]; simp only [List.append_assoc]
      have eW : wordsAt (rows.map lineOf) pre2.length d = x4 :: r4 := by
        rw [wordsAt_rows hG]
        have e : rows[pre2.length]? = some (d, x4 :: r4) := by rw [hr4]; exact at_pre e4
        rw [e]
        dsimp only
        rw [if_pos rfl]
      rw [eW] at hA21
      refine ⟨true, .inl ⟨_, .inl (.inl hA21), rfl⟩, iteT ?_⟩
      refine ⟨fun σ' H' => ∃ m', m' < (s4 ++ t4').length ∧ ∃ (pre2 t2 : List Row) (j2 cnt2 : Nat) (xs : List AT) (vs2 : List Tr), σ' = [some (.ref p), some (.int (d : Int)), some (.ref lb)] ∧ m' = t2.length ∧ rows = pre2 ++ t2 ++ post ∧ (t2 = [] ∧ j2 = 0 ∧ vs2 = [] ∨ Bod sy ms ss d pre2.length t2 j2 vs2) ∧
        SAt C CS H' p l m s t pre2.length sy fi ms ss rows (kvs ++ entsAll xs) cnt2 ∧ cnt2 + j2 = cnt + (i0 + j0) ∧ pre2.length + t2.length = k + (s0 ++ t0).length ∧ Keep p t H H' ∧ H' lb = some (.lst (refs xs)) ∧ xs ≠ [] ∧ xs.length + j2 ≤ i0 + j0 ∧ TOks CS (fun c => New H c ∧ c ≠ lb) H' xs ∧ trs xs ++ vs2 = us ∧ htAll xs ≤ 5 - d ∧ (adrsAll xs).Nodup, fun σ' H' z => z, ?_⟩
      refine ⟨_, rfl, .inl ⟨rfl, _, .inl (.inl hlb3)⟩, _, rfl, p, dp2, _, rfl, hp3, (by kernel_rfl), _, rfl, ?_⟩
      dsimp only [tNil]
      refine ⟨p, l, m, s, t, pre2.length, sy, fi, ms, ss, rows, pre2, s4, t4' ++ post, kvs ++ entsAll xs, cnt2, i4, u4, rfl, S3, hr4, rfl, hG, hS4, by omega, aft_split hT4 haft, hsy, fun a5 H5 k5 S5 hta5 htr5 hht5 hnd5 => ?_⟩
      have nlp : lb ≠ p := ne_of hlb3 hp3 (by intro z; cases z)
      have nlt : lb ≠ t := ne_of hlb3 S3.dt (by intro z; cases z)
      have hlb5 := k5 _ _ hlb3 nlp nlt
      refine ⟨lb, _, _, rfl, rfl, hlb5, ?_, ?_⟩
      · rw [show (refs xs).length = xs.length from List.length_map _]
        exact small1000 (by omega)
      · have el : refs xs ++ [V.ref a5.a] = refs (xs ++ [a5]) := by unfold refs; rw [List.map_append]; rfl
        rw [el]
        obtain ⟨⟨dp5, hp5⟩, mo5, st5, _, _⟩ := id S5.pin
        have kk : Keep p t H (upd H5 lb (.lst (refs (xs ++ [a5])))) := fun b o hb n1 n2 => by
          rw [upd_ne (ne_of_none hb hlbH)]
          exact k5 _ _ (k3 _ _ hb n1 n2) n1 n2
        have nb : ∀ {b : Addr} {o : HO}, H5 b = some o → (∀ us, o ≠ .lst us) → b ≠ lb := fun h z => ne_of h hlb5 (z _)
        have nlbN : ¬ (fun c => New H c ∧ c ≠ lb) lb := fun z => z.2 rfl
        refine ⟨t4'.length, by rw [List.length_append]; have z : 1 ≤ s4.length := by (rw [e4, List.length_cons]; omega)
                               omega, pre2 ++ s4, t4', j4, cnt2 + i4, xs ++ [a5], vs4, rfl, rfl, by rw [hr4]; simp only [List.append_assoc], by rw [List.length_append]; exact hT4, ?_, by omega, by rw [List.length_append]; rw [List.length_append] at hl2; omega, kk, upd_same, by simp, by rw [List.length_append]; show xs.length + 1 + j4 ≤ _; omega, ?_, ?_, by rw [ht_all, ht_one]; omega, ?_⟩
        · have nlp5 : p ≠ lb := nlp.symm
          have n1 : m ≠ lb := ne_of mo5 hlb5 (by intro z; cases z)
          have n2 : s ≠ lb := ne_of st5 hlb5 (by intro z; cases z)
          have n3 : l ≠ lb := fun z => by
            have h1 := S.ln.at_
            rw [z, hlbH] at h1
            cases h1
          obtain ⟨_, _, _, nm5, ns5⟩ := id S5.pin
          rw [List.length_append, ents_all, ents_one, ← List.append_assoc]
          refine ⟨⟨⟨dp5, by rw [upd_ne nlp5]; exact hp5⟩, by rw [upd_ne n1]; exact mo5, by rw [upd_ne n2]; exact st5, nm5, ns5⟩, ⟨by rw [upd_ne n3]; exact S5.ln.at_, S5.ln.few, S5.ln.short⟩, by rw [upd_ne nlt.symm]; exact S5.dt, S5.few, S5.keys, fun kv h => ?_, S5.nm, S5.ns, S5.cc⟩
          obtain ⟨b, h1, dx, ln, wd, g, li, lo, fo, h2, h3⟩ := S5.ok kv h
          exact ⟨b, h1, dx, ln, wd, g, li, lo, fo, by rw [upd_ne (ne_of h2 hlb5 (by intro z; cases z))]; exact h2, h3⟩
        · refine toks_iff.mpr fun x h => ?_
          refine toks_iff.mp (TOks.updL (us := refs (xs ++ [a5])) nlbN hlb5 (xs ++ [a5]) (toks_iff.mpr fun x h => ?_)) x h
          rcases List.mem_append.mp h with h | h
          · exact toks_iff.mp (TOks.keep ⟨dp2, _, hp3⟩ ⟨_, S3.dt⟩ S3.cc k5 _ (TOks.fol (Fol.of_same s3) _ hx)) x h
          · rw [List.mem_singleton.mp h]
            refine TOk.base (fun c hc => ⟨S3.grown k3 c hc, fun z => ?_⟩) _ hta5
            rw [z] at hc
            have hc2 : H3 lb = none := hc
            rw [hlb3] at hc2
            cases hc2
        · rw [trs_map] at htr2 ⊢
          rw [List.map_append, List.append_assoc, ← htr2, ← htr5]
          rfl
        · rw [adrs_all, adrs_one]
          refine List.nodup_append.mpr ⟨hnd2, hnd5, fun b hb c hc e => ?_⟩
          subst e
          obtain ⟨_, o, ho⟩ := TOks.adr xs hx b hb
          have z2 : H3 b = none := (hta5.adr a5 b hc).1
          rw [s3 _ _ ho] at z2
          cases z2
end
end Fv
set_option Elab.async false
set_option linter.all false
set_option maxRecDepth 100000
set_option maxHeartbeats 4000000
namespace Fv
open PySem L2 TL
/-- lists, tuples and statements are as they were -/
def KB (CS : Addr) (H H' : Hp) : Prop := ∀ b o, H b = some o → ((∃ us, o = .lst us) ∨ (∃ us, o = .tup us) ∨ ∃ dx fs, o = .ins CS dx fs) → H' b = some o
theorem KB.of_same {CS : Addr} {H H' : Hp} (s : Same H H') : KB CS H H' := fun b o h _ => s b o h
theorem KB.trans {CS : Addr} {H H1 H2 : Hp} (a : KB CS H H1) (b : KB CS H1 H2) : KB CS H H2 := fun c o h k => b c o (a c o h k) k
theorem FoAt.map {CS : Addr} {H H' : Hp} (e : KB CS H H') {a : Addr} {k : Nat} (h : FoAt CS H a k) : FoAt CS H' a k := by
  obtain ⟨dx, ln, wd, g, li, lo, h⟩ := h
  exact ⟨dx, ln, wd, g, li, lo, e _ _ h (.inr (.inr ⟨_, _, rfl⟩))⟩
mutual
theorem LkT.map {CS : Addr} {H H' : Hp} (e : KB CS H H') : ∀ (t : AT) (f : Nat), LkT CS H t f → LkT CS H' t f
  | .node a ln wd g gv li lo ins oth, f, h => by
    simp only [LkT] at h ⊢
    exact ⟨h.1.map e, Lk.map e ins _ h.2.1, Lk.map e oth _ h.2.2⟩
theorem Lk.map {CS : Addr} {H H' : Hp} (e : KB CS H H') : ∀ (ts : List AT) (f : Nat), Lk CS H ts f → Lk CS H' ts f
  | [], _, _ => by simp only [Lk]
  | t :: ts, f, h => by
    simp only [Lk] at h ⊢
    exact ⟨LkT.map e t _ h.1, Lk.map e ts f h.2⟩
end
/-- a body, read and linked -/
structure Blk (CS : Addr) (G : Addr → Prop) (H : Hp) (us : List Tr) (xs : List AT) : Prop where
  ok : TOks CS G H xs
  tr : trs xs = us
  lk : Lk CS H xs 0
  ne : xs ≠ []
  nd : (adrsAll xs).Nodup
theorem Blk.map {CS : Addr} {G : Addr → Prop} {H H' : Hp} {us : List Tr} {xs : List AT} (h : Blk CS G H us xs) (e : KB CS H H') : Blk CS G H' us xs :=
  ⟨TOks.gen (fun c _ g _ => g) (fun c o _ hc k => e c o hc (k.elim .inl fun k => .inr (.inr k))) (fun c us hc => e c _ hc (.inr (.inl ⟨_, rfl⟩))) xs h.ok, h.tr, h.lk.map e xs _, h.ne, h.nd⟩
theorem Blk.base {CS : Addr} {G G' : Addr → Prop} {H : Hp} {us : List Tr} {xs : List AT} (h : Blk CS G' H us xs) (e : ∀ b, G' b → G b) : Blk CS G H us xs := ⟨TOks.base e xs h.ok, h.tr, h.lk, h.ne, h.nd⟩
theorem SAt.kb {C CS : Addr} {H H' : Hp} {p l m s t : Addr} {k : Nat} {sy : Str} {fi : Int} {ms ss : NV} {rows : List Row} {kvs : List (Key × V)} {cnt : Nat} (S : SAt C CS H p l m s t k sy fi ms ss rows kvs cnt) (e : ∀ b o, H b = some o → b ≠ p → b ≠ m → b ≠ s → b ≠ t → H' b = some o) : KB CS H H' := fun b o h k => by
  obtain ⟨⟨dp, hp⟩, mo, st, _, _⟩ := S.pin
  have nd : ∀ {c : Addr} {kv : List (Key × V)}, H c = some (.dK kv) → b ≠ c := fun hc => ne_of h hc (by rcases k with ⟨us, rfl⟩ | ⟨us, rfl⟩ | ⟨dx, fs, rfl⟩ <;> (intro z; cases z))
  refine e b o h (fun z => ?_) (nd mo) (nd st) (nd S.dt)
  rw [z, hp] at h
  rcases k with ⟨us, rfl⟩ | ⟨us, rfl⟩ | ⟨dx, fs, rfl⟩
  · cases h
  · cases h
  · injection Option.some.inj h with q
    exact S.cc q
/-- where a body begins -/
theorem Bod.line {sy : Str} {ms ss : NV} {d k : Nat} {seg : List Row} {n : Nat} {us : List Tr} (h : Bod sy ms ss d k seg n us) {xs : List AT} (e : trs xs = us) (f : Nat) : nxt f xs = k + 1 := by
  obtain ⟨s, t, i, j, u, vs, _, _, rfl, h1, _⟩ := h.split
  obtain ⟨x, r, rest, gv, ins, oth, _, _, _, _, rfl⟩ := h1.first
  cases xs with
  | nil => simp only [trs] at e; cases e
  | cons y ys =>
    simp only [trs] at e
    have e1 := (List.cons.inj e).1
    obtain ⟨a, ln, wd, g, gv, li, lo, ins, oth⟩ := y
    simp only [AT.tr] at e1
    injection e1
theorem SAt.fol {C CS : Addr} {H H' : Hp} {p l m s t : Addr} {k : Nat} {sy : Str} {fi : Int} {ms ss : NV} {rows : List Row} {kvs : List (Key × V)} {cnt : Nat} (S : SAt C CS H p l m s t k sy fi ms ss rows kvs cnt) (e : Fol CS H H') : SAt C CS H' p l m s t k sy fi ms ss rows kvs cnt := by
  obtain ⟨⟨dp, hp⟩, mo, st, nm, ns⟩ := S.pin
  have f : ∀ {b : Addr} {o : HO}, H b = some o → (∀ dx fs, o ≠ .ins CS dx fs) → H' b = some o := fun {b o} h n => by
    rcases e b o h with h1 | ⟨dx, _, _, _, _, _, _, _, e1, _⟩
    · exact h1
    · exact absurd e1 (n _ _)
  refine ⟨⟨⟨dp, f hp fun dx fs z => by injection z with q; exact S.cc q⟩, f mo (by intro _ _ z; cases z), f st (by intro _ _ z; cases z), nm, ns⟩, ⟨f S.ln.at_ (by intro _ _ z; cases z), S.ln.few, S.ln.short⟩, f S.dt (by intro _ _ z; cases z), S.few, S.keys, fun kv h => ?_, S.nm, S.ns, S.cc⟩
  obtain ⟨a, h1, dx, ln, wd, g, li, lo, fo, h2, h3⟩ := S.ok kv h
  obtain ⟨fo', h4⟩ := e.st h2
  exact ⟨a, h1, dx, ln, wd, g, li, lo, fo', h4, h3⟩
section
variable {P : Program} {w : World} {K : PySem.W.Frag} {mg : Str → Option Value} {base : Heap}
/-! ### the tower of bodies -/
theorem ok_body5 {f C CS : Addr} {fd : FuncData} : FnOk P w K mg base CX0 4 f fd ["self", "depth"] (spBod C CS 5) := by
  have no : ∀ vs H Q E, ¬ spBod C CS 5 vs H Q E := fun vs H Q E h => by
    obtain ⟨p, l, m, s, t, k, sy, fi, ms, ss, rows, pre, seg, post, kvs, cnt, n, us, _, _, _, _, _, hB, _⟩ := h
    obtain ⟨_, _, _, _, _, _, h5, _⟩ := hB.first
    omega
  exact ⟨fun vs H Q E h => absurd h (no vs H Q E), fun A outer s H args us vs Q E _ _ _ _ h => absurd h (no vs H Q E)⟩
theorem ok_bodies {fB fS C CS : Addr} {fdB fdS : FuncData} (FB : Fun K "read_body" "Parser.read_body" s_Parser_read_body fB fdB) (FS : Fun K "read_statement" "Parser.read_statement" s_Parser_read_statement fS fdS) (mB : Meth K C "read_body" fB) (mS : Meth K C "read_statement" fS) (bB : Binds K fdB ["self", "depth"] []) (bS : Binds K fdS ["self", "depth"] [])
    (T : Bare mg) (T1 : Consts K mg) (TP : PTxt K C) (TS : STxt K CS) (MW : Meter P w K mg base C 1 "words_at" ["self", "depth"] (spWords C)) (MG : Meter P w K mg base C 3 "given_by" ["self", "words"] (spGiven K C)) (MI : Maker P w K mg base CS 1 "Statement" ["self", "line", "word", "given"] (spStInit CS)) :
    ∀ j, j ≤ 4 → FnOk P w K mg base CX0 (2 * j + 4) fB fdB ["self", "depth"] (spBod C CS (5 - j))
  | 0, _ => ok_body5
  | j + 1, hj => by
    have ih := ok_bodies FB FS mB mS bB bS T T1 TP TS MW MG MI j (by omega)
    have e : 5 - j = (5 - (j + 1)) + 1 := by omega
    rw [e] at ih
    have hs := ok_read_statement FS T T1 TP TS (d := 5 - (j + 1)) (by omega) (by omega) MW MG MI ⟨fB, fdB, ih, mB, bB⟩
    exact ok_read_body FB T1 TP (by omega) (by omega) MW ⟨fS, fdS, hs, mS, bS⟩
/-! ### read_whole_body -/
abbrev s_Parser_read_whole_body : Stmt := inClass (top 41) 7
abbrev sc_Parser_read_whole_bodyN : List Str := ["self", "body"]
theorem sc_Parser_read_whole_body : FnScope sc_Parser_read_whole_bodyN ["self"] (defScope s_Parser_read_whole_body) := ⟨rfl, rfl, rfl, by decide +kernel, rfl, by decide +kernel, by decide +kernel⟩
def spWhole (C CS : Addr) : Sp := fun vs H Q _ => ∃ (p l m s t : Addr) (k : Nat) (sy : Str) (fi : Int) (ms ss : NV) (rows pre seg post : List Row) (kvs : List (Key × V)) (cnt n : Nat) (us : List Tr), vs = [.ref p] ∧
  SAt C CS H p l m s t k sy fi ms ss rows kvs cnt ∧ rows = pre ++ seg ++ post ∧ pre.length = k + 1 ∧ Good rows ∧ Bod sy ms ss 1 (k + 1) seg n us ∧ cnt + n ≤ 20 ∧ AfterBod 1 post ∧ sy.length ≤ 10 ∧
  ∀ (H' : Hp) (xs : List AT), Keep p t H H' → SAt C CS H' p l m s t (k + 1 + seg.length) sy fi ms ss rows (kvs ++ entsAll xs) (cnt + n) → Blk CS (New H) H' us xs → Q (.int ((k + 2 : Nat) : Int)) H'
theorem ok_read_whole_body {f C CS : Addr} {fd : FuncData} (F : Fun K "read_whole_body" "Parser.read_whole_body" s_Parser_read_whole_body f fd) (TP : PTxt K C) (TS : STxt K CS) (MB : Meter P w K mg base C 12 "read_body" ["self", "depth"] (spBod C CS 1)) (CL : Callee P w K mg base 5 "link" ["body", "end"] (spLink CS 5)) :
    FnOk P w K mg base CX0 13 f fd ["self"] (spWhole C CS) := by
  refine F.ok sc_Parser_read_whole_body (fun vs H Q E h => ?_) (fun cdv A outer st H vs Q E hr h => ?_)
  · obtain ⟨p, l, m, s, t, k, sy, fi, ms, ss, rows, pre, seg, post, kvs, cnt, n, us, rfl, _⟩ := h
    rfl
  obtain ⟨p, l, m, s, t, k, sy, fi, ms, ss, rows, pre, seg, post, kvs, cnt, n, us, rfl, S, hrows, hk, hG, hB, hcnt, haft, hsy, q⟩ := h
  refine ⟨_, (pss_cons (ps_fldaug (pv 0) pe_int in_add)
(pss_cons (ps_set (i := 1) sc_Parser_read_whole_body.nd rfl (Or.inl rfl) (pe_meth (pv 0) TP.cl MB.m MB.ok (hr.mono (by decide)) MB.b .nil pass0 (pa_cons pe_int pa_nil)))
(pss_cons (ps_expr (pe_call CL.ok (hr.mono (by decide)) rfl CL.mg CL.kp CL.b .nil pass0 (pa_cons (pv 1) (pa_cons pe_int pa_nil))))
(pss_one (ps_ret (pe_fld (pe_ix ix_list (pv 1) pe_int (fun _ _ => rfl)) rfl)))))), ?_⟩
  obtain ⟨⟨dp, hp⟩, _⟩ := id S.pin
  obtain ⟨S1, k1⟩ := S.bump hp
  refine ⟨_, rfl, p, C, dp, _, _, rfl, hp, TP.cl, TP.nNumber, pf_number, _, _, rfl, rfl, dp, _, hp, (by show 7 < 1000; decide), ?_⟩
  rw [put_next]
  obtain ⟨⟨dp1, hp1⟩, _⟩ := id S1.pin
  refine ⟨_, rfl, p, dp1, _, rfl, hp1, (by kernel_rfl), ?_⟩
  refine ⟨p, l, m, s, t, k + 1, sy, fi, ms, ss, rows, pre, seg, post, kvs, cnt, n, us, rfl, S1, hrows, hk, hG, hB, hcnt, haft, hsy, fun lb H2 xs k2 S2 hlb hlb2 hne hlen hT htr hht hnd => ?_⟩
  refine ⟨_, rfl, lb, 0, xs, _, rfl, hlb2, by omega, by omega, hT, hnd, fun H3 f3 lk3 => ?_⟩
  have S3 := S2.fol f3.1
  have hlb3 := f3.1.lst hlb2
  have hT3 := hT.fol f3.1 xs
  have hln := hB.line htr 0
  have k13 : Keep p t H H3 := k1.trans fun b o hb n1 n2 => f3.2 b o (fun z => by
    have z2 : (upd H p (.ins C dp (pf l (((k + 1 : Nat) : Int) + 1) sy m s t fi))) b = none := (hT.adr xs b z).1
    rw [hb] at z2
    cases z2) (k2 b o hb n1 n2)
  cases xs with
  | nil => exact absurd rfl hne
  | cons a r =>
    have ha := toks_iff.mp hT3 a List.mem_cons_self
    have hln' : a.ln = k + 1 + 1 := hln
    obtain ⟨ta, eta⟩ : ∃ z, a.a = z := ⟨_, rfl⟩
    have hlb3' : H3 lb = some (.lst (V.ref ta :: refs r)) := by
      rw [← eta]
      exact hlb3
    obtain ⟨dx, g, wd, li, lo, fo, h1⟩ : ∃ (dx : Addr) (g : V) (wd : Str) (li lo : Addr) (fo : Int), H3 ta = some (.ins CS dx (sf (a.ln : Int) wd g li lo fo)) := by
      obtain ⟨aa, ln, wd, g, gv, li, lo, ins, oth⟩ := a
      simp only [TOk] at ha
      obtain ⟨_, ⟨dx, fo, h1⟩, _⟩ := ha
      have eta' : aa = ta := eta
      subst eta'
      exact ⟨dx, g, wd, li, lo, fo, h1⟩
    rw [hln'] at h1
    refine ⟨_, rfl, lb, _, 0, .ref ta, rfl, rfl, .inl (.inl hlb3'), at_of (j := 0) rfl rfl, ta, CS, dx, _, _, rfl, h1, TS.cl, TS.nLine, sf_line, ?_⟩
    exact q H3 (a :: r) k13 S3 ⟨TOks.base (fun c hc => S1.grown k1 c hc) _ hT3, htr, lk3, hne, hnd⟩
end
end Fv
set_option Elab.async false
set_option linter.all false
set_option maxRecDepth 100000
set_option maxHeartbeats 4000000
namespace Fv
open PySem L2 TL
def reserved : List Str := ["symbols", "cell", "part", "main", "right", "left", "write", "copy", "set", "add", "if", "else", "while", "do", "stop", "at", "not"].map Str.ofString
structure NameOk (z : Str) : Prop where
  len : z.length ≤ 8
  let_ : ofLetters z = true
  free : z ∉ reserved
theorem valV_none {l : NV} {z : Str} (h : z ∉ l.map (·.1)) : valV (kvS l) (Sum.inr z : Key) = none := by
  cases e : valV (kvS l) (Sum.inr z : Key) with
  | none => rfl
  | some v =>
    have m := valV_in e
    unfold kvS at m
    rw [List.map_map] at m
    obtain ⟨x, hx, e2⟩ := List.mem_map.mp m
    have e3 : x.1 = z := Sum.inr.inj e2
    exact absurd (List.mem_map.mpr ⟨x, hx, e3⟩) h
theorem kvS_snoc (l : NV) (x : Str) (v : Nat) : kvS l ++ [((Sum.inr x : Key), V.int (v : Int))] = kvS (l ++ [(x, v)]) := by
  unfold kvS
  rw [List.map_append]
  rfl
abbrev s_Parser_is_new_name : Stmt := inClass (top 41) 6
abbrev sc_Parser_is_new_nameN : List Str := ["self", "word"]
theorem sc_Parser_is_new_name : FnScope sc_Parser_is_new_nameN ["self", "word"] (defScope s_Parser_is_new_name) := ⟨rfl, rfl, rfl, by decide +kernel, rfl, by decide +kernel, by decide +kernel⟩
def spNew (C : Addr) : Sp := fun vs H Q _ => ∃ (p l m s t : Addr) (n : Int) (sy : Str) (fi : Int) (ms ss : NV) (z : Str), vs = [.ref p, .str z] ∧ PIn C H p l m s t n sy fi ms ss ∧ NameOk z ∧ z ∉ ms.map (·.1) ∧ z ∉ ss.map (·.1) ∧ ∀ H', Same H H' → Q (.bl true) H'
/-- all is as it was but the parser, its three dicts -/
def KeepP (p m s t : Addr) (H H' : Hp) : Prop := ∀ b o, H b = some o → b ≠ p → b ≠ m → b ≠ s → b ≠ t → H' b = some o
theorem Keep.p {p m s t : Addr} {H H' : Hp} (e : Keep p t H H') : KeepP p m s t H H' := fun b o h n1 _ _ n2 => e b o h n1 n2
theorem KeepP.of_same {p m s t : Addr} {H H' : Hp} (e : Same H H') : KeepP p m s t H H' := fun b o h _ _ _ _ => e b o h
theorem KeepP.trans {p m s t : Addr} {H H1 H2 : Hp} (a : KeepP p m s t H H1) (b : KeepP p m s t H1 H2) : KeepP p m s t H H2 := fun c o h n1 n2 n3 n4 => b c o (a c o h n1 n2 n3 n4) n1 n2 n3 n4
theorem SAt.grownP {C CS : Addr} {H H' : Hp} {p l m s t : Addr} {k : Nat} {sy : Str} {fi : Int} {ms ss : NV} {rows : List Row} {kvs : List (Key × V)} {cnt : Nat} (S : SAt C CS H' p l m s t k sy fi ms ss rows kvs cnt) (e : KeepP p m s t H H') : ∀ b, H' b = none → H b = none := fun b h => by
  obtain ⟨⟨dp, hp⟩, mo, st, _, _⟩ := S.pin
  have dt := S.dt
  cases q : H b with
  | none => rfl
  | some o =>
    rw [e _ _ q (fun z => by rw [z, hp] at h; cases h) (fun z => by rw [z, mo] at h; cases h) (fun z => by rw [z, st] at h; cases h) (fun z => by rw [z, dt] at h; cases h)] at h
    cases h
section
variable {P : Program} {w : World} {K : PySem.W.Frag} {mg : Str → Option Value} {base : Heap}
theorem ok_is_new_name {f C : Addr} {fd : FuncData} (F : Fun K "is_new_name" "Parser.is_new_name" s_Parser_is_new_name f fd) (T : Bare mg) (T1 : Consts K mg) (T2 : Consts2 K mg) (TP : PTxt K C) (CL : Callee P w K mg base 1 "is_of_letters" ["word"] (spText1 ofLetters)) :
    FnOk P w K mg base CX0 2 f fd ["self", "word"] (spNew C) := by
  refine F.ok sc_Parser_is_new_name (fun vs H Q E h => ?_) (fun cdv A outer st H vs Q E hr h => ?_)
  · obtain ⟨p, l, m, s, t, n, sy, fi, ms, ss, z, rfl, _⟩ := h
    rfl
  obtain ⟨p, l, m, s, t, n, sy, fi, ms, ss, z, rfl, I, hz, h1, h2, q⟩ := h
  have hu := hu_of hr
  obtain ⟨t8, g8⟩ := T1.longest
  obtain ⟨aW, gW, sW⟩ := T2.words
  refine ⟨_, (pss_cons (ps_if (PW.pt (pw_or (pt_cmpR op_gt (pe_callB call_len_str (by rfl) T.len PySem.boot_len (pa_cons (pv 1) pa_nil)) (pe_glob (v := .int 8) rfl g8 ⟨_, rfl⟩) (nomark _)) (pw_or1 (pt_not (pt_val (pe_call CL.ok hr rfl CL.mg CL.kp CL.b .nil pass0 (pa_cons (pv 1) pa_nil)))))))
(pss_one (ps_ret pe_bl))
pss_nil)
(pss_one (ps_ret (pe_and (pe_cmpR op_notIn_seq (pv 1) (pe_glob (v := .ref aW) rfl gW rfl) (by rfl)) (pe_and (pe_cmp (pc_dnotin hu (pv 1) (pe_fld (pv 0) rfl)) rfl) (pe_one (pe_cmp (pc_dnotin hu (pv 1) (pe_fld (pv 0) rfl)) rfl))))))), ?_⟩
  refine ⟨_, rfl, _, rfl, small (by have := hz.len; omega), _, _, rfl, rfl, _, rfl, ?_⟩
  have e0 : decide ((8 : Int) < ((z.length : Nat) : Int)) = false := decide_eq_false (by have := hz.len; omega)
  rw [e0]
  refine iteF ?_
  refine ⟨_, rfl, z, rfl, by have := hz.len; omega, fun H1 s1 => ⟨_, rfl, ?_⟩⟩
  rw [hz.let_]
  refine iteF ?_
  obtain ⟨⟨dp, hp⟩, mo, hst, _, _⟩ := I.same s1
  refine ⟨_, rfl, aW, _, rfl, .inr (sW _), rfl, rfl, ?_⟩
  have e1 : inV (.str z) (["symbols", "cell", "part", "main", "right", "left", "write", "copy", "set", "add", "if", "else", "while", "do", "stop", "at", "not"].map fun z => V.str (Str.ofString z)) = false := by
    have e : (["symbols", "cell", "part", "main", "right", "left", "write", "copy", "set", "add", "if", "else", "while", "do", "stop", "at", "not"].map fun z => V.str (Str.ofString z)) = reserved.map V.str := by
      unfold reserved
      rw [List.map_map]
      rfl
    rw [e, inV_str]
    exact decide_eq_false hz.free
  show ∃ c, V.bl (!inV _ _) = .bl c ∧ _
  rw [e1]
  refine ⟨_, rfl, iteT ?_⟩
  refine ⟨_, rfl, _, rfl, p, C, dp, _, _, rfl, hp, TP.cl, TP.nMosts, pf_mosts, m, _, rfl, DGet.k (k := Sum.inr z) mo, _, rfl, ?_⟩
  rw [valV_none h1]
  refine iteT ?_
  refine ⟨_, rfl, _, rfl, p, C, dp, _, _, rfl, hp, TP.cl, TP.nStarts, pf_starts, s, _, rfl, DGet.k (k := Sum.inr z) hst, ?_⟩
  rw [valV_none h2]
  exact q H1 s1
/-! ### read_cell -/
abbrev s_Parser_read_cell : Stmt := inClass (top 41) 4
abbrev sc_Parser_read_cellN : List Str := ["self", "words"]
theorem sc_Parser_read_cell : FnScope sc_Parser_read_cellN ["self"] (defScope s_Parser_read_cell) := ⟨rfl, rfl, rfl, by decide +kernel, rfl, by decide +kernel, by decide +kernel⟩
def spCell (C CS : Addr) : Sp := fun vs H Q _ => ∃ (p l m s t : Addr) (k : Nat) (sy : Str) (fi : Int) (ms ss : NV) (rows : List Row) (kvs : List (Key × V)) (cnt : Nat) (x : Str) (v : Nat), vs = [.ref p] ∧
  SAt C CS H p l m s t k sy fi ms ss rows kvs cnt ∧ m ≠ s ∧ Good rows ∧ rows[k]? = some (0, [("cell" : Str), x, numS v]) ∧ ms.length < 2 ∧ 1 ≤ v ∧ v ≤ 2 ∧ NameOk x ∧ x ∉ ms.map (·.1) ∧ x ∉ ss.map (·.1) ∧
  ∀ (H' : Hp), KeepP p m s t H H' → SAt C CS H' p l m s t (k + 1) sy fi (ms ++ [(x, v)]) ss rows kvs cnt → Q .non H'
theorem ok_read_cell {f C CS : Addr} {fd : FuncData} (F : Fun K "read_cell" "Parser.read_cell" s_Parser_read_cell f fd) (T : Bare mg) (T1 : Consts K mg) (TP : PTxt K C) (MW : Meter P w K mg base C 1 "words_at" ["self", "depth"] (spWords C)) (MN : Meter P w K mg base C 2 "is_new_name" ["self", "word"] (spNew C)) :
    FnOk P w K mg base CX0 3 f fd ["self"] (spCell C CS) := by
  refine F.ok sc_Parser_read_cell (fun vs H Q E h => ?_) (fun cdv A outer st H vs Q E hr h => ?_)
  · obtain ⟨p, l, m, s, t, k, sy, fi, ms, ss, rows, kvs, cnt, x, v, rfl, _⟩ := h
    rfl
  obtain ⟨p, l, m, s, t, k, sy, fi, ms, ss, rows, kvs, cnt, x, v, rfl, S, hms, hG, hat, hml, hv1, hv2, hx, hx1, hx2, q⟩ := h
  have hu := hu_of hr
  obtain ⟨t2, g2⟩ := T1.mostCells
  refine ⟨_, (pss_cons (ps_set (i := 1) sc_Parser_read_cell.nd rfl (Or.inl rfl) (pe_meth (pv 0) TP.cl MW.m MW.ok (hr.mono (by decide)) MW.b .nil pass0 (pa_cons pe_int pa_nil)))
(pss_cons (ps_if (PW.pt (pw_or (pt_cmpR op_ne (pe_callB call_len_seq (by rfl) T.len PySem.boot_len (pa_cons (pv 1) pa_nil)) pe_int (nomark _)) (pw_or1 (pt_cmpR op_eq (pe_callB call_lenD (by rfl) T.len PySem.boot_len (pa_cons (pe_fld (pv 0) rfl) pa_nil)) (pe_glob (v := .int 2) rfl g2 ⟨_, rfl⟩) (nomark _)))))
(pss_one ps_never)
pss_nil)
(pss_cons (ps_if (PW.pt (pw_or (pt_not (pt_val (pe_meth (pv 0) TP.cl MN.m MN.ok hr MN.b .nil pass0 (pa_cons (pe_ix ix_list (pv 1) pe_int (fun _ _ => rfl)) pa_nil)))) (pw_or1 (pt_cmpR op_notIn_seq (pe_ix ix_list (pv 1) pe_int (fun _ _ => rfl)) (pe_tup (pa_cons pe_str (pa_cons pe_str pa_nil))) (by rfl)))))
(pss_one ps_never)
pss_nil)
(pss_cons (ps_dput hu (pe_fld (pv 0) rfl) (pe_ix ix_list (pv 1) pe_int (fun _ _ => rfl)) (pe_callTy call_int_str (by rfl) T.int (by decide +kernel) (pa_cons (pe_ix ix_list (pv 1) pe_int (fun _ _ => rfl)) pa_nil)) rfl)
(pss_one (ps_fldaug (pv 0) pe_int in_add)))))), ?_⟩
  obtain ⟨⟨dp, hp⟩, mo, hst, nm, ns⟩ := id S.pin
  refine ⟨_, rfl, p, dp, _, rfl, hp, (by kernel_rfl), p, l, m, s, t, k, 0, sy, fi, rows.map lineOf, rfl, S.pin.ob, S.ln, by omega, fun A1 H1 s1 hA hA1 => ?_⟩
  rw [wordsAt_rows hG, hat] at hA1
  have hA1' : H1 A1 = some (.lst [.str "cell", .str x, .str (numS v)]) := by
    rw [hA1]
    rfl
  have hS : SqL K H1 A1 [.str "cell", .str x, .str (numS v)] := .inl (.inl hA1')
  have S1 := S.same s1
  refine ⟨_, rfl, A1, _, rfl, .inl hS, rfl, _, rfl, iteF ?_⟩
  refine ⟨_, rfl, p, C, dp, _, _, rfl, s1 _ _ hp, TP.cl, TP.nMosts, pf_mosts, m, _, rfl, s1 _ _ mo, rfl, _, rfl, ?_⟩
  have e0 : decide (V.int (((kvS ms).length : Nat) : Int) = V.int 2) = false := decide_eq_false fun z => by
    have z2 := V.int.inj z
    unfold kvS at z2
    rw [List.length_map] at z2
    omega
  rw [e0]
  refine iteF ?_
  refine ⟨_, rfl, p, dp, _, rfl, s1 _ _ hp, (by kernel_rfl), _, rfl, A1, _, 1, .str x, rfl, rfl, hS, rfl, p, l, m, s, t, _, sy, fi, ms, ss, x, rfl, S1.pin, hx, hx1, hx2, fun H2 s2 => ⟨_, rfl, iteF ?_⟩⟩
  have S2 := S1.same s2
  refine ⟨_, rfl, A1, _, 2, .str (numS v), rfl, rfl, s2.seq hS, rfl, small (by show 2 ≤ 1000; decide), fun T0 hT0 => ?_⟩
  have s3 := same_new hT0 (.tup [.str "1", .str "2"])
  have hin : inV (.str (numS v)) [.str "1", .str "2"] = true := by
    have hd : v = 1 ∨ v = 2 := by omega
    rcases hd with rfl | rfl <;> decide +kernel
  refine ⟨T0, _, rfl, .inr (.inl (.inl upd_same)), rfl, rfl, _, rfl, ?_⟩
  dsimp only
  rw [hin]
  refine iteF ?_
  have S3 := S2.same s3
  have s123 := (s1.trans s2).trans s3
  have hS3 := s3.seq (s2.seq hS)
  generalize upd H2 T0 (.tup [.str "1", .str "2"]) = H3 at s3 S3 s123 hS3 ⊢
  obtain ⟨⟨dp3, hp3⟩, mo3, st3, _, _⟩ := id S3.pin
  refine ⟨_, rfl, A1, _, 2, .str (numS v), rfl, rfl, hS3, rfl, _, _, rfl, (num_int hv2).1, (num_int hv2).2, ?_⟩
  refine ⟨_, rfl, p, C, dp3, _, _, rfl, hp3, TP.cl, TP.nMosts, pf_mosts, _, rfl, A1, _, 1, .str x, rfl, rfl, hS3, rfl, m, _, rfl, DPut.k (k := Sum.inr x) mo3 (small1000 (by unfold kvS; rw [List.length_map]; omega)), ?_⟩
  rw [putK_new _ (valV_none hx1), kvS_snoc]
  have npm : p ≠ m := ne_of hp3 mo3 (by intro z; cases z)
  have hp4 : (upd H3 m (.dK (kvS (ms ++ [(x, v)])))) p = some (.ins C dp3 (pf l ((k : Int) + 1) sy m s t fi)) := by rw [upd_ne npm]; exact hp3
  have S4 : SAt C CS (upd H3 m (.dK (kvS (ms ++ [(x, v)])))) p l m s t k sy fi (ms ++ [(x, v)]) ss rows kvs cnt := by
    have nlm : l ≠ m := ne_of S3.ln.at_ mo3 (by intro z; cases z)
    refine ⟨⟨⟨dp3, hp4⟩, upd_same, by rw [upd_ne hms.symm]; exact st3, ?_, ns⟩, ⟨by rw [upd_ne nlm]; exact S3.ln.at_, S.ln.few, S.ln.short⟩, by rw [upd_ne S.nm.symm]; exact S3.dt, S.few, S.keys, fun kv h => ?_, S.nm, S.ns, S.cc⟩
    · rw [List.map_append]
      exact List.nodup_append.mpr ⟨nm, by simp, fun y hy z hz e => hx1 (by
        have e2 : z = x := by simpa using hz
        rw [← e2, ← e]
        exact hy)⟩
    · obtain ⟨b, h1, dx, ln, wd, g, li, lo, fo, h2, h3⟩ := S3.ok kv h
      exact ⟨b, h1, dx, ln, wd, g, li, lo, fo, by rw [upd_ne (ne_of h2 mo3 (by intro z; cases z))]; exact h2, h3⟩
  obtain ⟨S5, k5⟩ := S4.bump hp4
  refine ⟨_, rfl, p, C, dp3, _, _, rfl, hp4, TP.cl, TP.nNumber, pf_number, _, _, rfl, rfl, dp3, _, hp4, (by show 7 < 1000; decide), ?_⟩
  rw [put_next]
  refine q _ (fun b o h n1 n2 n3 n4 => ?_) S5
  rw [upd_ne n1, upd_ne n2]
  exact s123 _ _ h
end
end Fv
set_option Elab.async false
set_option linter.all false
set_option maxRecDepth 100000
set_option maxHeartbeats 4000000
namespace Fv
open PySem L2 TL
abbrev s_Parser_read_part : Stmt := inClass (top 41) 5
abbrev sc_Parser_read_partN : List Str := ["self", "words"]
theorem sc_Parser_read_part : FnScope sc_Parser_read_partN ["self"] (defScope s_Parser_read_part) := ⟨rfl, rfl, rfl, by decide +kernel, rfl, by decide +kernel, by decide +kernel⟩
def spPart (C CS : Addr) : Sp := fun vs H Q _ => ∃ (p l m s t : Addr) (k : Nat) (sy : Str) (fi : Int) (ms ss : NV) (rows pre seg post : List Row) (kvs : List (Key × V)) (cnt n : Nat) (x : Str) (us : List Tr), vs = [.ref p] ∧
  SAt C CS H p l m s t k sy fi ms ss rows kvs cnt ∧ m ≠ s ∧ Good rows ∧ rows = pre ++ seg ++ post ∧ pre.length = k + 1 ∧ rows[k]? = some (0, [("part" : Str), x]) ∧ Bod sy ms ss 1 (k + 1) seg n us ∧ cnt + n ≤ 20 ∧ AfterBod 1 post ∧ sy.length ≤ 10 ∧ ss.length < 2 ∧ NameOk x ∧ x ∉ ms.map (·.1) ∧ x ∉ ss.map (·.1) ∧
  ∀ (H' : Hp) (xs : List AT), KeepP p m s t H H' → SAt C CS H' p l m s t (k + 1 + seg.length) sy fi ms (ss ++ [(x, k + 2)]) rows (kvs ++ entsAll xs) (cnt + n) → Blk CS (New H) H' us xs → Q .non H'
section
variable {P : Program} {w : World} {K : PySem.W.Frag} {mg : Str → Option Value} {base : Heap}
theorem ok_read_part {f C CS : Addr} {fd : FuncData} (F : Fun K "read_part" "Parser.read_part" s_Parser_read_part f fd) (T : Bare mg) (T1 : Consts K mg) (TP : PTxt K C) (MW : Meter P w K mg base C 1 "words_at" ["self", "depth"] (spWords C)) (MN : Meter P w K mg base C 2 "is_new_name" ["self", "word"] (spNew C)) (MB : Meter P w K mg base C 13 "read_whole_body" ["self"] (spWhole C CS)) :
    FnOk P w K mg base CX0 14 f fd ["self"] (spPart C CS) := by
  refine F.ok sc_Parser_read_part (fun vs H Q E h => ?_) (fun cdv A outer st H vs Q E hr h => ?_)
  · obtain ⟨p, l, m, s, t, k, sy, fi, ms, ss, rows, pre, seg, post, kvs, cnt, n, x, us, rfl, _⟩ := h
    rfl
  obtain ⟨p, l, m, s, t, k, sy, fi, ms, ss, rows, pre, seg, post, kvs, cnt, n, x, us, rfl, S, hms, hG, hrows, hk, hat, hB, hcnt, haft, hsy, hsl, hx, hx1, hx2, q⟩ := h
  have hu := hu_of hr
  obtain ⟨t2, g2⟩ := T1.mostParts
  refine ⟨_, (pss_cons (ps_set (i := 1) sc_Parser_read_part.nd rfl (Or.inl rfl) (pe_meth (pv 0) TP.cl MW.m MW.ok (hr.mono (by decide)) MW.b .nil pass0 (pa_cons pe_int pa_nil)))
(pss_cons (ps_if (PW.pt (pw_or (pt_cmpR op_ne (pe_callB call_len_seq (by rfl) T.len PySem.boot_len (pa_cons (pv 1) pa_nil)) pe_int (nomark _)) (pw_or (pt_cmpR op_eq (pe_callB call_lenD (by rfl) T.len PySem.boot_len (pa_cons (pe_fld (pv 0) rfl) pa_nil)) (pe_glob (v := .int 2) rfl g2 ⟨_, rfl⟩) (nomark _)) (pw_or1 (pt_not (pt_val (pe_meth (pv 0) TP.cl MN.m MN.ok (hr.mono (by decide)) MN.b .nil pass0 (pa_cons (pe_ix ix_list (pv 1) pe_int (fun _ _ => rfl)) pa_nil))))))))
(pss_one ps_never)
pss_nil)
(pss_one (ps_dput hu (pe_fld (pv 0) rfl) (pe_ix ix_list (pv 1) pe_int (fun _ _ => rfl)) (pe_meth0 (pv 0) TP.cl MB.m MB.ok hr MB.b .nil pass0) rfl)))), ?_⟩
  obtain ⟨⟨dp, hp⟩, mo, hst, nm, ns⟩ := id S.pin
  refine ⟨_, rfl, p, dp, _, rfl, hp, (by kernel_rfl), p, l, m, s, t, k, 0, sy, fi, rows.map lineOf, rfl, S.pin.ob, S.ln, by omega, fun A1 H1 s1 hA hA1 => ?_⟩
  rw [wordsAt_rows hG, hat] at hA1
  have hA1' : H1 A1 = some (.lst [.str "part", .str x]) := by
    rw [hA1]
    rfl
  have hS : SqL K H1 A1 [.str "part", .str x] := .inl (.inl hA1')
  have S1 := S.same s1
  refine ⟨_, rfl, A1, _, rfl, .inl hS, rfl, _, rfl, iteF ?_⟩
  refine ⟨_, rfl, p, C, dp, _, _, rfl, s1 _ _ hp, TP.cl, TP.nStarts, pf_starts, s, _, rfl, s1 _ _ hst, rfl, _, rfl, ?_⟩
  have e0 : decide (V.int (((kvS ss).length : Nat) : Int) = V.int 2) = false := decide_eq_false fun z => by
    have z2 := V.int.inj z
    unfold kvS at z2
    rw [List.length_map] at z2
    omega
  rw [e0]
  refine iteF ?_
  refine ⟨_, rfl, p, dp, _, rfl, s1 _ _ hp, (by kernel_rfl), _, rfl, A1, _, 1, .str x, rfl, rfl, hS, rfl, p, l, m, s, t, _, sy, fi, ms, ss, x, rfl, S1.pin, hx, hx1, hx2, fun H2 s2 => ⟨_, rfl, iteF ?_⟩⟩
  have S2 := S1.same s2
  have s12 := s1.trans s2
  refine ⟨_, rfl, p, dp, _, rfl, s12 _ _ hp, (by kernel_rfl), ?_⟩
  refine ⟨p, l, m, s, t, k, sy, fi, ms, ss, rows, pre, seg, post, kvs, cnt, n, us, rfl, S2, hrows, hk, hG, hB, hcnt, haft, hsy, fun H3 xs k3 S3 B3 => ?_⟩
  obtain ⟨⟨dp3, hp3⟩, mo3, st3, _, _⟩ := id S3.pin
  have nAp : A1 ≠ p := (ne_of_none (show H p = _ from hp) hA).symm
  have nAt : A1 ≠ t := (ne_of_none S.dt hA).symm
  have hA3 : H3 A1 = some (.lst [.str "part", .str x]) := k3 _ _ (s2 _ _ hA1') nAp nAt
  refine ⟨_, rfl, p, C, dp3, _, _, rfl, hp3, TP.cl, TP.nStarts, pf_starts, _, rfl, A1, _, 1, .str x, rfl, rfl, .inl (.inl hA3), rfl, s, _, rfl, DPut.k (k := Sum.inr x) st3 (small1000 (by unfold kvS; rw [List.length_map]; omega)), ?_⟩
  rw [putK_new _ (valV_none hx2), kvS_snoc]
  have nps : p ≠ s := ne_of hp3 st3 (by intro z; cases z)
  have nls : l ≠ s := ne_of S3.ln.at_ st3 (by intro z; cases z)
  refine q _ xs (fun b o h n1 n2 n3 n4 => ?_) ?_ ?_
  · rw [upd_ne n3]
    exact k3 _ _ (s12 _ _ h) n1 n4
  · refine ⟨⟨⟨dp3, by rw [upd_ne nps]; exact hp3⟩, by rw [upd_ne hms]; exact mo3, upd_same, nm, ?_⟩, ⟨by rw [upd_ne nls]; exact S3.ln.at_, S.ln.few, S.ln.short⟩, by rw [upd_ne S.ns.symm]; exact S3.dt, S3.few, S3.keys, fun kv h => ?_, S.nm, S.ns, S.cc⟩
    · rw [List.map_append]
      exact List.nodup_append.mpr ⟨ns, by simp, fun y hy z hz e => hx2 (by
        have e2 : z = x := by simpa using hz
        rw [← e2, ← e]
        exact hy)⟩
    · obtain ⟨b, h1, dx, ln, wd, g, li, lo, fo, h2, h3⟩ := S3.ok kv h
      exact ⟨b, h1, dx, ln, wd, g, li, lo, fo, by rw [upd_ne (ne_of h2 st3 (by intro z; cases z))]; exact h2, h3⟩
  · exact (B3.map (S3.kb fun b o h _ _ n _ => by rw [upd_ne n]; exact h)).base fun b hb => s12.free hb
/-! ### read_symbols -/
abbrev s_Parser_read_symbols : Stmt := inClass (top 41) 3
abbrev sc_Parser_read_symbolsN : List Str := ["self", "words"]
theorem sc_Parser_read_symbols : FnScope sc_Parser_read_symbolsN ["self"] (defScope s_Parser_read_symbols) := ⟨rfl, rfl, rfl, by decide +kernel, rfl, by decide +kernel, by decide +kernel⟩
def spSyms (C CS : Addr) : Sp := fun vs H Q _ => ∃ (p l m s t : Addr) (sy0 sy : Str) (fi : Int) (ms ss : NV) (rows : List Row) (kvs : List (Key × V)) (cnt : Nat), vs = [.ref p] ∧
  SAt C CS H p l m s t 0 sy0 fi ms ss rows kvs cnt ∧ Good rows ∧ rows[0]? = some (0, [("symbols" : Str), sy]) ∧ 2 ≤ sy.length ∧ sy.length ≤ 4 ∧ InOrder sy alpha ∧
  ∀ (H' : Hp), KeepP p m s t H H' → SAt C CS H' p l m s t 1 sy fi ms ss rows kvs cnt → Q .non H'
theorem ok_read_symbols {f C CS : Addr} {fd : FuncData} (F : Fun K "read_symbols" "Parser.read_symbols" s_Parser_read_symbols f fd) (T : Bare mg) (T1 : Consts K mg) (TP : PTxt K C) (MW : Meter P w K mg base C 1 "words_at" ["self", "depth"] (spWords C)) (CO : Callee P w K mg base 1 "is_in_order" ["word", "order"] spOrder) :
    FnOk P w K mg base CX0 2 f fd ["self"] (spSyms C CS) := by
  refine F.ok sc_Parser_read_symbols (fun vs H Q E h => ?_) (fun cdv A outer st H vs Q E hr h => ?_)
  · obtain ⟨p, l, m, s, t, sy0, sy, fi, ms, ss, rows, kvs, cnt, rfl, _⟩ := h
    rfl
  obtain ⟨p, l, m, s, t, sy0, sy, fi, ms, ss, rows, kvs, cnt, rfl, S, hG, hat, h2, h4, hO, q⟩ := h
  obtain ⟨ta, ga⟩ := T1.alpha
  refine ⟨_, (pss_cons (ps_set (i := 1) sc_Parser_read_symbols.nd rfl (Or.inl rfl) (pe_meth (pv 0) TP.cl MW.m MW.ok hr MW.b .nil pass0 (pa_cons pe_int pa_nil)))
(pss_cons (ps_if (PW.pt (pw_or (pt_cmpR op_ne (pe_callB call_len_seq (by rfl) T.len PySem.boot_len (pa_cons (pv 1) pa_nil)) pe_int (nomark _)) (pw_or1 (pt_cmpR op_ne (pe_ix ix_list (pv 1) pe_int (fun _ _ => rfl)) pe_str (nomark _)))))
(pss_one ps_never)
pss_nil)
(pss_cons (ps_if (PW.pt (pw_or (pt_not (pt_chain op_le op_le pe_int (pe_callB call_len_str (by rfl) T.len PySem.boot_len (pa_cons (pe_ix ix_list (pv 1) pe_int (fun _ _ => rfl)) pa_nil)) pe_int)) (pw_or1 (pt_not (pt_val (pe_call CO.ok hr rfl CO.mg CO.kp CO.b .nil pass0 (pa_cons (pe_ix ix_list (pv 1) pe_int (fun _ _ => rfl)) (pa_cons (pe_glob (v := .str alpha) rfl ga ⟨_, rfl⟩) pa_nil))))))))
(pss_one ps_never)
pss_nil)
(pss_cons (ps_fld (pv 0) (pe_ix ix_list (pv 1) pe_int (fun _ _ => rfl)) rfl)
(pss_one (ps_fldaug (pv 0) pe_int in_add)))))), ?_⟩
  obtain ⟨⟨dp, hp⟩, mo, hst, nm, ns⟩ := id S.pin
  refine ⟨_, rfl, p, dp, _, rfl, hp, (by kernel_rfl), p, l, m, s, t, 0, 0, sy0, fi, rows.map lineOf, rfl, S.pin.ob, S.ln, by omega, fun A1 H1 s1 hA hA1 => ?_⟩
  rw [wordsAt_rows hG, hat] at hA1
  have hA1' : H1 A1 = some (.lst [.str "symbols", .str sy]) := by
    rw [hA1]
    rfl
  have hS : SqL K H1 A1 [.str "symbols", .str sy] := .inl (.inl hA1')
  have S1 := S.same s1
  refine ⟨_, rfl, A1, _, rfl, .inl hS, rfl, _, rfl, iteF ?_⟩
  refine ⟨_, rfl, A1, _, 0, _, rfl, rfl, hS, rfl, rfl, _, rfl, iteF ?_⟩
  refine ⟨_, rfl, A1, _, 1, .str sy, rfl, rfl, hS, rfl, _, rfl, small (by omega), _, _, rfl, rfl, _, rfl, ?_⟩
  have e0 : decide ((2 : Int) ≤ ((sy.length : Nat) : Int)) = true := decide_eq_true (by omega)
  rw [e0]
  refine iteT ?_
  refine ⟨_, _, rfl, rfl, _, rfl, ?_⟩
  have e1 : decide (((sy.length : Nat) : Int) ≤ (4 : Int)) = true := decide_eq_true (by omega)
  dsimp only
  rw [e1]
  refine iteF ?_
  refine ⟨_, rfl, A1, _, 1, .str sy, rfl, rfl, hS, rfl, sy, alpha, rfl, by omega, hO, fun H2 s2 => ⟨_, rfl, iteF ?_⟩⟩
  have S2 := S1.same s2
  have s12 := s1.trans s2
  obtain ⟨⟨dp2, hp2⟩, mo2, st2, _, _⟩ := id S2.pin
  refine ⟨_, rfl, A1, _, 1, .str sy, rfl, rfl, s2.seq hS, rfl, _, rfl, p, C, dp2, _, rfl, hp2, TP.cl, TP.nSymbols, (by show 7 < 1000; decide), ?_⟩
  rw [put_symbols]
  have n1 : l ≠ p := ne_of S2.ln.at_ hp2 (by intro z; cases z)
  have n2 : m ≠ p := ne_of mo2 hp2 (by intro z; cases z)
  have n3 : s ≠ p := ne_of st2 hp2 (by intro z; cases z)
  have n4 : t ≠ p := ne_of S2.dt hp2 (by intro z; cases z)
  have kk : Keep p t H2 (upd H2 p (.ins C dp2 (pf l (((0 : Nat) : Int) + 1) sy m s t fi))) := fun b o h n _ => by rw [upd_ne n]; exact h
  have S3 : SAt C CS (upd H2 p (.ins C dp2 (pf l (((0 : Nat) : Int) + 1) sy m s t fi))) p l m s t 0 sy fi ms ss rows kvs cnt := by
    refine ⟨⟨⟨dp2, upd_same⟩, by rw [upd_ne n2]; exact mo2, by rw [upd_ne n3]; exact st2, nm, ns⟩, ⟨by rw [upd_ne n1]; exact S2.ln.at_, S.ln.few, S.ln.short⟩, by rw [upd_ne n4]; exact S2.dt, S.few, S.keys, fun kv h => ?_, S.nm, S.ns, S.cc⟩
    obtain ⟨a, h1, h2⟩ := S2.ok kv h
    exact ⟨a, h1, h2.keep S2 kk⟩
  have hp3 : (upd H2 p (.ins C dp2 (pf l (((0 : Nat) : Int) + 1) sy m s t fi))) p = some (.ins C dp2 (pf l (((0 : Nat) : Int) + 1) sy m s t fi)) := upd_same
  obtain ⟨S4, k4⟩ := S3.bump hp3
  refine ⟨_, rfl, p, C, dp2, _, _, rfl, hp3, TP.cl, TP.nNumber, pf_number, _, _, rfl, rfl, dp2, _, hp3, (by show 7 < 1000; decide), ?_⟩
  rw [put_next]
  refine q _ (fun b o h n1 n2 n3 n4 => ?_) S4
  rw [upd_ne n1, upd_ne n1]
  exact s12 _ _ h
end
end Fv
set_option Elab.async false
set_option linter.all false
set_option maxRecDepth 100000
set_option maxHeartbeats 4000000
namespace Fv
open PySem L2 TL
abbrev s_Parser_read_program : Stmt := inClass (top 41) 2
abbrev sc_Parser_read_programN : List Str := ["self"]
theorem sc_Parser_read_program : FnScope sc_Parser_read_programN ["self"] (defScope s_Parser_read_program) := ⟨rfl, rfl, rfl, by decide +kernel, rfl, by decide +kernel, by decide +kernel⟩
/-- a part: its name, its rows, how many statements, its statements -/
abbrev PartR := Str × List Row × Nat × List Tr
def cellRow (c : Str × Nat) : Row := (0, [("cell" : Str), c.1, numS c.2])
def partRows (q : PartR) : List Row := (0, [("part" : Str), q.1]) :: q.2.1
def symRow (sy : Str) : Row := (0, [("symbols" : Str), sy])
def mainRow : Row := (0, [("main" : Str)])
/-- where parts begin -/
def starts : Nat → List PartR → NV
  | _, [] => []
  | k, q :: r => (q.1, k + 2) :: starts (k + (partRows q).length) r
theorem starts_all : ∀ (k : Nat) (a b : List PartR), starts k (a ++ b) = starts k a ++ starts (k + ((a.map partRows).flatten).length) b
  | k, [], b => rfl
  | k, q :: r, b => by
    show _ :: starts _ (r ++ b) = (_ :: starts _ r) ++ _
    rw [starts_all, List.map_cons, List.flatten_cons, List.length_append, Nat.add_assoc]
    rfl
theorem starts_names : ∀ (k : Nat) (a : List PartR), (starts k a).map (·.1) = a.map (·.1)
  | _, [] => rfl
  | k, q :: r => by
    show q.1 :: (starts _ r).map (·.1) = q.1 :: r.map (·.1)
    rw [starts_names]
def headRows (sy : Str) (ms : NV) (ps : List PartR) : List Row := symRow sy :: (ms.map cellRow ++ (ps.map partRows).flatten)
def prefRows (sy : Str) (ms : NV) (done : List PartR) : List Row := symRow sy :: (ms.map cellRow ++ (done.map partRows).flatten)
/-- the first lines of parts -/
def startsOf (ms : NV) (ps : List PartR) : NV := starts (1 + ms.length) ps
/-- a whole program -/
structure ProgOk (sy : Str) (ms : NV) (ps : List PartR) (ma : List Row) (nm : Nat × List Tr) (rows : List Row) : Prop where
  eq : rows = headRows sy ms ps ++ mainRow :: ma
  good : Good rows
  s2 : 2 ≤ sy.length
  s4 : sy.length ≤ 4
  so : InOrder sy alpha
  c2 : ms.length ≤ 2
  cv : ∀ c ∈ ms, 1 ≤ c.2 ∧ c.2 ≤ 2
  p2 : ps.length ≤ 2
  names : ∀ z ∈ ms.map (·.1) ++ ps.map (·.1), NameOk z
  nd : (ms.map (·.1) ++ ps.map (·.1)).Nodup
  bod : ∀ (done : List PartR) (q : PartR) (rest : List PartR), ps = done ++ q :: rest → Bod sy ms (startsOf ms done) 1 ((prefRows sy ms done).length + 1) q.2.1 q.2.2.1 q.2.2.2
  mbod : Bod sy ms (startsOf ms ps) 1 ((prefRows sy ms ps).length + 1) ma nm.1 nm.2
  tot : (ps.map (·.2.2.1)).sum + nm.1 ≤ 20
/-- self.words_at(0)[:1] == ["lit"] -/
def tHead (C : Addr) (lit : Str) : TT := fun σ H Q => ∃ (p l m s t : Addr) (k : Nat) (sy : Str) (fi : Int) (lines : List Str), σ[0]? = some (some (.ref p)) ∧ PAt C H p l m s t ((k : Int) + 1) sy fi ∧ Lines H l lines ∧ (∀ z ∈ wordsAt lines k 0, PyData.strOk z = true) ∧ PyData.strOk lit = true ∧
  ∀ H', Same H H' → Q (decide ((wordsAt lines k 0).take 1 = [lit])) H'
theorem take1' (W : List Str) : cutV (W.map V.str) none (some 1) = (W.take 1).map V.str := by
  cases W with
  | nil => rfl
  | cons x r => exact take1 x r
theorem starts_snoc (sy : Str) (ms : NV) (done : List PartR) (q : PartR) : startsOf ms (done ++ [q]) = startsOf ms done ++ [(q.1, (prefRows sy ms done).length + 2)] := by
  unfold startsOf prefRows
  rw [starts_all]
  show _ ++ [_] = _
  congr 3
  simp only [List.length_cons, List.length_append, List.length_map]
  omega
theorem rows_cut {sy : Str} {ms : NV} {ps done rest : List PartR} {ma : List Row} {nm : Nat × List Tr} {rows : List Row} (PO : ProgOk sy ms ps ma nm rows) (e : ps = done ++ rest) : rows = prefRows sy ms done ++ ((rest.map partRows).flatten ++ mainRow :: ma) := by
  rw [PO.eq, e]
  unfold headRows prefRows
  simp only [List.map_append, List.flatten_append, List.append_assoc, List.cons_append]
theorem at_len {α : Type} {a b : List α} : (a ++ b)[a.length]? = b.head? := by
  rw [List.getElem?_append_right (Nat.le_refl _), Nat.sub_self]
  cases b <;> rfl
section
variable {P : Program} {w : World} {K : PySem.W.Frag} {mg : Str → Option Value} {base : Heap}
theorem wordsOk {rows : List Row} (hG : Good rows) (k d : Nat) : ∀ z ∈ wordsAt (rows.map lineOf) k d, PyData.strOk z = true := fun z hz => by
  rw [wordsAt_rows hG] at hz
  cases e : rows[k]? with
  | none => rw [e] at hz; cases hz
  | some y =>
    rw [e] at hz
    dsimp only at hz
    split at hz
    · exact (hG y (List.mem_of_getElem? e)).ok z hz
    · cases hz
/-- the bodies of the parts, read and linked -/
def Blks (CS : Addr) (G : Addr → Prop) (H : Hp) (ps : List PartR) (tt : List (List AT)) : Prop := Paired (fun (q : PartR) (xs : List AT) => Blk CS G H q.2.2.2 xs) ps tt
theorem Blks.map {CS : Addr} {G : Addr → Prop} {H H' : Hp} {ps : List PartR} {tt : List (List AT)} (h : Blks CS G H ps tt) (e : KB CS H H') : Blks CS G H' ps tt := by
  unfold Blks at h ⊢
  induction h with
  | nil => exact .nil
  | cons h _ ih => exact .cons (h.map e) ih
theorem Blks.snoc {CS : Addr} {G : Addr → Prop} {H : Hp} {ps : List PartR} {tt : List (List AT)} {q : PartR} {xs : List AT} (h : Blks CS G H ps tt) (b : Blk CS G H q.2.2.2 xs) : Blks CS G H (ps ++ [q]) (tt ++ [xs]) := by
  unfold Blks at h ⊢
  induction h with
  | nil => exact .cons b .nil
  | cons h _ ih => exact .cons h ih
theorem Blks.wide {CS : Addr} {G G' : Addr → Prop} {H : Hp} {ps : List PartR} {tt : List (List AT)} (h : Blks CS G' H ps tt) (e : ∀ b, G' b → G b) : Blks CS G H ps tt := by
  unfold Blks at h ⊢
  induction h with
  | nil => exact .nil
  | cons h _ ih => exact .cons (h.base e) ih
def kvsOf (tt : List (List AT)) : List (Key × V) := (tt.map entsAll).flatten
theorem kvs_snoc (tt : List (List AT)) (xs : List AT) : kvsOf (tt ++ [xs]) = kvsOf tt ++ entsAll xs := by
  unfold kvsOf
  rw [List.map_append, List.flatten_append, List.map_cons, List.map_nil, List.flatten_cons, List.flatten_nil, List.append_nil]
def spProg (C CS : Addr) : Sp := fun vs H Q _ => ∃ (p l m s t : Addr) (sy0 sy : Str) (fi : Int) (ms : NV) (ps : List PartR) (ma : List Row) (nm : Nat × List Tr) (rows : List Row), vs = [.ref p] ∧ SAt C CS H p l m s t 0 sy0 fi [] [] rows [] 0 ∧ m ≠ s ∧ ProgOk sy ms ps ma nm rows ∧
  ∀ (H' : Hp) (k : Nat) (tt : List (List AT)) (mt : List AT) (cnt : Nat), KeepP p m s t H H' → SAt C CS H' p l m s t k sy (((prefRows sy ms ps).length + 2 : Nat) : Int) ms (startsOf ms ps) rows (kvsOf tt ++ entsAll mt) cnt → Blks CS (New H) H' ps tt → Blk CS (New H) H' nm.2 mt → cnt ≤ 20 → Q .non H'
theorem ok_read_program {f C CS : Addr} {fd : FuncData} (F : Fun K "read_program" "Parser.read_program" s_Parser_read_program f fd) (T : Bare mg) (TP : PTxt K C) (MW : Meter P w K mg base C 1 "words_at" ["self", "depth"] (spWords C))
    (MY : Meter P w K mg base C 2 "read_symbols" ["self"] (spSyms C CS)) (MC : Meter P w K mg base C 3 "read_cell" ["self"] (spCell C CS)) (MP : Meter P w K mg base C 14 "read_part" ["self"] (spPart C CS)) (MB : Meter P w K mg base C 13 "read_whole_body" ["self"] (spWhole C CS)) :
    FnOk P w K mg base CX0 15 f fd ["self"] (spProg C CS) := by
  refine F.ok sc_Parser_read_program (fun vs H Q E h => ?_) (fun cdv A outer st H vs Q E hr h => ?_)
  · obtain ⟨p, l, m, s, t, sy0, sy, fi, ms, ps, ma, nm, rows, rfl, _⟩ := h
    rfl
  obtain ⟨p, l, m, s, t, sy0, sy, fi, ms, ps, ma, nm, rows, rfl, S, hms, PO, q⟩ := h
  have hG := PO.good
  refine ⟨_, (pss_cons (ps_expr (pe_meth0 (pv 0) TP.cl MY.m MY.ok (hr.mono (by decide)) MY.b .nil pass0))
(pss_cons (ps_while PassesOwn.never (pt_weak (t' := tHead C "cell") (pt_cmpR (op_eqD hr.units) (pe_slice sl_list (pe_meth (pv 0) TP.cl MW.m MW.ok (hr.mono (by decide)) MW.b .nil pass0 (pa_cons pe_int pa_nil)) po_none (po_some pe_int)) (pe_lst (pa_cons pe_str pa_nil)) (nomark _)) (fun σ H1 Q1 h => by
    obtain ⟨p, l, m, s, t, k, sy, fi, lines, h0, ⟨dp, hp⟩, L, okW, okL, q1⟩ := h
    refine ⟨_, h0, p, dp, _, rfl, hp, (by kernel_rfl), p, l, m, s, t, k, 0, sy, fi, lines, rfl, ⟨dp, hp⟩, L, by omega, fun A H2 s2 hA hA1 => ?_⟩
    refine ⟨1, rfl, A, _, rfl, .inl (.inl hA1), fun B hB => ?_⟩
    rw [take1']
    have s3 := same_new hB (.lst (((wordsAt lines k 0).take 1).map V.str))
    refine ⟨small (by show 1 ≤ 1000; decide), fun D hD => ?_⟩
    have s4 := same_new hD (.lst [.str "cell"])
    refine ⟨.list (((wordsAt lines k 0).take 1).map .str), .list (([("cell" : Str)]).map .str), .lst (.inl (.inl (s4 _ _ upd_same))) (dp_strs _), .lst (.inl (.inl upd_same)) (dp_strs [("cell" : Str)]), shaped_strs (fun z hz => okW z (List.mem_of_mem_take hz)), shaped_strs (by simpa using okL), ?_⟩
    refine ⟨_, (congrArg V.bl (eqv_strs _ [("cell" : Str)])), ?_⟩
    exact q1 _ ((s2.trans s3).trans s4)))
(pss_one (ps_expr (pe_meth0 (pv 0) TP.cl MC.m MC.ok (hr.mono (by decide)) MC.b .nil pass0))))
(pss_cons (ps_while PassesOwn.never (pt_weak (t' := tHead C "part") (pt_cmpR (op_eqD hr.units) (pe_slice sl_list (pe_meth (pv 0) TP.cl MW.m MW.ok (hr.mono (by decide)) MW.b .nil pass0 (pa_cons pe_int pa_nil)) po_none (po_some pe_int)) (pe_lst (pa_cons pe_str pa_nil)) (nomark _)) (fun σ H1 Q1 h => by
    obtain ⟨p, l, m, s, t, k, sy, fi, lines, h0, ⟨dp, hp⟩, L, okW, okL, q1⟩ := h
    refine ⟨_, h0, p, dp, _, rfl, hp, (by kernel_rfl), p, l, m, s, t, k, 0, sy, fi, lines, rfl, ⟨dp, hp⟩, L, by omega, fun A H2 s2 hA hA1 => ?_⟩
    refine ⟨1, rfl, A, _, rfl, .inl (.inl hA1), fun B hB => ?_⟩
    rw [take1']
    have s3 := same_new hB (.lst (((wordsAt lines k 0).take 1).map V.str))
    refine ⟨small (by show 1 ≤ 1000; decide), fun D hD => ?_⟩
    have s4 := same_new hD (.lst [.str "part"])
    refine ⟨.list (((wordsAt lines k 0).take 1).map .str), .list (([("part" : Str)]).map .str), .lst (.inl (.inl (s4 _ _ upd_same))) (dp_strs _), .lst (.inl (.inl upd_same)) (dp_strs [("part" : Str)]), shaped_strs (fun z hz => okW z (List.mem_of_mem_take hz)), shaped_strs (by simpa using okL), ?_⟩
    refine ⟨_, (congrArg V.bl (eqv_strs _ [("part" : Str)])), ?_⟩
    exact q1 _ ((s2.trans s3).trans s4)))
(pss_one (ps_expr (pe_meth0 (pv 0) TP.cl MP.m MP.ok hr MP.b .nil pass0))))
(pss_cons (ps_if (pt_cmpR (op_neD hr.units) (pe_meth (pv 0) TP.cl MW.m MW.ok (hr.mono (by decide)) MW.b .nil pass0 (pa_cons pe_int pa_nil)) (pe_lst (pa_cons pe_str pa_nil)) (nomark _))
(pss_one ps_never)
pss_nil)
(pss_cons (ps_fld (pv 0) (pe_meth0 (pv 0) TP.cl MB.m MB.ok (hr.mono (by decide)) MB.b .nil pass0) rfl)
(pss_one (ps_if (pt_cmpR op_le (pe_fld (pv 0) rfl) (pe_callB call_len_seq (by rfl) T.len PySem.boot_len (pa_cons (pe_fld (pv 0) rfl) pa_nil)) (nomark _))
(pss_one ps_never)
pss_nil))))))), ?_⟩
  obtain ⟨⟨dp, hp⟩, _⟩ := id S.pin
  have at0 : rows[0]? = some (0, [("symbols" : Str), sy]) := by rw [PO.eq]; rfl
  refine ⟨_, rfl, p, dp, _, rfl, hp, (by kernel_rfl), ?_⟩
  refine ⟨p, l, m, s, t, sy0, sy, fi, [], [], rows, [], 0, rfl, S, hG, at0, PO.s2, PO.s4, PO.so, fun H1 k1 S1 => ?_⟩
  -- the cells
  refine ⟨fun mm σ H2 => ∃ i, i ≤ ms.length ∧ mm = ms.length - i ∧ σ = [some (.ref p)] ∧ SAt C CS H2 p l m s t (1 + i) sy fi (ms.take i) [] rows [] 0 ∧ KeepP p m s t H H2, ⟨_, 0, Nat.zero_le _, rfl, rfl, S1, k1⟩, ?_⟩
  rintro mm σ H2 ⟨i, hi, rfl, rfl, S2, k2⟩
  refine ⟨p, l, m, s, t, 1 + i, sy, fi, rows.map lineOf, rfl, S2.pin.ob, S2.ln, wordsOk hG _ _, by decide +kernel, fun H3 s3 => ?_⟩
  have S3 := S2.same s3
  have k3 := k2.trans (KeepP.of_same s3)
  obtain ⟨⟨dp3, hp3⟩, _⟩ := id S3.pin
  by_cases hlt : i < ms.length
  · have hat : rows[1 + i]? = some (cellRow ms[i]) := by
      rw [PO.eq, Nat.add_comm 1 i]
      show ((ms.map cellRow ++ (ps.map partRows).flatten) ++ mainRow :: ma)[i]? = _
      rw [List.append_assoc, List.getElem?_append_left (by rw [List.length_map]; exact hlt), List.getElem?_map, List.getElem?_eq_getElem hlt]
      rfl
    have eW : wordsAt (rows.map lineOf) (1 + i) 0 = [("cell" : Str), ms[i].1, numS ms[i].2] := by
      rw [wordsAt_rows hG, hat]
      rfl
    rw [eW]
    refine iteT ?_
    refine ⟨fun σ' H' => ∃ m', m' < ms.length - i ∧ ∃ i', i' ≤ ms.length ∧ m' = ms.length - i' ∧ σ' = [some (.ref p)] ∧ SAt C CS H' p l m s t (1 + i') sy fi (ms.take i') [] rows [] 0 ∧ KeepP p m s t H H', fun σ' H' z => z, ?_⟩
    refine ⟨_, rfl, p, dp3, _, rfl, hp3, (by kernel_rfl), ?_⟩
    have hmem : ms[i] ∈ ms := List.getElem_mem hlt
    have hnd := (List.nodup_append.mp PO.nd).1
    have hnew : ms[i].1 ∉ (ms.take i).map (·.1) := fun z => by
      obtain ⟨y, hy, e⟩ := List.mem_map.mp z
      obtain ⟨j, hj, ej⟩ := List.mem_take_iff_getElem.mp hy
      have := nodup_at hnd (i := j) (j := i) (List.getElem?_eq_getElem (by omega)) (List.getElem?_eq_getElem hlt) (by rw [ej]; exact e)
      omega
    refine ⟨p, l, m, s, t, 1 + i, sy, fi, ms.take i, [], rows, [], 0, ms[i].1, ms[i].2, rfl, S3, hms, hG, hat, by rw [List.length_take]; have := PO.c2; omega, (PO.cv _ hmem).1, (PO.cv _ hmem).2, PO.names _ (List.mem_append_left _ (List.mem_map.mpr ⟨_, hmem, rfl⟩)), hnew, by simp, fun H4 k4 S4 => ?_⟩
    refine ⟨ms.length - (i + 1), by omega, i + 1, hlt, rfl, rfl, ?_, k3.trans k4⟩
    rw [List.take_add_one, List.getElem?_eq_getElem hlt]
    exact S4
  · have e : i = ms.length := by omega
    subst e
    rw [List.take_length] at S3
    have hw : ∀ (done rest : List PartR), ps = done ++ rest → wordsAt (rows.map lineOf) (prefRows sy ms done).length 0 = match rest with | [] => [("main" : Str)] | q :: _ => [("part" : Str), q.1] := fun done rest e => by
      rw [wordsAt_rows hG]
      have h1 : rows[(prefRows sy ms done).length]? = ((rest.map partRows).flatten ++ mainRow :: ma).head? := by
        have z := at_len (a := prefRows sy ms done) (b := (rest.map partRows).flatten ++ mainRow :: ma)
        rw [← rows_cut PO e] at z
        exact z
      rw [h1]
      cases rest <;> rfl
    have e0 : 1 + ms.length = (prefRows sy ms []).length := by
      unfold prefRows
      rw [List.length_cons, List.length_append, List.length_map]
      show _ = ms.length + 0 + 1
      omega
    rw [e0] at S3 ⊢
    have eW := hw [] ps rfl
    have hn : decide ((wordsAt (rows.map lineOf) (prefRows sy ms []).length 0).take 1 = [("cell" : Str)]) = false := by
      rw [eW]
      cases ps with
      | nil => decide +kernel
      | cons q r =>
        refine decide_eq_false fun z => ?_
        have z1 : ([("part" : Str)] : List Str) = [("cell" : Str)] := z
        exact absurd z1 (by decide +kernel)
    rw [hn]
    refine iteF ?_
    -- the parts
    refine ⟨fun mm σ H2 => ∃ (done rest : List PartR) (tt : List (List AT)), ps = done ++ rest ∧ mm = rest.length ∧ σ = [some (.ref p)] ∧ SAt C CS H2 p l m s t (prefRows sy ms done).length sy fi ms (startsOf ms done) rows (kvsOf tt) (done.map (·.2.2.1)).sum ∧ Blks CS (New H) H2 done tt ∧ KeepP p m s t H H2,
      ⟨_, [], ps, [], rfl, rfl, rfl, S3, .nil, k3⟩, ?_⟩
    rintro mm σ H5 ⟨done, rest, tt, eps, rfl, rfl, S5, hB5, k5⟩
    obtain ⟨ss, ess⟩ : ∃ ss, startsOf ms done = ss := ⟨_, rfl⟩
    have hss : ss.map (·.1) = done.map (·.1) := by
      rw [← ess]
      exact starts_names _ _
    rw [ess] at S5
    refine ⟨p, l, m, s, t, (prefRows sy ms done).length, sy, fi, rows.map lineOf, rfl, S5.pin.ob, S5.ln, wordsOk hG _ _, by decide +kernel, fun H6 s6 => ?_⟩
    have S6 := S5.same s6
    have k6 := k5.trans (KeepP.of_same s6)
    obtain ⟨⟨dp6, hp6⟩, _⟩ := id S6.pin
    have eW := hw done rest eps
    have hB6 := hB5.map (KB.of_same s6)
    have hsum : ∀ (a b : List PartR), ps = a ++ b → (a.map (·.2.2.1)).sum + (b.map (·.2.2.1)).sum + nm.1 ≤ 20 := fun a b e => by
      have := PO.tot
      rw [e, List.map_append, List.sum_append] at this
      exact this
    cases rest with
    | cons qq rest' =>
      rw [eW]
      refine iteT ?_
      refine ⟨fun σ' H' => ∃ m', m' < (qq :: rest').length ∧ ∃ (done rest : List PartR) (tt : List (List AT)), ps = done ++ rest ∧ m' = rest.length ∧ σ' = [some (.ref p)] ∧ SAt C CS H' p l m s t (prefRows sy ms done).length sy fi ms (startsOf ms done) rows (kvsOf tt) (done.map (·.2.2.1)).sum ∧ Blks CS (New H) H' done tt ∧ KeepP p m s t H H', fun σ' H' z => z, ?_⟩
      refine ⟨_, rfl, p, dp6, _, rfl, hp6, (by kernel_rfl), ?_⟩
      have hat : rows[(prefRows sy ms done).length]? = some (0, [("part" : Str), qq.1]) := by
        have z := at_len (a := prefRows sy ms done) (b := ((qq :: rest').map partRows).flatten ++ mainRow :: ma)
        rw [← rows_cut PO eps] at z
        exact z
      have hrows : rows = (prefRows sy ms done ++ [(0, [("part" : Str), qq.1])]) ++ qq.2.1 ++ ((rest'.map partRows).flatten ++ mainRow :: ma) := by
        rw [rows_cut PO eps]
        unfold partRows
        simp only [List.map_cons, List.flatten_cons, List.append_assoc, List.cons_append, List.nil_append]
      have haft : AfterBod 1 ((rest'.map partRows).flatten ++ mainRow :: ma) := by
        intro r hr
        cases rest' with
        | nil =>
          have e := Option.some.inj hr
          rw [← e]
          exact Nat.zero_lt_one
        | cons a b =>
          have e := Option.some.inj hr
          rw [← e]
          exact Nat.zero_lt_one
      have hs1 := hsum (done ++ [qq]) rest' (by rw [eps]; simp)
      rw [List.map_append, List.sum_append] at hs1
      have hs2 : (done.map (·.2.2.1)).sum + qq.2.2.1 ≤ 20 := by
        have e : ([qq].map fun x : PartR => x.2.2.1).sum = qq.2.2.1 := by simp
        rw [e] at hs1
        omega
      have hpn := List.nodup_append.mp PO.nd
      have hname : qq.1 ∈ ps.map (·.1) := by rw [eps]; simp
      have hn1 : qq.1 ∉ ms.map (·.1) := fun z => hpn.2.2 _ z _ hname rfl
      have hn2 : qq.1 ∉ ss.map (·.1) := fun z => by
        rw [hss] at z
        have h1 := hpn.2.1
        rw [eps, List.map_append] at h1
        exact (List.nodup_append.mp h1).2.2 _ z _ (by simp) rfl
      have hsl : ss.length < 2 := by
        have h1 : ss.length = done.length := by
          have z := congrArg List.length hss
          rw [List.length_map, List.length_map] at z
          exact z
        have h2 := PO.p2
        rw [eps, List.length_append, List.length_cons] at h2
        omega
      refine ⟨p, l, m, s, t, (prefRows sy ms done).length, sy, fi, ms, ss, rows, prefRows sy ms done ++ [(0, [("part" : Str), qq.1])], qq.2.1, (rest'.map partRows).flatten ++ mainRow :: ma, kvsOf tt, (done.map (·.2.2.1)).sum, qq.2.2.1, qq.1, qq.2.2.2, rfl, S6, hms, hG, hrows, by rw [List.length_append]; rfl, hat, by rw [← ess]; exact PO.bod done qq rest' eps, hs2, haft, by have := PO.s4; omega, hsl, PO.names _ (List.mem_append_right _ hname), hn1, hn2, fun H7 xs k7 S7 B7 => ?_⟩
      have el : (prefRows sy ms done).length + 1 + qq.2.1.length = (prefRows sy ms (done ++ [qq])).length := by
        unfold prefRows partRows
        simp only [List.map_append, List.flatten_append, List.length_cons, List.length_append, List.map_cons, List.map_nil, List.flatten_cons, List.flatten_nil, List.length_nil, List.append_nil]
        omega
      have ec : (done.map (·.2.2.1)).sum + qq.2.2.1 = ((done ++ [qq]).map (·.2.2.1)).sum := by
        rw [List.map_append, List.sum_append]
        simp
      rw [el, ec, ← ess, ← starts_snoc, ← kvs_snoc] at S7
      exact ⟨rest'.length, Nat.lt_succ_self _, done ++ [qq], rest', tt ++ [xs], by rw [eps]; simp, rfl, rfl, S7, (hB6.map (S6.kb k7)).snoc (B7.base fun b hb => S6.grownP k6 b hb), k6.trans k7⟩
    | nil =>
      rw [eW]
      refine iteF ?_
      rw [List.append_nil] at eps
      subst eps
      -- main
      refine ⟨_, rfl, p, dp6, _, rfl, hp6, (by kernel_rfl), p, l, m, s, t, (prefRows sy ms ps).length, 0, sy, fi, rows.map lineOf, rfl, S6.pin.ob, S6.ln, by omega, fun A7 H7 s7 hA7 hA71 => ⟨small (by show 1 ≤ 1000; decide), fun A8 hA8 => ?_⟩⟩
      rw [eW] at hA71
      have s8 := same_new hA8 (.lst [.str "main"])
      have okM : ∀ z ∈ ([("main" : Str)] : List Str), PyData.strOk z = true := by simp; decide +kernel
      refine ⟨.list (([("main" : Str)]).map .str), .list (([("main" : Str)]).map .str), .lst (.inl (.inl (s8 _ _ hA71))) (dp_strs [("main" : Str)]), .lst (.inl (.inl upd_same)) (dp_strs [("main" : Str)]), shaped_strs okM, shaped_strs okM, ?_⟩
      have ev : PyData.eqv (.list (([("main" : Str)]).map .str)) (.list (([("main" : Str)]).map .str)) = decide (([("main" : Str)]) = [("main" : Str)]) := eqv_strs _ _
      rw [ev, decide_eq_true rfl]
      refine ⟨_, rfl, iteF ?_⟩
      have s78 := s7.trans s8
      have S8 := S6.same s78
      have k8 := k6.trans (KeepP.of_same s78)
      generalize upd H7 A8 (.lst [.str "main"]) = H8 at S8 k8 s78 ⊢
      obtain ⟨⟨dp8, hp8⟩, _⟩ := id S8.pin
      refine ⟨_, rfl, p, dp8, _, rfl, hp8, (by kernel_rfl), ?_⟩
      have hrows : rows = (prefRows sy ms ps ++ [mainRow]) ++ ma ++ [] := by
        rw [rows_cut PO (done := ps) (rest := []) (by simp)]
        simp
      have hs1 := hsum ps [] (by simp)
      have hs0 : (([] : List PartR).map (·.2.2.1)).sum = 0 := rfl
      have hB8 := hB6.map (KB.of_same s78)
      refine ⟨p, l, m, s, t, (prefRows sy ms ps).length, sy, fi, ms, ss, rows, prefRows sy ms ps ++ [mainRow], ma, [], kvsOf tt, (ps.map (·.2.2.1)).sum, nm.1, nm.2, rfl, S8, hrows, by rw [List.length_append]; rfl, hG, by rw [← ess]; exact PO.mbod, by omega, fun r hr => (by cases hr), by have := PO.s4; omega, fun H9 mt k9 S9 B9 => ?_⟩
      obtain ⟨v, hv⟩ : ∃ v : Nat, v = (prefRows sy ms ps).length + 2 := ⟨_, rfl⟩
      rw [← hv]
      obtain ⟨⟨dp9, hp9⟩, mo9, st9, nm9, ns9⟩ := id S9.pin
      refine ⟨_, rfl, p, C, dp9, _, rfl, hp9, TP.cl, TP.nFirst, (by show 7 < 1000; decide), ?_⟩
      rw [put_first]
      have n1 : l ≠ p := ne_of S9.ln.at_ hp9 (by intro z; cases z)
      have n2 : m ≠ p := ne_of mo9 hp9 (by intro z; cases z)
      have n3 : s ≠ p := ne_of st9 hp9 (by intro z; cases z)
      have n4 : t ≠ p := ne_of S9.dt hp9 (by intro z; cases z)
      have kk : Keep p t H9 (upd H9 p (.ins C dp9 (pf l ((((prefRows sy ms ps).length + 1 + ma.length : Nat) : Int) + 1) sy m s t (v : Int)))) := fun b o h n _ => by rw [upd_ne n]; exact h
      have S10 : SAt C CS (upd H9 p (.ins C dp9 (pf l ((((prefRows sy ms ps).length + 1 + ma.length : Nat) : Int) + 1) sy m s t (v : Int)))) p l m s t ((prefRows sy ms ps).length + 1 + ma.length) sy (v : Int) ms ss rows (kvsOf tt ++ entsAll mt) ((ps.map (·.2.2.1)).sum + nm.1) := by
        refine ⟨⟨⟨dp9, upd_same⟩, by rw [upd_ne n2]; exact mo9, by rw [upd_ne n3]; exact st9, nm9, ns9⟩, ⟨by rw [upd_ne n1]; exact S9.ln.at_, S9.ln.few, S9.ln.short⟩, by rw [upd_ne n4]; exact S9.dt, S9.few, S9.keys, fun kv h => ?_, S9.nm, S9.ns, S9.cc⟩
        obtain ⟨a, h1, h2⟩ := S9.ok kv h
        exact ⟨a, h1, h2.keep S9 kk⟩
      have hp10 : (upd H9 p (.ins C dp9 (pf l ((((prefRows sy ms ps).length + 1 + ma.length : Nat) : Int) + 1) sy m s t (v : Int)))) p = some (.ins C dp9 (pf l ((((prefRows sy ms ps).length + 1 + ma.length : Nat) : Int) + 1) sy m s t (v : Int))) := upd_same
      refine ⟨_, rfl, p, C, dp9, _, _, rfl, hp10, TP.cl, TP.nNumber, pf_number, _, rfl, p, C, dp9, _, _, rfl, hp10, TP.cl, TP.nLines, pf_lines, l, _, rfl, .inl (.inl (.inl S10.ln.at_)), _, _, rfl, rfl, _, rfl, ?_⟩
      have elen : rows.length = (prefRows sy ms ps).length + 1 + ma.length := by
        rw [hrows]
        simp only [List.length_append, List.length_cons, List.length_nil]
        omega
      have e1 : decide (((((prefRows sy ms ps).length + 1 + ma.length : Nat) : Int) + 1) ≤ ((((rows.map lineOf).map V.str).length : Nat) : Int)) = false := decide_eq_false (by
        rw [List.length_map, List.length_map, elen]
        omega)
      dsimp only
      rw [e1]
      refine iteF ?_
      have kb9 := S8.kb (k9.p (m := m) (s := s))
      have kb10 := S9.kb (kk.p (m := m) (s := s))
      exact q _ _ tt mt _ (k8.trans ((k9.p (m := m) (s := s)).trans (kk.p))) (by rw [ess, ← hv]; exact S10) ((hB8.map kb9).map kb10) ((B9.map kb10).base fun b hb => S8.grownP k8 b hb) (by omega)
end
end Fv
set_option Elab.async false
set_option linter.all false
set_option maxRecDepth 100000
set_option maxHeartbeats 4000000
/-! tuple(d.items()), tuple(d), list(d.values()), list(text) -/
namespace Fv
open PySem PySem.Spec PyProof.Rows L2 TL
section
variable {P : Program} {w : World} {A : Around} {E : Value → Shared → Prop} {s : Shared} {r d : Addr}
/-- what a dict's own walk gives, gathered -/
theorem collect_kdl {T : String} {n : Nat} {Pv : Nat → Value → Prop} {OK : Heap → Prop} {R : List Value → Shared → Prop} (K : PySem.W.KdlSrc P w T r d n Pv OK) (hh : A.handled = none) (hok : OK s.heap) (hn : n ≤ sizeLine)
    (hQ : ∀ (h' : Heap) (tk : Nat) (acc : Array Value), (∀ b o, s.heap.get? b = some o → h'.get? b = some o) → ItemsOf Pv acc n → R acc.toList { s with heap := h', toks := tk }) : wpAny (model P w) A (collect (.ref r)) R E s := by
  have hlt := K.there _ hok
  unfold collect
  refine wpAny_bind (wpAny_runValue (codeAny_builtin F.entry_proto_collect ?_))
  rw [Around.under_plainId F.plain_proto_collect _]
  refine wpAny_bind (m := newList []) (wpAny_newObj_type (wpAny_pure ⟨plainId_quiet F.plain_list_iadd _, codeAny_builtin F.entry_list_iadd ?_⟩))
  rw [Around.under_plainId F.plain_list_iadd _]
  have n1 : (s.heap.push { cls := .type "list", data := .seq ([] : List Value).toArray }).get? s.heap.objs.size = some { cls := .type "list", data := .seq #[] 0 } := Heap.get?_push_size _ rfl
  refine wpAny_mono (PySem.W.kdl_extend (A := A) (s := { s with heap := s.heap.push { cls := .type "list", data := .seq ([] : List Value).toArray } }) (R := fun q u => q = .ok (.ret (.ref s.heap.objs.size)) ∧ ∃ (h' : Heap) (tk : Nat) (acc : Array Value) (c : Nat), u = { s with heap := h', toks := tk } ∧ (∀ b o, s.heap.get? b = some o → h'.get? b = some o) ∧
      h'.get? s.heap.objs.size = some { cls := .type "list", dict := none, data := .seq acc c, slots := #[] } ∧ ItemsOf Pv acc n) K hh (K.keep _ _ hok fun b _ o e => Heap.get?_push_of_some _ e) s.heap.objs.size (Nat.ne_of_gt hlt.1) (Nat.ne_of_gt hlt.2) (.ref s.heap.objs.size) 0 n1
      (fun h' tk acc c k e i => ⟨rfl, h', tk, acc, c, rfl, fun b o q => k b o (Nat.ne_of_lt (Heap.lt_size q)) (Heap.get?_push_of_some _ q), e, i⟩) hn) (fun fin u z => ?_) (fun e u z => absurd z.1 (by simp))
  cases fin with
  | done f =>
    obtain ⟨e, h', tk, acc, c, rfl, k, g, i⟩ := z
    cases e
    exact wpAny_bind (m := load s.heap.objs.size) (wpAny_load g (wpAny_pure (hQ h' tk acc k i)))
  | again c' =>
    refine ⟨z.1, codeAny_mono z.2 fun q u2 y => ?_⟩
    obtain ⟨rfl, h', tk, acc, c, rfl, k, g, i⟩ := y
    exact wpAny_bind (m := load s.heap.objs.size) (wpAny_load g (wpAny_pure (hQ h' tk acc k i)))
/-- tuple(x), x gathered by its own walk -/
theorem code_tuple_by {T : String} {C : Heap → List Value → Prop} {Q₁ : Value → Shared → Prop} (hT : s.TypeIs (.ref r) T) (hTT : T = "dict" ∨ T = "dict_items")
    (col : ∀ (R : List Value → Shared → Prop), (∀ h' tk vs, C h' vs → R vs { s with heap := h', toks := tk }) → wpAny (model P w) A.in1 (collect (.ref r)) R (fun e s' => wants Q₁ E (.error e) s') s) (hsz : ∀ h' vs, C h' vs → vs.length ≤ sizeLine)
    (h : ∀ (h' : Heap) (tk : Nat) (vs : List Value), C h' vs → Q₁ (.ref h'.objs.size) { s with heap := h'.push { cls := .type "tuple", data := .seq vs.toArray }, toks := tk }) :
    codeAny (model P w) A (.call (.builtin "tuple.__new__") ⟨[.type "tuple", .ref r], []⟩) (wants Q₁ E) s := by
  refine codeAny_of_tree (wpAny_bind (m := checkBuiltinCall "tuple.__new__" ⟨[.type "tuple", .ref r], []⟩) (wpAny_of_eq (F.newCall_tuple_1 _) (wpAny_pure ⟨plainId_quiet F.plain_tuple_new _, codeAny_builtin F.entry_tuple_new ?_⟩)))
  rw [Around.under_plainId F.plain_tuple_new _]
  have hsub := sub_tuple_self
  have hinit := init_tuple_lookup
  have hmh := madeHere_tuple
  have fin : ∀ (h' : Heap) (tk : Nat) (vs : List Value), C h' vs → wpAny (model P w) A.in1 (Builtin.Tuple.tupleExact vs.toArray >>= fun v => ret v) (fun fin s' => match fin with | .done f => wants Q₁ E (.ok f) s' | .again c' => c'.quiet = true ∧ codeAny (model P w) A c' (wants Q₁ E) s') (fun e s' => wants Q₁ E (.error e) s') { s with heap := h', toks := tk } := fun h' tk vs hC => by
    unfold Builtin.Tuple.tupleExact
    exact wpAny_bind (wpAny_newObj_type (wpAny_pure (h h' tk vs hC)) (by show vs.toArray.size ≤ sizeLine; simpa using hsz h' vs hC))
  rcases hTT with rfl | rfl
  all_goals
    wp_walk using wpAny_typeOf hT, col
    intro h' tk vs hC
    exact fin h' tk vs hC
theorem call_tuple_by {T : String} {C : Heap → List Value → Prop} {Q : Value → Shared → Prop} (hT : s.TypeIs (.ref r) T) (hTT : T = "dict" ∨ T = "dict_items")
    (col : ∀ (E' : Value → Shared → Prop) (A' : Around) (R : List Value → Shared → Prop), A'.handled = A.handled → (∀ h' tk vs, C h' vs → R vs { s with heap := h', toks := tk }) → wpAny (model P w) A' (collect (.ref r)) R E' s) (hsz : ∀ h' vs, C h' vs → vs.length ≤ sizeLine)
    (hQ : ∀ (h' : Heap) (tk : Nat) (vs : List Value), C h' vs → Q (.ref h'.objs.size) { s with heap := h'.push { cls := .type "tuple", data := .seq vs.toArray }, toks := tk }) : wpAny (model P w) A (call (.type "tuple") [.ref r]) Q E s := by
  refine callType_codes (Q₁ := fun obj s₁ => s₁.TypeIs obj "tuple" ∧ Q obj s₁) F.called_tuple (F.typeCall_tuple_1 _) F.entry_object_init
    (code_tuple_by (A := A.in1) hT hTT (fun R hR => col _ _ R rfl hR) hsz fun h' tk vs hC => ⟨⟨_, Heap.get?_push_size _ rfl, rfl⟩, hQ h' tk vs hC⟩) fun obj s₁ h₁ => ?_
  exact ⟨h₁.1, F.args_object_init_2 obj _, object_init_meets F.called_tuple.init.lookup F.called_tuple.made (by decide) P w A.in1 _ s₁ ⟨h₁.1, rfl, h₁.2⟩⟩
end
/-! ### over the layer -/
section
variable {X : Cx}
/-- list(text): its signs -/
def rListT : List V → Hp → VK → Prop := fun xs H Q => ∃ z : Str, xs = [.str z] ∧ z.length ≤ 10000 ∧ ∀ p, H p = none → Q (.ref p) (upd H p (.lst ((tl z).map fun c => V.str ⟨#[c]⟩)))
theorem call_list_text (hc : X.calm = true) : CallR X (.type "list") rListT := by
  intro pins s σ H xs us Q I r h
  obtain ⟨z, rfl, hz, q⟩ := h
  cases r with
  | cons r0 rr =>
    cases rr
    obtain ⟨t, rfl⟩ := r0
    refine PySem.call_list_str (I.ok.hd hc) z t (fun h' tk acc c k hS hacc => ?_) (by
      have : z.cps.size ≤ 20000 := Nat.le_trans hz (by decide)
      exact sizeLine_big this)
    have hlen : acc.toList.length = (tl z).length := by rw [Array.length_toList, hacc.1]; exact Array.length_toList.symm
    refine ⟨.ref s.heap.objs.size, upd H s.heap.objs.size (.lst ((tl z).map fun c => V.str ⟨#[c]⟩)), I.laid (t' := tk) k (Nat.le_refl _) ⟨?_, acc.toList, c, ?_, ?_⟩, rfl, q _ (I.hok.fresh (Nat.le_refl _))⟩
    · rw [List.length_map, ← len_tl]
      exact sizeLine_big (by omega)
    · refine vals_of_at (by rw [List.length_map, hlen]) fun j x u h1 h2 => ?_
      have h3 := hacc.2 j u (by rw [← Array.getElem?_toList]; exact h2)
      rw [List.getElem?_map] at h1
      obtain ⟨c0, e1, e2⟩ := Option.map_eq_some_iff.mp h1
      subst e2
      obtain ⟨c1, u1, e3, rfl⟩ := h3
      have e4 : z.cps[j]? = some c0 := by rw [← Array.getElem?_toList]; exact e1
      rw [e4] at e3
      cases e3
      exact ⟨u1, rfl⟩
    · rw [Array.toArray_toList]
      exact hS
/-- tuple(d): its keys -/
def rTupD : List V → Hp → VK → Prop := fun xs H Q => ∃ (d : Addr) (kvs : List (Key × V)), xs = [.ref d] ∧ H d = some (.dK kvs) ∧ ∀ p, H p = none → Q (.ref p) (upd H p (.tup (kvs.map fun kv => kV kv.1)))
theorem call_tuple_d (hc : X.calm = true) : CallR X (.type "tuple") rTupD := by
  intro pins s σ H xs us Q I r h
  obtain ⟨d, kvs, rfl, hd, q⟩ := h
  rw [Vals.ref1 r]
  obtain ⟨z, lo, vs, rk, hdo⟩ := (show ObjOk X.prog X.w H s.heap d (.dK kvs) from I.hok d _ hd)
  obtain ⟨ep, hat⟩ := hdo.dictAt
  have hl : kvs.length = vs.length := Paired.length rk
  have K := PySem.W.kdl_dict (prog := X.prog) (w := X.w) (knd := mixKind X.prog X.w) (kvs := vs) (ep := ep) (d := d) lo
  refine call_tuple_by (C := fun h' us => (∀ b o, s.heap.get? b = some o → h'.get? b = some o) ∧ ∃ acc : Array Value, us = acc.toList ∧ ItemsOf (fun i v => ∃ k x, vs[i]? = some (k, x) ∧ (mixKind X.prog X.w).is k v = true) acc vs.length) (T := "dict") hdo.typeIs (.inl rfl)
    (fun E' A' R hA hR => collect_kdl K (hA.trans (I.ok.hd hc)) hat (by rw [← hl]; exact z) fun h' tk acc k i => hR h' tk _ ⟨k, acc, rfl, i⟩) (fun h' us hC => ?_) fun h' tk us hC => ?_
  · obtain ⟨_, acc, rfl, i⟩ := hC
    rw [Array.length_toList, i.1, ← hl]
    exact z
  · obtain ⟨k, acc, rfl, i⟩ := hC
    have I1 : Inv X pins σ H { s with heap := h', toks := tk } := I.kept k
    have hnew : H h'.objs.size = none := I1.hok.fresh (Nat.le_refl _)
    have hv : Vals (kvs.map fun kv => kV kv.1) acc.toList := by
      have el : acc.toList.length = acc.size := by simp
      refine vals_of_at (by rw [List.length_map, el, i.1, hl]) fun j x u h1 h2 => ?_
      obtain ⟨k0, y, hky, hi⟩ := i.2 j u (by rw [← Array.getElem?_toList]; exact h2)
      rw [List.getElem?_map] at h1
      obtain ⟨kv, e1, e2⟩ := Option.map_eq_some_iff.mp h1
      subst e2
      have e3 : (kvs.map (·.1))[j]? = some k0 := by
        rw [KV.keys rk, List.getElem?_map, hky] <;> rfl
      rw [List.getElem?_map, e1] at e3
      have e4 : kv.1 = k0 := Option.some.inj e3
      rw [e4]
      exact relV_key (show keyIs k0 u = true from hi)
    refine ⟨.ref h'.objs.size, upd H h'.objs.size (.tup (kvs.map fun kv => kV kv.1)), I1.laid (t' := tk) (fun b o e => Heap.get?_push_of_some _ e) (Nat.le_refl _) (show ObjOk X.prog X.w _ _ _ (.tup (kvs.map fun kv => kV kv.1)) from ⟨by rw [List.length_map]; exact z, acc.toList, hv, IsTup.new _ _⟩), rfl, q _ hnew⟩
variable {e : Expr} {te : TE} {p apos cpos pos : Pos}
/-- list(e.values()) -/
def tListVals (te : TE) : TE := fun σ H Q => te σ H fun x H1 => ∃ (d : Addr) (kvs : List (Key × V)), x = .ref d ∧ H1 d = some (.dK kvs) ∧ ∀ q, H1 q = none → Q (.ref q) (upd H1 q (.lst (kvs.map (·.2))))
theorem pe_listVals (hc : X.calm = true) (he : PE X e te) (hg : Gl X "list") (hm : X.mg "list" = none) (hv : bootBuiltins "list" = some (.type "list")) (hb : attributeBase e "values" X.env (eval e X.env) = eval e X.env := by rfl) (hl : (apos.endLine == cpos.line) = true := by rfl)
    (hs : starEach [.Call (.Attribute e "values" apos) [] [] cpos] X.env = (false, eval (.Call (.Attribute e "values" apos) [] [] cpos) X.env) :: starEach [] X.env := by rfl) :
    PE X (.Call (.Name "list" p) [.Call (.Attribute e "values" apos) [] [] cpos] [] pos) (tListVals te) := by
  refine ⟨fun pins s σ H Q I hq => wpAny_Call_Name_kw (ld_blt I hg hm hv (PyProof.Rows.callWith_type1 ?_ hs rfl))⟩
  rw [hs]
  refine Calls.spliced_cons (wpAny_Call_method (T := "dict") (id := "dict.values") hb rfl hl F.plainAttrs_dict F.slot_dict_values F.type_dict_values (thn (he.run pins s σ H _ I hq) fun u s1 ⟨x, H1, I1, rx, d, kvs, ex, hd, q⟩ => ?_))
  subst ex
  obtain rfl : u = Value.ref d := rx
  obtain ⟨hz, lo, vs, kv, hdo⟩ := I1.hok d _ hd
  obtain ⟨ep, hat⟩ := hdo.dictAt
  have lk : kvs.length = vs.length := Paired.length kv
  have I2 : Inv X pins σ H1 { s1 with heap := s1.heap.push { cls := .type "dict_values", data := .fields #[.ref d] } } := I1.kept (t' := s1.toks) fun b ob z => Heap.get?_push_of_some _ z
  refine ⟨hdo.typeIs, hdo.mapOf.noDict, ?_⟩
  refine method_meetsIn F.slot_dict_values F.entry_dict_values rfl (PySem.evalArgs_none ⟨rfl, hdo.typeIs, F.args_dict_values_1 _, _, meets_dict_values (mixKind X.prog X.w) d lo, ⟨vs, hdo⟩, Calls.spliced_nil ?_⟩)
  have K := PySem.W.kdl_values (prog := X.prog) (w := X.w) (knd := mixKind X.prog X.w) (kvs := vs) (ep := ep) (d := d) (r := s1.heap.objs.size)
  refine PySem.W.kdl_call K (I1.ok.hd hc) ⟨⟨_, Heap.get?_push_size _ rfl, rfl, rfl⟩, hat.push _⟩ (by rw [← lk]; exact hz) fun h' tk acc c k hS hacc => ?_
  have hsz : s1.heap.objs.size ≤ (s1.heap.push { cls := .type "dict_values", data := .fields #[.ref d] }).objs.size := by rw [Heap.size_push]; exact Nat.le_succ _
  refine ⟨.ref _, upd H1 _ (.lst (kvs.map (·.2))), I2.laid (t' := tk) k (Nat.le_refl _) (show ObjOk X.prog X.w _ _ _ (.lst (kvs.map (·.2))) from ⟨by rw [List.length_map]; exact hz, acc.toList, c, ?_, by rw [Array.toArray_toList]; exact hS⟩), rfl, q _ (I2.hok.fresh (Nat.le_refl _))⟩
  have el : acc.toList.length = acc.size := by simp
  refine vals_of_at (by rw [List.length_map, el, hacc.1, lk]) fun j y u h1 h2 => ?_
  obtain ⟨k0, hky⟩ := hacc.2 j u (by rw [← Array.getElem?_toList]; exact h2)
  rw [List.getElem?_map] at h1
  obtain ⟨kv0, e1, e2⟩ := Option.map_eq_some_iff.mp h1
  subst e2
  obtain ⟨y2, g1, g2, g3⟩ := LiI.paired_get kv e1
  rw [hky] at g1
  cases g1
  exact g3
/-- the pairs of a dict, each a new tuple -/
theorem pairs_laid {pins : List (Addr × Obj)} {σ : L2.St} {H : Hp} {s : Shared} {h' : Heap} {tk : Nat} {kvs : List (Key × V)} {vs : List (Key × Value)} {as : List Addr} {lo : Addr} (I : Inv X pins σ H s) (kv : KV kvs vs)
    (hk : ∀ b o, s.heap.get? b = some o → h'.get? b = some o) (hl : as.length = vs.length) (hlo : s.heap.objs.size ≤ lo) (hG : PySem.W.KdxG (mixKind X.prog X.w) vs lo h' as) :
    ∃ H' : Hp, Same H H' ∧ Paired (fun (t : Addr) (q : Key × V) => H' t = some (.tup [kV q.1, q.2])) as kvs ∧ (∀ b, b ∉ as → H' b = H b) ∧ (∀ t ∈ as, H t = none) ∧ Inv X pins σ H' { s with heap := h', toks := tk } := by
  have lk : kvs.length = vs.length := Paired.length kv
  have nd : as.Nodup := List.Pairwise.imp (fun {a b} (h : a < b) => Nat.ne_of_lt h) hG.rise
  have hi : ∀ t ∈ as, s.heap.objs.size ≤ t := fun t ht => Nat.le_trans hlo (Nat.le_of_lt (hG.above t ht))
  have new : ∀ t ∈ as, H t = none := fun t ht => I.hok.fresh (hi t ht)
  have at_ := LiI.putT_at as kvs H (by omega) nd
  have off : ∀ b, b ∉ as → LiI.putT H as kvs b = H b := fun b h1 => LiI.putT_off as kvs _ h1
  have low : ∀ b o, s.heap.get? b = some o → b ∉ as := fun b o e z => absurd (Heap.lt_size e) (Nat.not_lt.mpr (hi b z))
  have kp : Same H (LiI.putT H as kvs) := fun b u e => by
    rw [off b fun z => by rw [new b z] at e; cases e]
    exact e
  refine ⟨LiI.putT H as kvs, kp, at_, off, new, ?_⟩
  refine I.call' (ch := []) rfl ⟨fun b o q _ _ _ => hk b o q, fun b o q _ _ _ => ⟨o.slots, hk b o q⟩, fun b o q n _ => ?_, fun b o q _ => ⟨o, hk b o q⟩, fun b xs q => kp b _ q, fun b o u q => kp b _ q, fun b ps q => ⟨#[], by rw [kp b _ q]; simp⟩⟩ (fun b u q => ?_) I.bare fun b z => by cases z
  · rw [off b (low b o q)]
    exact n
  · by_cases hb : b ∈ as
    · obtain ⟨j, pk, e1, e2, e3⟩ := LiI.paired_ix at_ hb
      rw [e3] at q
      cases q
      obtain ⟨key, k, x, f1, f2, f3⟩ := hG.pairs j b e1
      obtain ⟨qv, g1, g2, g3⟩ := LiI.paired_get kv e2
      rw [f1] at g1
      cases g1
      have rk : RelV (kV pk.1) key := by
        rw [g2]
        exact relV_key (show keyIs k key = true from f2)
      exact ⟨small (by show 2 ≤ 1000; decide), [key, x], .cons rk (.cons g3 .nil), ⟨_, f3, rfl, _, rfl⟩⟩
    · rw [off b hb] at q
      exact (I.hok b u q).stay (fun d v _ y => hk d v y) (fun d y => kp d _ y) fun d xs y => kp d _ y
theorem paired_same {H2 H3 : Hp} {as : List Addr} {kvs : List (Key × V)} (pr : Paired (fun (t : Addr) (y : Key × V) => H2 t = some (.tup [kV y.1, y.2])) as kvs) (sn : Same H2 H3) :
    Paired (fun (t : Addr) (y : Key × V) => H3 t = some (.tup [kV y.1, y.2])) as kvs := by
  induction pr with
  | nil => exact .nil
  | cons h _ ih => exact .cons (sn _ _ h) ih
/-- tuple(e.items()) -/
def tTupItems (te : TE) : TE := fun σ H Q => te σ H fun x H1 => ∃ (d : Addr) (kvs : List (Key × V)), x = .ref d ∧ H1 d = some (.dK kvs) ∧
  ∀ (q : Addr) (H2 : Hp) (as : List Addr), Same H1 H2 → H1 q = none → H2 q = some (.tup (as.map V.ref)) → Paired (fun (t : Addr) (y : Key × V) => H2 t = some (.tup [kV y.1, y.2])) as kvs → Q (.ref q) H2
theorem pe_tupItems (hc : X.calm = true) (he : PE X e te) (hg : Gl X "tuple") (hm : X.mg "tuple" = none) (hv : bootBuiltins "tuple" = some (.type "tuple")) (hb : attributeBase e "items" X.env (eval e X.env) = eval e X.env := by rfl) (hl : (apos.endLine == cpos.line) = true := by rfl)
    (hs : starEach [.Call (.Attribute e "items" apos) [] [] cpos] X.env = (false, eval (.Call (.Attribute e "items" apos) [] [] cpos) X.env) :: starEach [] X.env := by rfl) :
    PE X (.Call (.Name "tuple" p) [.Call (.Attribute e "items" apos) [] [] cpos] [] pos) (tTupItems te) := by
  refine ⟨fun pins s σ H Q I hq => wpAny_Call_Name_kw (ld_blt I hg hm hv (PyProof.Rows.callWith_type1 ?_ hs rfl))⟩
  rw [hs]
  refine Calls.spliced_cons (wpAny_Call_method (T := "dict") (id := "dict.items") hb rfl hl F.plainAttrs_dict F.slot_dict_items F.type_dict_items (thn (he.run pins s σ H _ I hq) fun u s1 ⟨x, H1, I1, rx, d, kvs, ex, hd, q⟩ => ?_))
  subst ex
  obtain rfl : u = Value.ref d := rx
  obtain ⟨hz, lo, vs, kv, hdo⟩ := I1.hok d _ hd
  obtain ⟨ep, hat⟩ := hdo.dictAt
  have lk : kvs.length = vs.length := Paired.length kv
  have I2 : Inv X pins σ H1 { s1 with heap := s1.heap.push { cls := .type "dict_items", data := .fields #[.ref d] } } := I1.kept (t' := s1.toks) fun b ob z => Heap.get?_push_of_some _ z
  refine ⟨hdo.typeIs, hdo.mapOf.noDict, ?_⟩
  refine method_meetsIn F.slot_dict_items F.entry_dict_items rfl (PySem.evalArgs_none ⟨rfl, hdo.typeIs, F.args_dict_items_1 _, _, meets_dict_items (mixKind X.prog X.w) d lo, ⟨vs, hdo⟩, Calls.spliced_nil ?_⟩)
  have n1 : (s1.heap.push { cls := .type "dict_items", data := .fields #[.ref d] }).get? s1.heap.objs.size = some { cls := .type "dict_items", data := .fields #[.ref d] } := Heap.get?_push_size _ rfl
  refine call_tuple_by (s := { s1 with heap := s1.heap.push { cls := .type "dict_items", data := .fields #[.ref d] } }) (T := "dict_items") (C := fun h' us => (∀ b o, (s1.heap.push { cls := .type "dict_items", data := .fields #[.ref d] }).get? b = some o → h'.get? b = some o) ∧ ∃ as : List Addr, us = as.map Value.ref ∧ as.length = vs.length ∧
      PySem.W.KdxG (mixKind X.prog X.w) vs (s1.heap.push { cls := .type "dict_items", data := .fields #[.ref d] }).objs.size h' as) ⟨_, n1, rfl⟩ (.inr rfl)
    (fun E' A' R hA hR => PySem.W.kdx_collect (knd := mixKind X.prog X.w) (kvs := vs) (ep := ep) (hA.trans (I1.ok.hd hc)) ⟨_, n1, rfl, rfl⟩ (hat.push _) (by rw [← lk]; exact hz) fun h' tk as k l g => hR h' tk _ ⟨k, as, rfl, l, g⟩) (fun h' us hC => ?_) fun h' tk us hC => ?_
  · obtain ⟨_, as, rfl, l, _⟩ := hC
    rw [List.length_map, l, ← lk]
    exact hz
  · obtain ⟨k, as, rfl, l, g⟩ := hC
    obtain ⟨H2, s2, pr, off, new, J⟩ := pairs_laid (tk := tk) I2 kv k l (Nat.le_refl _) g
    have hn : H2 h'.objs.size = none := J.hok.fresh (Nat.le_refl _)
    have hn1 : H1 h'.objs.size = none := s2.free hn
    refine ⟨.ref h'.objs.size, upd H2 h'.objs.size (.tup (as.map V.ref)), J.laid (t' := tk) (fun b o e => Heap.get?_push_of_some _ e) (Nat.le_refl _) (show ObjOk X.prog X.w _ _ _ (.tup (as.map V.ref)) from ⟨by rw [List.length_map, l, ← lk]; exact hz, as.map Value.ref, LiI.vals_refs as, IsTup.new _ _⟩), rfl, q _ _ as (s2.trans (same_new hn _)) hn1 upd_same ?_⟩
    exact paired_same pr (same_new hn (.tup (as.map V.ref)))
end
end Fv
set_option Elab.async false
set_option linter.all false
set_option maxRecDepth 100000
set_option maxHeartbeats 4000000
namespace Fv
open PySem L2 TL
/-! ### Parser.__init__ -/
abbrev nl : Str := "\n"
abbrev s_Parser_init : Stmt := inClass (top 41) 0
abbrev sc_Parser_initN : List Str := ["self", "text"]
theorem sc_Parser_init : FnScope sc_Parser_initN ["self", "text"] (defScope s_Parser_init) := ⟨rfl, rfl, rfl, by decide +kernel, rfl, by decide +kernel, by decide +kernel⟩
def spPInit (C : Addr) : Sp := fun vs H Q _ => ∃ (p dx : Addr) (z : Str), vs = [.ref p, .str z] ∧ H p = some (.ins C dx []) ∧ z.length ≤ 10000 ∧
  ∀ (l m s t : Addr) (H' : Hp), H l = none → H m = none → H s = none → H t = none → m ≠ s → m ≠ t → s ≠ t → H' p = some (.ins C dx (pf l 1 "" m s t 0)) → H' l = some (.lst ((Txt.split z nl).map V.str)) → H' m = some (.dK []) → H' s = some (.dK []) → H' t = some (.dK []) → But p H H' → Q .non H'
section
variable {P : Program} {w : World} {K : PySem.W.Frag} {mg : Str → Option Value} {base : Heap}
theorem free_but {p a : Addr} {H H' : Hp} (e : But p H H') (n : a ≠ p) (h : H' a = none) : H a = none := by
  cases q : H a with
  | none => rfl
  | some o => rw [e a o q n] at h; cases h
theorem fldV {D : Ends} {σ : L2.St} {H2 : Hp} {tv : TE} {v : V} {p C dx : Addr} {F : List (Str × V)} {x : Str} (h0 : σ[0]? = some (some (.ref p))) (cl : Cls K C) (na : NoAttr K C x) (hl : F.length < 1000) (p2 : H2 p = some (.ins C dx F)) (hv : ∀ Q : VK, Q v H2 → tv σ H2 Q)
    (q : ∀ H3 : Hp, H3 p = some (.ins C dx (putF x v F)) → But p H2 H3 → D.nx σ H3) : sFld K (tVar 0) tv x D σ H2 :=
  hv _ ⟨_, h0, p, C, dx, F, rfl, p2, cl, na, hl, q _ upd_same But.upd⟩
theorem fldD {D : Ends} {σ : L2.St} {H2 : Hp} {p C dx : Addr} {F : List (Str × V)} {x : Str} (h0 : σ[0]? = some (some (.ref p))) (cl : Cls K C) (na : NoAttr K C x) (hl : F.length < 1000) (p2 : H2 p = some (.ins C dx F))
    (q : ∀ (m : Addr) (H3 : Hp), H2 m = none → H3 m = some (.dK []) → H3 p = some (.ins C dx (putF x (.ref m) F)) → But p H2 H3 → D.nx σ H3) : sFld K (tVar 0) tDNewK x D σ H2 := fun m hm => by
  have n : p ≠ m := ne_of_none p2 hm
  exact ⟨_, h0, p, C, dx, F, rfl, by rw [upd_ne n]; exact p2, cl, na, hl, q m _ hm (by rw [upd_ne n.symm]; exact upd_same) upd_same ((But.of_same (same_new hm _)).trans But.upd)⟩
theorem fldVs {D : Ends} {u : TS} {σ : L2.St} {H2 : Hp} {tv : TE} {v : V} {p C dx : Addr} {F : List (Str × V)} {x : Str} (h0 : σ[0]? = some (some (.ref p))) (cl : Cls K C) (na : NoAttr K C x) (hl : F.length < 1000) (p2 : H2 p = some (.ins C dx F)) (hv : ∀ Q : VK, Q v H2 → tv σ H2 Q)
    (q : ∀ H3 : Hp, H3 p = some (.ins C dx (putF x v F)) → But p H2 H3 → u D σ H3) : tSeq (sFld K (tVar 0) tv x) u D σ H2 := fldV h0 cl na hl p2 hv q
theorem fldDs {D : Ends} {u : TS} {σ : L2.St} {H2 : Hp} {p C dx : Addr} {F : List (Str × V)} {x : Str} (h0 : σ[0]? = some (some (.ref p))) (cl : Cls K C) (na : NoAttr K C x) (hl : F.length < 1000) (p2 : H2 p = some (.ins C dx F))
    (q : ∀ (m : Addr) (H3 : Hp), H2 m = none → H3 m = some (.dK []) → H3 p = some (.ins C dx (putF x (.ref m) F)) → But p H2 H3 → u D σ H3) : tSeq (sFld K (tVar 0) tDNewK x) u D σ H2 := fldD h0 cl na hl p2 q
theorem ok_parser_init {f C : Addr} {fd : FuncData} (F : Fun K "__init__" "Parser.__init__" s_Parser_init f fd) (T : PTxt K C) : FnOk P w K mg base CX0 1 f fd ["self", "text"] (spPInit C) := by
  refine F.ok sc_Parser_init (fun vs H Q E h => ?_) (fun cdv A outer st H vs Q E hr h => ?_)
  · obtain ⟨p, dx, z, rfl, _⟩ := h
    rfl
  obtain ⟨p, dx, z, rfl, hp, hz, q⟩ := h
  refine ⟨_, (pss_cons (ps_fld (pv 0) (pe_split (pv 1) pe_str) rfl)
(pss_cons (ps_fld (pv 0) pe_int rfl)
(pss_cons (ps_fld (pv 0) pe_str rfl)
(pss_cons (ps_fld (pv 0) pe_dnewK rfl)
(pss_cons (ps_fld (pv 0) pe_dnewK rfl)
(pss_cons (ps_fld (pv 0) pe_dnewK rfl)
(pss_one (ps_fld (pv 0) pe_int rfl)))))))), ?_⟩
  refine ⟨_, rfl, ⟨_, rfl⟩, _, _, rfl, rfl, by decide +kernel, sizeLine_big (by omega), fun l hl => ?_⟩
  have n1 : p ≠ l := ne_of_none hp hl
  refine ⟨_, rfl, p, C, dx, _, rfl, (by rw [upd_ne n1]; exact hp), T.cl, T.nLines, (by show 0 < 1000; decide), ?_⟩
  have b1 : But p H (upd (upd H l (.lst ((Txt.split z nl).map V.str))) p (HO.ins C dx (putF "lines" (.ref l) []))) := (But.of_same (same_new hl _)).trans But.upd
  have l1 : (upd (upd H l (.lst ((Txt.split z nl).map V.str))) p (HO.ins C dx (putF "lines" (.ref l) []))) l = some (.lst ((Txt.split z nl).map V.str)) := by rw [upd_ne n1.symm]; exact upd_same
  refine fldVs (tv := tC (.int 1)) (v := .int 1) (F := putF "lines" (.ref l) []) rfl T.cl T.nNumber (by show 1 < 1000; decide) upd_same (fun Q k => k) fun H2 p2 b2 => ?_
  refine fldVs (tv := tC (.str "")) (v := .str "") rfl T.cl T.nSymbols (by show 2 < 1000; decide) p2 (fun Q k => k) fun H3 p3 b3 => ?_
  refine fldDs rfl T.cl T.nMosts (by show 3 < 1000; decide) p3 fun m H4 hm m4 p4 b4 => ?_
  refine fldDs rfl T.cl T.nStarts (by show 4 < 1000; decide) p4 fun s H5 hs s5 p5 b5 => ?_
  refine fldDs rfl T.cl T.nStatements (by show 5 < 1000; decide) p5 fun t H6 ht t6 p6 b6 => ?_
  refine fldV (tv := tC (.int 0)) (v := .int 0) rfl T.cl T.nFirst (by show 6 < 1000; decide) p6 (fun Q k => k) fun H7 p7 b7 => ?_
  have b03 := (b1.trans b2).trans b3
  have b04 := b03.trans b4
  have b05 := b04.trans b5
  have nm : m ≠ p := (ne_of_none p3 hm).symm
  have ns : s ≠ p := (ne_of_none p4 hs).symm
  have nt : t ≠ p := (ne_of_none p5 ht).symm
  have m5 := b5 _ _ m4 nm
  have s6 := b6 _ _ s5 ns
  refine q l m s t H7 hl (free_but b03 nm hm) (free_but b04 ns hs) (free_but b05 nt ht) (ne_of_none m4 hs) (ne_of_none m5 ht) (ne_of_none s5 ht) ?_ ?_ ?_ ?_ ?_ (b05.trans (b6.trans b7))
  · rw [p7]
    exact congrArg (fun l => some (HO.ins C dx l)) (by kernel_rfl)
  · exact ((((b2.trans b3).trans b4).trans b5).trans (b6.trans b7)) _ _ l1 n1.symm
  · exact (b6.trans b7) _ _ m5 nm
  · exact b7 _ _ s6 ns
  · exact b7 _ _ t6 nt
end
end Fv
set_option Elab.async false
set_option linter.all false
set_option maxRecDepth 100000
set_option maxHeartbeats 4000000
namespace Fv
open PySem L2 TL
/-! ### parse -/
/-- a text that is a program -/
structure TextOk (sy : Str) (ms : NV) (ps : List PartR) (ma : List Row) (nm : Nat × List Tr) (rows : List Row) (z : Str) : Prop where
  ok : ProgOk sy ms ps ma nm rows
  eq : z = Txt.join nl (rows.map lineOf)
  len : z.length ≤ 10000
  few : rows.length ≤ 1000
  short : ∀ r ∈ rows, (lineOf r).length ≤ 10000
  no : ∀ r ∈ rows, 10 ∉ tl (lineOf r)
theorem tl_nl : tl nl = [10] := by decide +kernel
theorem TextOk.lines {sy : Str} {ms : NV} {ps : List PartR} {ma : List Row} {nm : Nat × List Tr} {rows : List Row} {z : Str} (h : TextOk sy ms ps ma nm rows z) : Txt.split z nl = rows.map lineOf := by
  rw [h.eq]
  refine split_join tl_nl (by decide +kernel) (fun e => ?_) (fun p hp => ?_)
  · have := h.ok.eq
    rw [List.map_eq_nil_iff.mp e] at this
    unfold headRows at this
    cases this
  · obtain ⟨r, hr, rfl⟩ := List.mem_map.mp hp
    exact h.no r hr
abbrev s_parse : Stmt := top 39
abbrev sc_parseN : List Str := ["text", "parser"]
theorem sc_parse : FnScope sc_parseN ["text"] (defScope s_parse) := ⟨rfl, rfl, rfl, by decide +kernel, rfl, by decide +kernel, by decide +kernel⟩
def spParse (C CS : Addr) : Sp := fun vs H Q _ => ∃ (sy : Str) (ms : NV) (ps : List PartR) (ma : List Row) (nm : Nat × List Tr) (rows : List Row) (z : Str), vs = [.str z] ∧ TextOk sy ms ps ma nm rows z ∧
  ∀ (p l m s t : Addr) (H' : Hp) (k : Nat) (tt : List (List AT)) (mt : List AT) (cnt : Nat), Same H H' → SAt C CS H' p l m s t k sy (((prefRows sy ms ps).length + 2 : Nat) : Int) ms (startsOf ms ps) rows (kvsOf tt ++ entsAll mt) cnt → Blks CS (New H) H' ps tt → Blk CS (New H) H' nm.2 mt → cnt ≤ 20 → Q (.ref p) H'
section
variable {P : Program} {w : World} {K : PySem.W.Frag} {mg : Str → Option Value} {base : Heap}
theorem ok_parse {f C CS : Addr} {fd : FuncData} (F : Fun K "parse" "parse" s_parse f fd) (T : Bare mg) (hisi : mg "isinstance" = none) (TP : PTxt K C) (cc : C ≠ CS) (MK : Maker P w K mg base C 1 "Parser" ["self", "text"] (spPInit C)) (MR : Meter P w K mg base C 15 "read_program" ["self"] (spProg C CS)) :
    FnOk P w K mg base CX0 16 f fd ["text"] (spParse C CS) := by
  refine F.ok sc_parse (fun vs H Q E h => ?_) (fun cdv A outer st H vs Q E hr h => ?_)
  · obtain ⟨sy, ms, ps, ma, nm, rows, z, rfl, _⟩ := h
    rfl
  obtain ⟨sy, ms, ps, ma, nm, rows, z, rfl, TO, q⟩ := h
  refine ⟨_, (pss_cons (ps_if (pt_not (pt_val (pe_callB call_isi (by rfl) hisi (by decide +kernel) (pa_cons (pv 0) (pa_cons (pe_bltn (v := .ty "str") (u := .type "str") (by rfl) T.str (by decide +kernel) rfl) pa_nil)))))
(pss_one ps_never)
pss_nil)
(pss_cons (ps_set (i := 1) sc_parse.nd rfl (Or.inl rfl) (pe_make MK.mkr MK.ok (hr.mono (by decide)) rfl MK.mg MK.b .nil pass0 (pa_cons (pv 0) pa_nil)))
(pss_cons (ps_expr (pe_meth0 (pv 1) TP.cl MR.m MR.ok hr MR.b .nil pass0))
(pss_one (ps_ret (pv 1)))))), ?_⟩
  refine ⟨_, rfl, .str z, .ty "str", .type "str", .type "str", true, rfl, .ty "str", .base (.str z), kit_ty (by decide +kernel), ?_⟩
  refine ⟨true, rfl, iteF ?_⟩
  refine ⟨_, rfl, fun p dx hp hdx hne => ?_⟩
  have npd : p ≠ dx := fun z => hne z.symm
  have k0 : Same H (upd (upd H dx (.own p)) p (.ins C dx [])) := (same_new hdx _).trans (same_new (by rw [upd_ne npd]; exact hp) _)
  refine ⟨p, dx, z, rfl, upd_same, TO.len, fun l m s t H2 hl hm hs ht hms hmt hst p2 l2 m2 s2 t2 b2 => ⟨rfl, ?_⟩⟩
  have hl0 : H l = none := k0.free hl
  have hm0 : H m = none := k0.free hm
  have hs0 : H s = none := k0.free hs
  have ht0 : H t = none := k0.free ht
  have kI : ∀ b o, H b = some o → H2 b = some o := fun b o h => b2 b o (k0 b o h) (ne_of_none h hp)
  refine ⟨_, rfl, p, dx, _, rfl, p2, (by kernel_rfl), ?_⟩
  rw [TO.lines] at l2
  have S2 : SAt C CS H2 p l m s t 0 "" 0 [] [] rows [] 0 := ⟨⟨⟨dx, p2⟩, m2, s2, List.nodup_nil, List.nodup_nil⟩, ⟨l2, by rw [List.length_map]; exact TO.few, fun x hx => by
      obtain ⟨r, hr, rfl⟩ := List.mem_map.mp hx
      exact TO.short r hr⟩, t2, rfl, fun kv h => (by cases h), fun kv h => (by cases h), hmt, hst, cc⟩
  refine ⟨p, l, m, s, t, "", sy, 0, ms, ps, ma, nm, rows, rfl, S2, hms, TO.ok, fun H3 k tt mt cnt k3 S3 B3 b3 hcnt => ?_⟩
  have hN : ∀ b, New H2 b → New H b := fun b hb => by
    cases e : H b with
    | none => exact e
    | some o => have z : H2 b = none := hb; rw [kI b o e] at z; cases z
  refine ⟨_, rfl, q p l m s t H3 k tt mt cnt (fun b o h => ?_) S3 (B3.wide hN) (b3.base hN) hcnt⟩
  exact k3 b o (kI b o h) (ne_of_none h hp) (ne_of_none h hm0) (ne_of_none h hs0) (ne_of_none h ht0)
end
end Fv
set_option Elab.async false
set_option linter.all false
set_option maxRecDepth 100000
set_option maxHeartbeats 4000000
namespace Fv
open PySem L2 TL
/-! ### letters_of -/
theorem same_upd {H H' : Hp} {p : Addr} {o : HO} (e : Same H H') (h : H p = none) : Same H (upd H' p o) := fun b u q => by rw [upd_ne (ne_of_none q h)]; exact e _ _ q
theorem sqL_same {K : PySem.W.Frag} {H H' : Hp} {a : Addr} {xs : List V} (e : Same H H') (h : SqL K H a xs) : SqL K H' a xs := by
  rcases h with (h | ⟨o, h⟩) | h
  · exact .inl (.inl (e _ _ h))
  · exact .inl (.inr ⟨o, e _ _ h⟩)
  · exact .inr h
/-- a comprehension over a list that gathers texts -/
theorem lc_sel {K : PySem.W.Frag} {a D : Addr} {xs : List V} {σ : L2.St} {H1 : Hp} {Qd : Hp → Prop} {s : Nat} {vs : List Nat} {tt : TT} {te : TE} (hS : SqL K H1 a xs) (hD : H1 D = none) (hn : xs.length ≤ 10000) (hw : ∀ v, wipe ((wipe σ vs).set s (some v)) vs = wipe σ vs)
    (he : ∀ x ∈ xs, ∀ H : Hp, Same H1 H → ∃ b : Bool, (∀ R : Bool → Hp → Prop, R b H → tt ((wipe σ vs).set s (some x)) H R) ∧ (b = true → ∃ z : Str, ∀ Q : VK, Q (.str z) H → te ((wipe σ vs).set s (some x)) H Q))
    (hd : ∀ zs : List Str, zs.length ≤ xs.length → Qd (upd H1 D (.lst (zs.map V.str)))) :
    ∃ W : Nat → Nat → Hp → Prop, (∃ m, W 0 m (upd H1 D (.lst []))) ∧ ∀ i m H, W i m H →
      ((Itl K a).stop i H ∧ Qd H) ∨ ((Itl K a).go i H ∧ ∃ Nx : Hp → Prop, (∀ H', Nx H' → ∃ m', m' < m ∧ W (i + 1) m' H') ∧ ∀ x H', (Itl K a).yld i H x H' → gName s x (wipe σ vs) H' fun σ2 H2 => wipe σ2 vs = wipe σ vs ∧ tt σ2 H2 fun b H3 =>
        if b = true then te σ2 H3 fun y H4 => ∃ acc, H4 D = some (.lst acc) ∧ acc.length < sizeLine ∧ Nx (upd H4 D (.lst (acc ++ [y]))) else Nx H3) := by
  refine lc_it (walk_list (xs := xs)) (fun i H => ∃ zs : List Str, zs.length ≤ i ∧ H = upd H1 D (.lst (zs.map V.str))) ⟨[], Nat.le_refl _, rfl⟩ (fun i H hi p => ?_) (fun i x H H' hi p y => ?_) (fun H p => ?_)
  · obtain ⟨zs, h1, rfl⟩ := p
    exact sqL_same (same_new hD _) hS
  · obtain ⟨zs, h1, rfl⟩ := p
    obtain ⟨rfl, hx⟩ := y
    refine ⟨hw _, ?_⟩
    obtain ⟨b, h2, h3⟩ := he x (List.mem_of_getElem? hx) _ (same_new hD _)
    refine h2 _ ?_
    cases b with
    | false => exact iteF ⟨zs, by omega, rfl⟩
    | true =>
      obtain ⟨z, h4⟩ := h3 rfl
      refine iteT (h4 _ ⟨_, upd_same, ?_, zs ++ [z], ?_, ?_⟩)
      · rw [List.length_map, sizeLine_eq]
        omega
      · rw [List.length_append]
        exact Nat.succ_le_succ h1
      · rw [upd_upd, List.map_append] <;> rfl
  · obtain ⟨zs, h1, rfl⟩ := p
    exact hd zs h1
def gf (z sy : Str) (c q t : Addr) (fi : Int) : List (Str × V) :=
  [("text", .str z), ("symbols", .str sy), ("cells", .ref c), ("parts", .ref q), ("statements", .ref t), ("first", .int fi)]
theorem gf_statements {z sy : Str} {c q t : Addr} {fi : Int} : (gf z sy c q t fi).lookup ("statements" : Str) = some (V.ref t) := by kernel_rfl
theorem gf_symbols {z sy : Str} {c q t : Addr} {fi : Int} : (gf z sy c q t fi).lookup ("symbols" : Str) = some (V.str sy) := by kernel_rfl
structure GTxt (K : PySem.W.Frag) (C : Addr) : Prop where
  cl : Cls K C
  nText : NoAttr K C "text"
  nSymbols : NoAttr K C "symbols"
  nCells : NoAttr K C "cells"
  nParts : NoAttr K C "parts"
  nStatements : NoAttr K C "statements"
  nFirst : NoAttr K C "first"
  nLetters : NoAttr K C "letters"
abbrev s_letters_of : Stmt := top 44
abbrev sc_letters_ofN : List Str := ["program", "statements", "letters", "statement"]
theorem sc_letters_of : FnScope sc_letters_ofN ["program"] (defScope s_letters_of) := ⟨rfl, rfl, rfl, by decide +kernel, rfl, by decide +kernel, by decide +kernel⟩
def spLetters (CP CS : Addr) : Sp := fun vs H Q _ => ∃ (a dx t c q : Addr) (z sy : Str) (fi : Int) (kvs : List (Key × V)), vs = [.ref a] ∧ H a = some (.ins CP dx (gf z sy c q t fi)) ∧ H t = some (.dK kvs) ∧ kvs.length ≤ 20 ∧ sy.length ≤ 10 ∧ (∀ kv ∈ kvs, ∃ b, kv.2 = V.ref b ∧ WOk CS H b) ∧
  ∀ (r : Addr) (H' : Hp) (zs : List Str), Same H H' → H r = none → H' r = some (.tup (zs.map V.str)) → Q (.ref r) H'
section
variable {P : Program} {w : World} {K : PySem.W.Frag} {mg : Str → Option Value} {base : Heap}
theorem ok_letters_of {f CP CS : Addr} {fd : FuncData} (F : Fun K "letters_of" "letters_of" s_letters_of f fd) (T : Bare mg) (hset : mg "set" = none) (hsorted : mg "sorted" = none) (TG : GTxt K CP) (TS : STxt K CS) : FnOk P w K mg base CX0 1 f fd ["program"] (spLetters CP CS) := by
  refine F.ok sc_letters_of (fun vs H Q E h => ?_) (fun cdv A outer st H vs Q E hr h => ?_)
  · obtain ⟨a, dx, t, c, q, z, sy, fi, kvs, rfl, _⟩ := h
    rfl
  obtain ⟨a, dx, t, c, q, z, sy, fi, kvs, rfl, ha, ht, hk, hsy, hw, k⟩ := h
  refine ⟨_, (pss_cons (ps_set (i := 1) sc_letters_of.nd rfl (Or.inl rfl) (pe_listVals rfl (pe_fld (pv 0) rfl) (by rfl) T.list (by decide +kernel)))
(pss_cons (ps_setLc (i := 2) (own := [("statement", 3)]) (g := gName 3) rfl sc_letters_of.nd rfl rfl (sw_true rfl rfl rfl (by decide +kernel)) (pi_list (pv 1)) (blkOk_by (N := sc_letters_ofN) (sc := defScope s_letters_of) (by decide +kernel)) (fun _ _ _ _ _ => pg_name (i := 3) sc_letters_of.nd rfl (Or.inl rfl)) (fun _ _ _ _ _ => (pts_one (pt_cmpR op_eq (show PE _ _ (tFld K (tVar 3) "word") from pe_fld (pv 3) rfl) pe_str (nomark _)))) (fun _ _ _ _ _ => (show PE _ _ (tFld K (tVar 3) "given") from pe_fld (pv 3) rfl)))
(pss_cons (ps_if (pt_cmpR op_in_seq pe_str (pe_lc (own := [("statement", 3)]) (g := gName 3) rfl sc_letters_of.nd (pi_list (pv 1)) (blkOk_by (N := sc_letters_ofN) (sc := defScope s_letters_of) (by decide +kernel)) (fun _ _ _ _ _ => pg_name (i := 3) sc_letters_of.nd rfl (Or.inl rfl)) (fun _ _ _ _ _ => pts_nil) (fun _ _ _ _ _ => (show PE _ _ (tFld K (tVar 3) "word") from pe_fld (pv 3) rfl))) (by rfl))
(pss_one (ps_expr (pe_bm PySem.F.plainAttrs_list PySem.F.slot_list_extend PySem.F.type_list_extend mt_extend (pv 2) (pa_cons (pe_callTy (call_list_text rfl) (by rfl) T.list (by decide +kernel) (pa_cons (pe_fld (pv 0) rfl) pa_nil)) pa_nil))))
pss_nil)
(pss_one (ps_ret (pe_callTy call_tuple_of (by rfl) T.tuple (by decide +kernel) (pa_cons (pe_callB (cr_sortedG sorts_str rfl) (by rfl) hsorted (by decide +kernel) (pa_cons (pe_callTy (cr_setOf (kdStr _ _) rfl) (by rfl) hset (by decide +kernel) (pa_cons (pv 2) pa_nil)) pa_nil)) pa_nil))))))), ?_⟩
  refine ⟨_, rfl, a, CP, dx, _, _, rfl, ha, TG.cl, TG.nStatements, gf_statements, t, kvs, rfl, ht, fun l hl => ?_⟩
  obtain ⟨H1, e1⟩ : ∃ H1 : Hp, H1 = upd H l (.lst (kvs.map (·.2))) := ⟨_, rfl⟩
  have s1 : Same H H1 := by rw [e1]; exact same_new hl _
  have l1 : H1 l = some (.lst (kvs.map (·.2))) := by rw [e1]; exact upd_same
  have hlen : (kvs.map (·.2)).length ≤ 20 := by rw [List.length_map]; exact hk
  have st1 : ∀ x ∈ kvs.map (·.2), ∀ H2 : Hp, Same H1 H2 → ∃ b, x = V.ref b ∧ WOk CS H2 b := fun x hx H2 s2 => by
    obtain ⟨kv, hkv, rfl⟩ := List.mem_map.mp hx
    obtain ⟨b, e, dxs, ln, wd, g, li, lo, fo, h1, h2⟩ := hw kv hkv
    exact ⟨b, e, dxs, ln, wd, g, li, lo, fo, s2 _ _ (s1 _ _ h1), h2⟩
  refine ⟨_, rfl, l, rfl, ⟨_, .inl (.inl upd_same)⟩, ?_⟩
  rw [← e1]
  refine fun D hD => lc_sel (xs := kvs.map (·.2)) (.inl (.inl l1)) hD (by omega) (fun _ => rfl) (fun x hx H2 s2 => ?_) (fun zs hz => ?_)
  · obtain ⟨b, rfl, dxs, ln, wd, g, li, lo, fo, h1, h2⟩ := st1 x hx H2 s2
    refine ⟨decide (V.str wd = V.str "write"), fun R hR => ⟨_, rfl, b, CS, dxs, _, _, rfl, h1, TS.cl, TS.nWord, sf_word, rfl, _, rfl, hR⟩, fun e => ?_⟩
    obtain ⟨z, rfl⟩ := h2 (V.str.inj (of_decide_eq_true e))
    exact ⟨z, fun Q k => ⟨_, rfl, b, CS, dxs, _, _, rfl, h1, TS.cl, TS.nGiven, sf_given, k⟩⟩
  have hD0 : H D = none := s1.free hD
  obtain ⟨H2, e2⟩ : ∃ H2 : Hp, H2 = upd H1 D (.lst (zs.map V.str)) := ⟨_, rfl⟩
  have s2 : Same H1 H2 := by rw [e2]; exact same_new hD _
  have d2 : H2 D = some (.lst (zs.map V.str)) := by rw [e2]; exact upd_same
  refine ⟨_, rfl, l, rfl, ⟨_, .inl (.inl (same_new hD _ _ _ l1))⟩, ?_⟩
  rw [← e2]
  refine fun D2 hD2 => lc_sel (xs := kvs.map (·.2)) (.inl (.inl (s2 _ _ l1))) hD2 (by omega) (fun _ => rfl) (fun x hx H3 s3 => ?_) (fun ws hws => ?_)
  · obtain ⟨b, rfl, dxs, ln, wd, g, li, lo, fo, h1, h2⟩ := st1 x hx H3 (s2.trans s3)
    exact ⟨true, fun R hR => hR, fun _ => ⟨wd, fun Q k => ⟨_, rfl, b, CS, dxs, _, _, rfl, h1, TS.cl, TS.nWord, sf_word, k⟩⟩⟩
  have s3 : Same H2 (upd H2 D2 (.lst (ws.map V.str))) := same_new hD2 _
  have d3 := s3 _ _ d2
  have s03 := (s1.trans s2).trans s3
  refine ⟨D2, _, rfl, .inl (.inl (.inl upd_same)), rfl, flats _, _, rfl, ?_⟩
  generalize upd H2 D2 (.lst (ws.map V.str)) = H3 at s3 d3 s03 ⊢
  dsimp only
  rw [inV_str]
  refine ite2 (fun _ => ?_) (fun _ => ?_)
  · refine ⟨_, rfl, .inl ⟨rfl, _, .inl (.inl d3)⟩, _, rfl, a, CP, dx, _, _, rfl, s03 _ _ ha, TG.cl, TG.nSymbols, gf_symbols, sy, rfl, by omega, fun L hL => ?_⟩
    have nDL : D ≠ L := ne_of_none d3 hL
    have s04 := s03.trans (same_new hL (.lst ((tl sy).map fun c => V.str ⟨#[c]⟩)))
    have hT : (tl sy).length ≤ 10 := by rw [← len_tl]; exact hsy
    refine ⟨D, L, _, _, rfl, rfl, by rw [upd_ne nDL]; exact d3, upd_same, ?_, ?_⟩
    · rw [List.length_map, List.length_map]
      exact small (by omega)
    have eL : (zs.map V.str ++ (tl sy).map fun c => V.str ⟨#[c]⟩) = (zs ++ (tl sy).map fun c => (⟨#[c]⟩ : Str)).map V.str := by
      rw [List.map_append, List.map_map]
      rfl
    rw [eL]
    have s05 : Same H (upd (upd H3 L (.lst ((tl sy).map fun c => V.str ⟨#[c]⟩))) D (.lst ((zs ++ (tl sy).map fun c => (⟨#[c]⟩ : Str)).map V.str))) := same_upd s04 hD0
    have hN : (zs ++ (tl sy).map fun c => (⟨#[c]⟩ : Str)).length ≤ 30 := by
      rw [List.length_append, List.length_map]
      omega
    refine ⟨_, rfl, D, zs ++ (tl sy).map fun c => (⟨#[c]⟩ : Str), rfl, .inl (.inl upd_same), by omega, fun p kt g1 g2 g3 hp => ?_⟩
    refine ⟨p, kt, rfl, upd_same, by omega, fun ys p2 g4 g5 hp2 => ?_⟩
    refine ⟨p2, _, rfl, .inl ⟨.inl (.inl upd_same), fun r hr => ?_⟩⟩
    have sA := s05.trans (same_new hp (SetO2 (kdStr P w) p kt))
    have sB := sA.trans (same_new hp2 (.lst (ys.map V.str)))
    exact k r _ ys (sB.trans (same_new hr _)) (sB.free hr) upd_same
  · refine ⟨_, rfl, D, zs, rfl, .inl (.inl d3), by omega, fun p kt g1 g2 g3 hp => ?_⟩
    refine ⟨p, kt, rfl, upd_same, by omega, fun ys p2 g4 g5 hp2 => ?_⟩
    refine ⟨p2, _, rfl, .inl ⟨.inl (.inl upd_same), fun r hr => ?_⟩⟩
    have sA := s03.trans (same_new hp (SetO2 (kdStr P w) p kt))
    have sB := sA.trans (same_new hp2 (.lst (ys.map V.str)))
    exact k r _ ys (sB.trans (same_new hr _)) (sB.free hr) upd_same
end
end Fv
set_option Elab.async false
set_option linter.all false
set_option maxRecDepth 100000
set_option maxHeartbeats 4000000
namespace Fv
open PySem L2 TL
/-! ### Program.__init__ -/
abbrev s_Program_init : Stmt := inClass (top 43) 0
abbrev sc_Program_initN : List Str := ["self", "text", "parser"]
theorem sc_Program_init : FnScope sc_Program_initN ["self", "text"] (defScope s_Program_init) := ⟨rfl, rfl, rfl, by decide +kernel, rfl, by decide +kernel, by decide +kernel⟩
/-- a program's fields -/
def gl (z sy : Str) (c q t : Addr) (fi : Int) (r : Addr) : List (Str × V) :=
  [("text", .str z), ("symbols", .str sy), ("cells", .ref c), ("parts", .ref q), ("statements", .ref t), ("first", .int fi), ("letters", .ref r)]
/-- pairs at addresses -/
def Pairs (H : Hp) (as : List Addr) (kvs : List (Key × V)) : Prop := Paired (fun (t : Addr) (y : Key × V) => H t = some (.tup [kV y.1, y.2])) as kvs
/-- a program, made -/
structure ProgAt (CP CS : Addr) (H : Hp) (a : Addr) (z sy : Str) (ms : NV) (ps : List PartR) (nm : Nat × List Tr) : Prop where
  it : ∃ (dx c q t r : Addr) (as : List Addr) (tt : List (List AT)) (mt : List AT), H a = some (.ins CP dx (gl z sy c q t (((prefRows sy ms ps).length + 2 : Nat) : Int) r)) ∧ H c = some (.tup (as.map V.ref)) ∧ Pairs H as (kvS ms) ∧ H q = some (.tup ((ps.map (·.1)).map V.str)) ∧
    H t = some (.dK (kvsOf tt ++ entsAll mt)) ∧ (kvsOf tt ++ entsAll mt).length ≤ 20 ∧ Blks CS (fun _ => True) H ps tt ∧ Blk CS (fun _ => True) H nm.2 mt
def spGInit (CP CS : Addr) : Sp := fun vs H Q _ => ∃ (a dx : Addr) (sy : Str) (ms : NV) (ps : List PartR) (ma : List Row) (nm : Nat × List Tr) (rows : List Row) (z : Str), vs = [.ref a, .str z] ∧ H a = some (.ins CP dx []) ∧ TextOk sy ms ps ma nm rows z ∧
  ∀ H' : Hp, But a H H' → ProgAt CP CS H' a z sy ms ps nm → Q .non H'
theorem pairs_but {a : Addr} {H H' : Hp} {as : List Addr} {kvs : List (Key × V)} (pr : Pairs H as kvs) (b : But a H H') (ha : ∃ C dx fs, H a = some (.ins C dx fs)) : Pairs H' as kvs := by
  obtain ⟨C, dx, fs, ha⟩ := ha
  unfold Pairs at pr ⊢
  induction pr with
  | nil => exact .nil
  | cons h _ ih => exact .cons (b _ _ h (ne_of h ha (by intro z; cases z))) ih
theorem pairs_same {H H' : Hp} {as : List Addr} {kvs : List (Key × V)} (pr : Pairs H as kvs) (b : Same H H') : Pairs H' as kvs := by
  unfold Pairs at pr ⊢
  induction pr with
  | nil => exact .nil
  | cons h _ ih => exact .cons (b _ _ h) ih
section
variable {P : Program} {w : World} {K : PySem.W.Frag} {mg : Str → Option Value} {base : Heap}
theorem ok_program_init {f C CS CP : Addr} {fd : FuncData} (F : Fun K "__init__" "Program.__init__" s_Program_init f fd) (T : Bare mg) (TP : PTxt K C) (TG : GTxt K CP) (c1 : CP ≠ CS) (c2 : CP ≠ C)
    (CA : Callee P w K mg base 16 "parse" ["text"] (spParse C CS)) (CL : Callee P w K mg base 1 "letters_of" ["program"] (spLetters CP CS)) : FnOk P w K mg base CX0 17 f fd ["self", "text"] (spGInit CP CS) := by
  refine F.ok sc_Program_init (fun vs H Q E h => ?_) (fun cdv A outer st H vs Q E hr h => ?_)
  · obtain ⟨a, dx, sy, ms, ps, ma, nm, rows, z, rfl, _⟩ := h
    rfl
  obtain ⟨a, dx, sy, ms, ps, ma, nm, rows, z, rfl, ha, TO, q⟩ := h
  refine ⟨_, (pss_cons (ps_set (i := 2) sc_Program_init.nd rfl (Or.inl rfl) (pe_call CA.ok (hr.mono (by decide)) rfl CA.mg CA.kp CA.b .nil pass0 (pa_cons (pv 1) pa_nil)))
(pss_cons (ps_fld (pv 0) (pv 1) rfl)
(pss_cons (ps_fld (pv 0) (pe_fld (pv 2) rfl) rfl)
(pss_cons (ps_fld (pv 0) (pe_tupItems rfl (pe_fld (pv 2) rfl) (by rfl) T.tuple (by decide +kernel)) rfl)
(pss_cons (ps_fld (pv 0) (pe_callTy (call_tuple_d rfl) (by rfl) T.tuple (by decide +kernel) (pa_cons (pe_fld (pv 2) rfl) pa_nil)) rfl)
(pss_cons (ps_fld (pv 0) (pe_fld (pv 2) rfl) rfl)
(pss_cons (ps_fld (pv 0) (pe_fld (pv 2) rfl) rfl)
(pss_one (ps_fld (pv 0) (pe_call CL.ok (hr.mono (by decide)) rfl CL.mg CL.kp CL.b .nil pass0 (pa_cons (pv 0) pa_nil)) rfl))))))))), ?_⟩
  refine ⟨_, rfl, sy, ms, ps, ma, nm, rows, z, rfl, TO, fun p l m s t H1 k tt mt cnt kI S1 B1 b1' hcnt => ?_⟩
  have a1 : H1 a = some (.ins CP dx []) := kI _ _ ha
  obtain ⟨fi, efi⟩ : ∃ fi : Int, (((prefRows sy ms ps).length + 2 : Nat) : Int) = fi := ⟨_, rfl⟩
  obtain ⟨ss, ess⟩ : ∃ ss, startsOf ms ps = ss := ⟨_, rfl⟩
  have hss : ss.map (·.1) = ps.map (·.1) := by
    rw [← ess]
    exact starts_names _ _
  obtain ⟨kvs, ekv⟩ : ∃ kvs, kvsOf tt ++ entsAll mt = kvs := ⟨_, rfl⟩
  rw [efi, ess, ekv] at S1
  obtain ⟨⟨dp, hp⟩, mo, sto, _, _⟩ := id S1.pin
  have npa : p ≠ a := ne_of hp a1 (by intro e; injection e with e1; exact c2 e1.symm)
  have nin : ∀ {b o}, H1 b = some o → (∀ dx fs, o ≠ HO.ins CP dx fs) → b ≠ a := fun {b o} h n => ne_of h a1 (n _ _)
  have nma : m ≠ a := nin mo (by intro _ _ e; cases e)
  have nsa : s ≠ a := nin sto (by intro _ _ e; cases e)
  have nta : t ≠ a := nin S1.dt (by intro _ _ e; cases e)
  refine fldVs (tv := tVar 1) (v := .str z) rfl TG.cl TG.nText (by show 0 < 1000; decide) a1 (fun Q k => ⟨_, rfl, k⟩) fun H2 a2 b2 => ?_
  refine fldVs (tv := tFld K (tVar 2) "symbols") (v := .str sy) rfl TG.cl TG.nSymbols (by show 1 < 1000; decide) a2 (fun Q k => ⟨_, rfl, p, C, dp, _, _, rfl, b2 _ _ hp npa, TP.cl, TP.nSymbols, pf_symbols, k⟩) fun H3 a3 b3 => ?_
  have b13 := b2.trans b3
  refine ⟨_, rfl, p, C, dp, _, _, rfl, b13 _ _ hp npa, TP.cl, TP.nMosts, pf_mosts, m, kvS ms, rfl, b13 _ _ mo nma, fun c H4 as s4 hc c4 pr4 => ?_⟩
  have a4 := s4 _ _ a3
  have nca : c ≠ a := ne_of c4 a4 (by intro e; cases e)
  refine ⟨_, rfl, a, CP, dx, _, rfl, a4, TG.cl, TG.nCells, (by show 2 < 1000; decide), ?_⟩
  obtain ⟨H5, e5⟩ : ∃ H5 : Hp, H5 = upd H4 a (.ins CP dx (putF "cells" (.ref c) (putF "symbols" (.str sy) (putF "text" (.str z) [])))) := ⟨_, rfl⟩
  have b5 : But a H4 H5 := by rw [e5]; exact But.upd
  have a5 : H5 a = some (.ins CP dx (putF "cells" (.ref c) (putF "symbols" (.str sy) (putF "text" (.str z) [])))) := by rw [e5]; exact upd_same
  have b15 := (b13.trans (But.of_same s4)).trans b5
  have c5 := b5 _ _ c4 nca
  have pr5 : Pairs H5 as (kvS ms) := pairs_but pr4 b5 ⟨_, _, _, a4⟩
  rw [← e5]
  refine ⟨_, rfl, p, C, dp, _, _, rfl, b15 _ _ hp npa, TP.cl, TP.nStarts, pf_starts, s, kvS ss, rfl, b15 _ _ sto nsa, fun q1 hq => ?_⟩
  have nqa : a ≠ q1 := ne_of_none a5 hq
  refine ⟨_, rfl, a, CP, dx, _, rfl, by rw [upd_ne nqa]; exact a5, TG.cl, TG.nParts, (by show 3 < 1000; decide), ?_⟩
  obtain ⟨H6, e6⟩ : ∃ H6 : Hp, H6 = upd (upd H5 q1 (.tup ((kvS ss).map fun kv => kV kv.1))) a (.ins CP dx (putF "parts" (.ref q1) (putF "cells" (.ref c) (putF "symbols" (.str sy) (putF "text" (.str z) []))))) := ⟨_, rfl⟩
  have b6 : But a H5 H6 := by rw [e6]; exact (But.of_same (same_new hq _)).trans But.upd
  have a6 : H6 a = some (.ins CP dx (putF "parts" (.ref q1) (putF "cells" (.ref c) (putF "symbols" (.str sy) (putF "text" (.str z) []))))) := by rw [e6]; exact upd_same
  have q6 : H6 q1 = some (.tup ((kvS ss).map fun kv => kV kv.1)) := by rw [e6, upd_ne nqa.symm]; exact upd_same
  rw [← e6]
  have b16 := b15.trans b6
  refine fldVs (tv := tFld K (tVar 2) "statements") (v := .ref t) rfl TG.cl TG.nStatements (by show 4 < 1000; decide) a6 (fun Q k => ⟨_, rfl, p, C, dp, _, _, rfl, b16 _ _ hp npa, TP.cl, TP.nStatements, pf_statements, k⟩) fun H7 a7 b7 => ?_
  have b17 := b16.trans b7
  refine fldVs (tv := tFld K (tVar 2) "first") (v := .int fi) rfl TG.cl TG.nFirst (by show 5 < 1000; decide) a7 (fun Q k => ⟨_, rfl, p, C, dp, _, _, rfl, b17 _ _ hp npa, TP.cl, TP.nFirst, pf_first, k⟩) fun H8 a8 b8 => ?_
  have b18 := b17.trans b8
  have b58 := (b6.trans b7).trans b8
  have a8' : H8 a = some (.ins CP dx (gf z sy c q1 t fi)) := a8.trans (congrArg (fun l => some (HO.ins CP dx l)) (by kernel_rfl))
  have hsy : sy.length ≤ 10 := by have := TO.ok.s4; omega
  refine ⟨_, rfl, a, dx, t, c, q1, z, sy, fi, kvs, rfl, a8', b18 _ _ S1.dt nta, by rw [S1.few]; exact hcnt, hsy, fun kv hkv => ?_, fun r H9 zs s9 hr r9 => ?_⟩
  · obtain ⟨b, h1, dxs, ln, wd, g, li, lo, fo, h2, h3⟩ := S1.ok kv hkv
    exact ⟨b, h1, dxs, ln, wd, g, li, lo, fo, b18 _ _ h2 (nin h2 (by intro _ _ e; injection e with e1; exact c1 e1.symm)), h3⟩
  have a9 := s9 _ _ a8'
  refine ⟨_, rfl, a, CP, dx, _, rfl, a9, TG.cl, TG.nLetters, (by show 6 < 1000; decide), ?_⟩
  have b89 : But a H8 (upd H9 a (.ins CP dx (putF "letters" (.ref r) (gf z sy c q1 t fi)))) := (But.of_same s9).trans But.upd
  have b59 := b58.trans b89
  have b19 := b18.trans b89
  have kb : KB CS H1 (upd H9 a (.ins CP dx (putF "letters" (.ref r) (gf z sy c q1 t fi)))) := fun b o h k => b19 _ _ h (nin h (by
    rcases k with ⟨us, rfl⟩ | ⟨us, rfl⟩ | ⟨dx2, fs2, rfl⟩
    · intro _ _ e; cases e
    · intro _ _ e; cases e
    · intro _ _ e; injection e with e1; exact c1 e1.symm))
  refine q _ (fun b o h n => b19 _ _ (kI _ _ h) n) ⟨dx, c, q1, t, r, as, tt, mt, by rw [efi]; exact upd_same.trans (congrArg (fun l => some (HO.ins CP dx l)) (by kernel_rfl)), b59 _ _ c5 nca, pairs_but pr5 b59 ⟨_, _, _, a5⟩, ?_, by rw [ekv]; exact b19 _ _ S1.dt nta, by rw [ekv, S1.few]; exact hcnt, (B1.wide fun _ _ => trivial).map kb, (b1'.base fun _ _ => trivial).map kb⟩
  have e : (ps.map (·.1)).map V.str = (kvS ss).map fun kv => kV kv.1 := by
    rw [← hss]
    unfold kvS
    rw [List.map_map, List.map_map]
    rfl
  rw [e]
  exact ((b7.trans b8).trans b89) _ _ q6 nqa.symm
end
end Fv
set_option Elab.async false
set_option linter.all false
set_option maxRecDepth 100000
set_option maxHeartbeats 4000000
namespace Fv
open PySem L2 TL
/-! ### the table of statements -/
/-- what a step asks of a statement: its word, what is given, the first lines inside and otherwise (0: none), what follows -/
structure Nd where
  wd : Str
  gv : Gv
  li : Nat
  lo : Nat
  fo : Nat
def Tr.ln : Tr → Nat
  | .node ln _ _ _ _ => ln
def nxtT (e : Nat) : List Tr → Nat
  | [] => e
  | u :: _ => u.ln
mutual
def ndT : Tr → Nat → List (Nat × Nd)
  | .node ln wd gv ins oth, f => (ln, ⟨wd, gv, nxtT 0 ins, nxtT 0 oth, f⟩) :: (nds ins (bk wd ln f) ++ nds oth (bk wd ln f))
def nds : List Tr → Nat → List (Nat × Nd)
  | [], _ => []
  | t :: ts, e => ndT t (nxtT e ts) ++ nds ts e
end
theorem nxt_tr (e : Nat) : ∀ ts : List AT, nxtT e (trs ts) = nxt e ts
  | [] => by simp only [trs, nxtT, nxt]
  | t :: ts => by
    obtain ⟨a, ln, wd, g, gv, li, lo, ins, oth⟩ := t
    simp only [trs, nxtT, nxt, AT.tr, Tr.ln, AT.ln]
/-- a list of statements whose first line is known -/
def LsAt (CS : Addr) (H : Hp) (l : Addr) (k : Nat) : Prop := ∃ us, H l = some (.lst us) ∧ us.length ≤ 20 ∧ ((us = [] ∧ k = 0) ∨ (1 ≤ k ∧ ∃ (b dx : Addr) (r : List V) (wd : Str) (g : V) (li lo : Addr) (fo : Int), us = .ref b :: r ∧ H b = some (.ins CS dx (sf (k : Int) wd g li lo fo))))
/-- a statement, read and linked -/
def NdAt (CS : Addr) (H : Hp) (a : Addr) (n : Nat) (nd : Nd) : Prop := ∃ (dx : Addr) (g : V) (li lo : Addr), H a = some (.ins CS dx (sf (n : Int) nd.wd g li lo (nd.fo : Int))) ∧ GvAt H g nd.gv ∧ LsAt CS H li nd.li ∧ LsAt CS H lo nd.lo
/-- lines stand above 0 -/
def Tab (CS : Addr) (H : Hp) (kvs : List (Key × V)) (tab : List (Nat × Nd)) : Prop := Paired (fun (kv : Key × V) (q : Nat × Nd) => kv.1 = Sum.inl (q.1 : Int) ∧ ∃ a, kv.2 = .ref a ∧ NdAt CS H a q.1 q.2) kvs tab
theorem paired_app {α β : Type} {F : α → β → Prop} : ∀ {a : List α} {b : List β} {c : List α} {d : List β}, Paired F a b → Paired F c d → Paired F (a ++ c) (b ++ d)
  | _, _, _, _, .nil, h => h
  | _, _, _, _, .cons r t, h => .cons r (paired_app t h)
mutual
def posT : Tr → Prop
  | .node ln _ _ ins oth => 1 ≤ ln ∧ posA ins ∧ posA oth
def posA : List Tr → Prop
  | [] => True
  | t :: ts => posT t ∧ posA ts
end
theorem ls_of {CS : Addr} {G : Addr → Prop} {H : Hp} {l : Addr} {ts : List AT} (hl : H l = some (.lst (refs ts))) (h20 : ts.length ≤ 20) (h : TOks CS G H ts) (hp : posA (trs ts)) : LsAt CS H l (nxt 0 ts) := by
  refine ⟨refs ts, hl, by rw [show (refs ts).length = ts.length from List.length_map _]; exact h20, ?_⟩
  cases ts with
  | nil => exact .inl ⟨rfl, rfl⟩
  | cons t ts =>
    refine .inr ?_
    obtain ⟨a, ln, wd, g, gv, li, lo, ins, oth⟩ := t
    simp only [trs, posA, AT.tr, posT] at hp
    simp only [TOks, TOk] at h
    obtain ⟨⟨_, ⟨dx, fo, h1⟩, _⟩, _⟩ := h
    exact ⟨hp.1.1, a, dx, refs ts, wd, g, li, lo, fo, rfl, h1⟩
theorem fo_eq {CS : Addr} {H : Hp} {a dx : Addr} {ln fo : Int} {wd : Str} {g : V} {li lo : Addr} {k : Nat} (h : H a = some (.ins CS dx (sf ln wd g li lo fo))) (f : FoAt CS H a k) : fo = (k : Int) := by
  obtain ⟨dx2, ln2, wd2, g2, li2, lo2, h2⟩ := f
  rw [h] at h2
  injection Option.some.inj h2 with _ _ q2
  unfold sf at q2
  simp only [List.cons.injEq, Prod.mk.injEq, V.int.injEq, true_and, and_true] at q2
  exact q2.2.2.2.2.2
mutual
theorem tab_t {CS : Addr} {G : Addr → Prop} {H : Hp} : ∀ (t : AT) (f : Nat), TOk CS G H t → LkT CS H t f → posT t.tr → Tab CS H (ents t) (ndT t.tr f)
  | .node a ln wd g gv li lo ins oth, f, h, k, p => by
    simp only [TOk] at h
    simp only [LkT] at k
    simp only [AT.tr, posT] at p
    simp only [ents, AT.tr, ndT]
    obtain ⟨_, ⟨dx, fo, h1⟩, h2, h3, h4, h5, h6, h7, h8⟩ := h
    have e := fo_eq h1 k.1
    subst e
    refine .cons ⟨rfl, a, rfl, dx, g, li, lo, h1, h2, ?_, ?_⟩ (paired_app (tab_all ins _ h7 k.2.1 p.2.1) (tab_all oth _ h8 k.2.2 p.2.2))
    · show LsAt CS H li (nxtT 0 (trs ins))
      rw [nxt_tr]
      exact ls_of h3 h5.1 h7 p.2.1
    · show LsAt CS H lo (nxtT 0 (trs oth))
      rw [nxt_tr]
      exact ls_of h4 h6 h8 p.2.2
theorem tab_all {CS : Addr} {G : Addr → Prop} {H : Hp} : ∀ (ts : List AT) (f : Nat), TOks CS G H ts → Lk CS H ts f → posA (trs ts) → Tab CS H (entsAll ts) (nds (trs ts) f)
  | [], _, _, _, _ => by
    simp only [entsAll, trs, nds]
    exact .nil
  | t :: ts, f, h, k, p => by
    simp only [TOks] at h
    simp only [Lk] at k
    simp only [trs, posA] at p
    simp only [entsAll, trs, nds]
    rw [nxt_tr]
    exact paired_app (tab_t t _ h.1 k.1 p.1) (tab_all ts f h.2 k.2 p.2)
end
mutual
theorem Stm.pos {sy : Str} {ms ss : NV} : ∀ {d k : Nat} {seg : List Row} {n : Nat} {t : Tr}, Stm sy ms ss d k seg n t → posT t
  | _, _, _, _, _, .plain d k x r gv h1 h2 h3 h4 => by simp only [posT, posA]; exact ⟨by omega, trivial, trivial⟩
  | _, _, _, _, _, .loop d k r gv b n ts h1 h2 h3 => by simp only [posT, posA]; exact ⟨by omega, Bod.pos h3, trivial⟩
  | _, _, _, _, _, .cond d k r gv b n ts h1 h2 h3 => by simp only [posT, posA]; exact ⟨by omega, Bod.pos h3, trivial⟩
  | _, _, _, _, _, .both d k r gv b c n m ts us h1 h2 h3 h4 => by simp only [posT]; exact ⟨by omega, Bod.pos h3, Bod.pos h4⟩
theorem Bod.pos {sy : Str} {ms ss : NV} : ∀ {d k : Nat} {seg : List Row} {n : Nat} {ts : List Tr}, Bod sy ms ss d k seg n ts → posA ts
  | _, _, _, _, _, .one d k s n t h => by simp only [posA]; exact ⟨Stm.pos h, trivial⟩
  | _, _, _, _, _, .more d k s t n m u us h1 h2 => by simp only [posA]; exact ⟨Stm.pos h1, Bod.pos h2⟩
end
/-- the whole table -/
def tabOf (ps : List PartR) (nm : Nat × List Tr) : List (Nat × Nd) := (ps.map fun q => nds q.2.2.2 0).flatten ++ nds nm.2 0
theorem tab_parts {CS : Addr} {G : Addr → Prop} {H : Hp} : ∀ {ps : List PartR} {tt : List (List AT)}, Blks CS G H ps tt → (∀ q ∈ ps, posA q.2.2.2) → Tab CS H (kvsOf tt) (ps.map fun q => nds q.2.2.2 0).flatten := fun {ps tt} h => by
  unfold Blks at h
  induction h with
  | nil => exact fun _ => .nil
  | cons b _ ih =>
    intro hp
    unfold kvsOf
    rw [List.map_cons, List.flatten_cons, List.map_cons, List.flatten_cons]
    refine paired_app ?_ (ih fun q hq => hp q (List.mem_cons_of_mem _ hq))
    have hq := hp _ List.mem_cons_self
    rw [← b.tr] at hq ⊢
    exact tab_all _ _ b.ok b.lk hq
theorem ProgOk.tab {sy : Str} {ms : NV} {ps : List PartR} {ma : List Row} {nm : Nat × List Tr} {rows : List Row} (PO : ProgOk sy ms ps ma nm rows) {CS : Addr} {G : Addr → Prop} {H : Hp} {tt : List (List AT)} {mt : List AT} (hB : Blks CS G H ps tt) (hM : Blk CS G H nm.2 mt) : Tab CS H (kvsOf tt ++ entsAll mt) (tabOf ps nm) := by
  refine paired_app (tab_parts hB fun q hq => ?_) ?_
  · obtain ⟨i, hi⟩ := List.getElem?_of_mem hq
    obtain ⟨a, b, e⟩ := List.append_of_mem hq
    exact (PO.bod a q b e).pos
  · have hp := PO.mbod.pos
    rw [← hM.tr] at hp ⊢
    exact tab_all _ _ hM.ok hM.lk hp
/-- a row of the table -/
def rowAt (tab : List (Nat × Nd)) (n : Nat) : Option Nd := (tab.find? fun q => decide (q.1 = n)).map (·.2)
theorem Tab.at_ {CS : Addr} {H : Hp} {n : Nat} {nd : Nd} : ∀ {kvs : List (Key × V)} {tab : List (Nat × Nd)}, Tab CS H kvs tab → rowAt tab n = some nd → ∃ a, valV kvs (Sum.inl (n : Int) : Key) = some (.ref a) ∧ NdAt CS H a n nd := fun {kvs tab} h => by
  unfold Tab at h
  induction h with
  | nil => exact fun z => by cases z
  | @cons kv q kvs tab r _ ih =>
    intro z
    obtain ⟨h1, a, h2, h3⟩ := r
    by_cases e : q.1 = n
    · unfold rowAt at z
      rw [List.find?_cons, decide_eq_true e] at z
      have z2 : q.2 = nd := Option.some.inj z
      refine ⟨a, ?_, ?_⟩
      · rw [valV_pos (by rw [h1, e]), h2]
      · rw [← e, ← z2]
        exact h3
    · unfold rowAt at z
      rw [List.find?_cons, decide_eq_false e] at z
      obtain ⟨b, h4, h5⟩ := ih z
      refine ⟨b, ?_, h5⟩
      rw [valV_neg (fun y => e (by rw [h1] at y; have := Sum.inl.inj y; omega))]
      exact h4
/-- a statement stays -/
theorem LsAt.same {CS : Addr} {H H' : Hp} (s : Same H H') {l : Addr} {k : Nat} (h : LsAt CS H l k) : LsAt CS H' l k := by
  obtain ⟨us, h1, h2, h3⟩ := h
  refine ⟨us, s _ _ h1, h2, ?_⟩
  rcases h3 with h3 | ⟨hk, b, dx, r, wd, g, li, lo, fo, e, hb⟩
  · exact .inl h3
  · exact .inr ⟨hk, b, dx, r, wd, g, li, lo, fo, e, s _ _ hb⟩
theorem NdAt.same {CS : Addr} {H H' : Hp} (s : Same H H') {a : Addr} {n : Nat} {nd : Nd} (h : NdAt CS H a n nd) : NdAt CS H' a n nd := by
  obtain ⟨dx, g, li, lo, h1, h2, h3, h4⟩ := h
  exact ⟨dx, g, li, lo, s _ _ h1, h2.map fun b xs h => s _ _ h, h3.same s, h4.same s⟩
end Fv
set_option Elab.async false
set_option linter.all false
set_option maxRecDepth 100000
set_option maxHeartbeats 4000000
namespace Fv
open PySem PySem.Spec PyProof.Rows L2 TL
/-! ### a dict whose keys are nested tuples of whole numbers -/
mutual
/-- the value is the key -/
inductive NkV (H : Hp) : NestedKey → V → Prop where
  | int (i : Int) : NkV H (.num i) (.int i)
  | tup {a : Addr} {vs : List V} {ks : List NestedKey} : H a = some (.tup vs) → NkAll H ks vs → NkV H (.tup ks) (.ref a)
inductive NkAll (H : Hp) : List NestedKey → List V → Prop where
  | nil : NkAll H [] []
  | cons {k : NestedKey} {v : V} {ks : List NestedKey} {vs : List V} : NkV H k v → NkAll H ks vs → NkAll H (k :: ks) (v :: vs)
end
mutual
theorem NkV.map {H H' : Hp} (e : ∀ a vs, H a = some (.tup vs) → H' a = some (.tup vs)) : ∀ {k : NestedKey} {v : V}, NkV H k v → NkV H' k v
  | _, _, .int i => .int i
  | _, _, .tup h r => .tup (e _ _ h) (NkAll.map e r)
theorem NkAll.map {H H' : Hp} (e : ∀ a vs, H a = some (.tup vs) → H' a = some (.tup vs)) : ∀ {ks : List NestedKey} {vs : List V}, NkAll H ks vs → NkAll H' ks vs
  | _, _, .nil => .nil
  | _, _, .cons h r => .cons (NkV.map e h) (NkAll.map e r)
end
mutual
theorem NkV.is {P : Program} {w : World} {H : Hp} {h : Heap} (ok : HOk P w H h) : ∀ {k : NestedKey} {v : V} {u : Value}, NkV H k v → RelV v u → NestedIs h k u
  | _, _, u, .int i, r => by
    obtain ⟨t, rfl⟩ := r
    exact .int i t
  | _, _, u, .tup (a := a) ha hs, r => by
    cases (show u = Value.ref a from r)
    obtain ⟨_, its, rs, ⟨o, ho, hc, n, hd⟩⟩ := ok a _ ha
    refine .tup ho hc hd ?_
    rw [List.toList_toArray]
    exact NkAll.is ok hs rs
theorem NkAll.is {P : Program} {w : World} {H : Hp} {h : Heap} (ok : HOk P w H h) : ∀ {ks : List NestedKey} {vs : List V} {us : List Value}, NkAll H ks vs → Vals vs us → NestedAll h ks us
  | _, _, _, .nil, .nil => .nil
  | _, _, _, .cons h hs, .cons r rs => .cons (NkV.is ok h r) (NkAll.is ok hs rs)
end
abbrev KX := List (NestedKey × Addr × Value)
def KDct (P : Program) (w : World) (d : Addr) (xs : KX) : HO := .ext fun h => (d == sysModules) = false ∧ ∃ o es ep, h.get? d = some o ∧ o.ExactDict ∧ o.data = .dict es ep ∧ es.toList = xs.map (entryOfKey (nestedKind P w)) ∧ (xs.map (·.1)).Nodup
/-- at d stands the dict xs -/
def KAt (P : Program) (w : World) (H : Hp) (d : Addr) (xs : KX) : Prop := H d = some (KDct P w d xs) ∧ xs.length ≤ 4000000 ∧ ∀ x ∈ xs, NkV H x.1 (.ref x.2.1) ∧ x.1.depth ≤ 8
theorem KAt.rd {P : Program} {w : World} {H : Hp} {h : Heap} {d : Addr} {xs : KX} (ok : HOk P w H h) (k : KAt P w H d xs) : (d == sysModules) = false ∧ h.DictOfH (nestedKind P w) d xs := by
  obtain ⟨e, _, hk⟩ := k
  obtain ⟨⟨hd, o, es, ep, h1, h2, h3, h4, h5⟩, _⟩ := ok d _ e
  exact ⟨hd, o, es, ep, h1, h2, h3, h4, fun x hx => ⟨(hk x hx).1.is ok rfl, (hk x hx).2⟩, h5⟩
theorem KAt.map {P : Program} {w : World} {H H' : Hp} {d : Addr} {xs : KX} (k : KAt P w H d xs) (hd : H' d = some (KDct P w d xs)) (e : ∀ a vs, H a = some (.tup vs) → H' a = some (.tup vs)) : KAt P w H' d xs :=
  ⟨hd, k.2.1, fun x hx => ⟨(k.2.2 x hx).1.map e, (k.2.2 x hx).2⟩⟩
theorem KAt.same {P : Program} {w : World} {H H' : Hp} {d : Addr} {xs : KX} (k : KAt P w H d xs) (s : Same H H') : KAt P w H' d xs := k.map (s _ _ k.1) fun a vs h => s _ _ h
theorem kdct_ok {P : Program} {w : World} {H' : Hp} {h' : Heap} {d : Addr} {xs : KX} (hd : (d == sysModules) = false) (dd : h'.DictOfH (nestedKind P w) d xs) : ObjOk P w H' h' d (KDct P w d xs) := by
  obtain ⟨o, es, ep, h1, h2, h3, h4, _, h5⟩ := dd
  exact ⟨⟨hd, o, es, ep, h1, h2, h3, h4, h5⟩, ⟨o, h1⟩, fun g1 g2 ⟨hd, o, es, ep, h1, h2, h3, h4, h5⟩ e => ⟨hd, o, es, ep, e _ h1, h2, h3, h4, h5⟩⟩
/-- {} -/
def tDNewN (P : Program) (w : World) : TE := fun _ H Q => ∀ d, H d = none → Q (.ref d) (upd H d (KDct P w d []))
/-- y in d -/
def tKIn (P : Program) (w : World) (ty td : TE) : TE := fun σ H Q => ty σ H fun y H1 => td σ H1 fun x H2 => ∃ (d b : Addr) (xs : KX) (k : NestedKey), x = .ref d ∧ y = .ref b ∧ KAt P w H2 d xs ∧ NkV H2 k (.ref b) ∧ k.depth ≤ 8 ∧ Q (.bl (atKey xs k).isSome) H2
/-- d[y] -/
def tKGet (P : Program) (w : World) (td ty : TE) : TE := fun σ H Q => td σ H fun x H1 => ty σ H1 fun y H2 => ∃ (d b : Addr) (xs : KX) (k : NestedKey) (v : V) (p : Addr × Value), x = .ref d ∧ y = .ref b ∧ KAt P w H2 d xs ∧ NkV H2 k (.ref b) ∧ k.depth ≤ 8 ∧ atKey xs k = some p ∧ RelV v p.2 ∧ Q v H2
/-- d[y] = v, y not there before -/
def sKPut (P : Program) (w : World) (td ty tv : TE) : TS := fun D σ H => tv σ H fun v H1 => td σ H1 fun x H2 => ty σ H2 fun y H3 => ∃ (d b : Addr) (xs : KX) (k : NestedKey), x = .ref d ∧ y = .ref b ∧ KAt P w H3 d xs ∧ xs.length < 4000000 ∧ NkV H3 k (.ref b) ∧ k.depth ≤ 8 ∧ atKey xs k = none ∧
  ∀ (r : Value) (H4 : Hp), RelV v r → H4 = upd H3 d (KDct P w d (xs ++ [(k, b, r)])) → KAt P w H4 d (xs ++ [(k, b, r)]) → D.nx σ H4
section
variable {X : Cx} {o i e value : Expr} {pos pos' : Pos} {td ty tv : TE}
theorem pe_dnewN : PE X (.Dict [] [] pos) (tDNewN X.prog X.w) := ⟨fun pins s σ H Q I h =>
  wpAny_Dict_empty ⟨.ref s.heap.objs.size, _, I.laid (a := s.heap.objs.size) (o := KDct X.prog X.w s.heap.objs.size []) (t' := s.toks) (fun _ _ q => Heap.get?_push_of_some _ q) (Nat.le_refl _)
    (kdct_ok (beq_eq_false_iff_ne.mpr (Ne.symm (Nat.ne_of_lt I.big))) (Heap.DictOfH.new s.heap)), rfl, h _ (I.hok.fresh (Nat.le_refl _))⟩⟩
theorem pc_kin (hu : X.A.units + 9 < cLine) (hi : PE X i ty) (ho : PE X o td) : PC X .In i o (tKIn X.prog X.w ty td) := by
  refine ⟨fun pins s σ H Q I h => ?_⟩
  refine thn (hi.run pins s σ H _ I h) fun iv s1 ⟨y, H1, I1, ry, q1⟩ => thn (ho.run pins s1 σ H1 _ I1 q1) fun u s2 ⟨x, H2, I2, rx, d, b, xs, k, ex, ey, ka, nk, dp, q2⟩ => ?_
  subst ex ey
  obtain rfl : u = Value.ref d := rx
  obtain rfl : iv = Value.ref b := ry
  obtain ⟨hd, dd⟩ := ka.rd I2.hok
  exact wpAny_in_heap (knd := nestedKind X.prog X.w) (show X.A.units + 1 + 8 < cLine by omega) ⟨nk.is I2.hok rfl, dp⟩ hd dd ⟨.bl _, H2, I2.tok _, rfl, q2⟩
theorem pe_kget (hu : X.A.units + 9 < cLine) (ho : PE X o td) (hi : PE X i ty) (hs : NoSl i) : PE X (.Subscript o i pos) (tKGet X.prog X.w td ty) := by
  refine ⟨fun pins s σ H Q I h => ?_⟩
  refine subD_of PySem.F.slot_dict_getitem.lookup hs (thn (ho.run pins s σ H _ I h) fun u s1 ⟨x, H1, I1, rx, q1⟩ => thn (hi.run pins s1 σ H1 _ I1 q1) fun iv s2 ⟨y, H2, I2, ry, d, b, xs, k, v, p, ex, ey, ka, nk, dp, hp, rv, q2⟩ => ?_)
  subst ex ey
  obtain rfl : u = Value.ref d := rx
  obtain rfl : iv = Value.ref b := ry
  obtain ⟨hd, dd⟩ := ka.rd I2.hok
  exact ⟨dd.typeIs, wpAny_getItem_heap (knd := nestedKind X.prog X.w) (show X.A.units + 1 + 8 < cLine by omega) ⟨nk.is I2.hok rfl, dp⟩ dd hp ⟨v, H2, I2.tok _, rv, q2⟩⟩
theorem stored_new {xs : KX} {k : NestedKey} {b : Addr} {r : Value} (h : atKey xs k = none) : storedH xs k b r = xs ++ [(k, b, r)] := by
  unfold storedH
  rw [h]
  rfl
theorem ps_kput (hu : X.A.units + 9 < cLine) (ho : PE X o td) (hi : PE X i ty) (hv : PE X value tv) (hs : swapsWith value (some (.Subscript o i pos')) pos.line X.env = pure false) :
    PS X (.Assign [.Subscript o i pos'] value pos) (sKPut X.prog X.w td ty tv) := by
  refine ⟨fun pins s σ H D I h => ?_⟩
  refine wpAny_Assign_Subscript (thn (hv.run pins s σ H _ I h) fun r s1 ⟨v, H1, I1, rv, q1⟩ => thn (ho.run pins s1 σ H1 _ I1 q1) fun u s2 ⟨x, H2, I2, rx, q2⟩ => thn (hi.run pins s2 σ H2 _ I2 q2) fun iv s3 ⟨y, H3, I3, ry, d, b, xs, k, ex, ey, ka, hl, nk, dp, hn, q3⟩ => ?_) hs
  subst ex ey
  obtain rfl : u = Value.ref d := rx
  obtain rfl : iv = Value.ref b := ry
  obtain ⟨hd, dd⟩ := ka.rd I3.hok
  refine wpAny_setItem_heap (knd := nestedKind X.prog X.w) (hsz := by rw [sizeLine_eq]; omega) (show X.A.units + 1 + 8 < cLine by omega) ⟨nk.is I3.hok rfl, dp⟩ dd fun h' dd' hs' => ?_
  rw [stored_new hn] at dd'
  have he : ∃ q, h'.get? d = some q := let ⟨q, _, _, hq, _⟩ := dd'; ⟨q, hq⟩
  have kt : ∀ a vs, H3 a = some (.tup vs) → upd H3 d (KDct X.prog X.w d (xs ++ [(k, b, r)])) a = some (.tup vs) := fun a vs h => by
    rw [upd_ne (ne_of h ka.1 (by intro z; cases z))]
    exact h
  refine ⟨σ, _, d_write I3 (by rw [ka.1]; exact True.intro) hs' he (kdct_ok hd dd'), q3 r _ rv rfl ⟨upd_same, by rw [List.length_append]; show xs.length + 1 ≤ _; omega, fun x hx => ?_⟩⟩
  rcases List.mem_append.mp hx with hx | hx
  · exact ⟨(ka.2.2 x hx).1.map kt, (ka.2.2 x hx).2⟩
  · rw [List.mem_singleton.mp hx]
    exact ⟨nk.map kt, dp⟩
theorem call_lenK : CallR X (.builtin "len") (fun xs H Q => ∃ d ks, xs = [V.ref d] ∧ KAt X.prog X.w H d ks ∧ Q (.int (ks.length : Int)) H) := by
  intro pins s σ H xs us Q I r h
  obtain ⟨d, ks, rfl, ka, q⟩ := h
  obtain ⟨u, rfl, ru⟩ := vals1 r
  cases ru
  obtain ⟨hd, dd⟩ := ka.rd I.hok
  have hk : s.heap.DictKeyed (nestedKind X.prog X.w) d (pairsH ks) := ⟨ks, dd, rfl⟩
  have hl : (pairsH ks).length = ks.length := pairsH_length ks
  have := ka.2.1
  refine call_len_slot (n := ((pairsH ks).length : Int)) dd.typeIs PySem.F.slot_dict_len (fun Q' hq => len_keyed hd hk hq) (by omega) (by omega) ?_
  rw [hl]
  exact ⟨.int (ks.length : Int), H, I.tok _, ⟨_, rfl⟩, q⟩
end

end Fv
set_option Elab.async false
set_option linter.all false
set_option maxRecDepth 100000
set_option maxHeartbeats 4000000
namespace Fv
open PySem PySem.Spec PyProof.Rows L2 TL
/-! ### (x,) * n, n small -/
theorem tuple_mul1 (l : Addr) (items : Array Value) (n : Nat) (dd : Option Addr) (sl : Array (Option Value)) (u : Tok) :
    Meets (Builtin.«tuple.__mul__» ⟨[.ref l, .int 1 u], []⟩) (fun _ R s => s.heap.get? l = some { cls := .type "tuple", dict := dd, data := .seq items n, slots := sl } ∧
      R (.ok (.ret (Value.ref l))) s) :=
  .of_wp fun prog w A R s h => by
    obtain ⟨hp, g, d, tk, os⟩ := s
    obtain ⟨hl, h⟩ := h
    have f1 := AutoSeq1.idx_int
    have c1 : (items.isEmpty || (1 : Int) == 1) = true := by simp
    wp_walk using wpAny_loadPart' hl
    repeat (first
      | (refine wpAny_ite_true (decide_eq_true c1) ?_; wp_walk using wpAny_loadPart' hl)
      | (refine wpAny_ite_true c1 ?_; wp_walk using wpAny_loadPart' hl))
    exact ⟨_, rfl, h⟩
theorem tuple_mul0 (l : Addr) (items : Array Value) (n : Nat) (dd : Option Addr) (sl : Array (Option Value)) (u : Tok) (ci : items.isEmpty = false) :
    Meets (Builtin.«tuple.__mul__» ⟨[.ref l, .int 0 u], []⟩) (fun _ R s => s.heap.get? l = some { cls := .type "tuple", dict := dd, data := .seq items n, slots := sl } ∧
      R (.ok (.ret (Value.ref s.heap.objs.size))) { s with heap := s.heap.push { cls := Value.type "tuple", data := Data.seq #[] }, toks := s.toks }) :=
  .of_wp fun prog w A R s h => by
    obtain ⟨hp, g, d, tk, os⟩ := s
    obtain ⟨hl, h⟩ := h
    have f1 := AutoSeq1.idx_int
    have c1 : (items.isEmpty || (0 : Int) == 1) = false := by rw [ci]; rfl
    have c2 : (decide ((0 : Int) ≤ 0) || items.isEmpty) = true := by simp
    wp_walk using wpAny_loadPart' hl
    repeat (first
      | (refine wpAny_ite_false (decide_eq_false (by rw [c1]; exact Bool.false_ne_true)) ?_; wp_walk using wpAny_loadPart' hl)
      | (refine wpAny_ite_true (decide_eq_true c2) ?_; wp_walk using wpAny_loadPart' hl)
      | (refine wpAny_ite_true c2 ?_; wp_walk using wpAny_loadPart' hl))
    exact ⟨_, rfl, h⟩
/-- (x,) * n: the answer's items -/
def rRepN (K : PySem.W.Frag) : R2 := fun x y H Q => ∃ (l : Addr) (v : V) (n : Nat), x = .ref l ∧ y = .int (n : Int) ∧ H l = some (.tup [v]) ∧ n ≤ 1000 ∧ ∀ (p : Addr) (H' : Hp), Same H H' → H' p = some (.tup (List.replicate n v)) → Q (.ref p) H'
section
variable {X : Cx}
theorem op_repN : OpR X (binaryOp .Mult) (rRepN X.K) := by
  intro pins s σ H x y v u Q I rx ry h
  obtain ⟨l, z, n, rfl, rfl, hT, hn, q⟩ := h
  have e0 : ((1 : Nat) : Int) = 1 := rfl
  match n, hn with
  | 0, _ =>
    cases rx
    obtain ⟨t, rfl⟩ := ry
    obtain ⟨its, r, ⟨⟨cls, dd, data, sl⟩, ho, hc, m, hd⟩, hs⟩ := I.tuple (Or.inl (Or.inl hT) : SqT X.K H l [z])
    simp only at hc hd
    subst hc hd
    have hi : its.toArray.isEmpty = false := by
      cases r with
      | cons _ _ => rfl
    refine wpAny_binaryOp_repeat_ref (T := "tuple") (U := "int") (by decide) ⟨_, ho, rfl⟩ (fun s' => typeIs_int s' _ t) L2.noFill_tuple_mul F.fills_int_mul F.slot_int_rmul L2.repeat_tuple F.slot_int_index.lookup
      (call_meets F.slot_int_rmul (typeIs_int s _ t) F.entry_int_rmul (F.args_int_rmul_2 _ _) (L2.int_rmul_tuple _ t l its.toArray m dd sl)
        ⟨ho, rfl, ⟨_, ho, rfl⟩, call_meets F.slot_tuple_mul ⟨_, ho, rfl⟩ F.entry_tuple_mul (F.args_tuple_mul_2 _ _) (tuple_mul0 l its.toArray m dd sl t hi) ⟨ho, ?_⟩⟩)
    have hf := I.hok.fresh (Nat.le_refl s.heap.objs.size)
    refine ⟨.ref s.heap.objs.size, _, I.laid (t' := s.toks) (o := .tup []) (fun b ob q => Heap.get?_push_of_some _ q) (Nat.le_refl _) ?_, rfl, q _ _ (same_new hf _) upd_same⟩
    exact ⟨Nat.zero_le _, [], .nil, IsTup.new _ _⟩
  | 1, _ =>
    cases rx
    obtain ⟨t, rfl⟩ := ry
    obtain ⟨its, r, ⟨⟨cls, dd, data, sl⟩, ho, hc, m, hd⟩, hs⟩ := I.tuple (Or.inl (Or.inl hT) : SqT X.K H l [z])
    simp only at hc hd
    subst hc hd
    exact wpAny_binaryOp_repeat_ref (T := "tuple") (U := "int") (by decide) ⟨_, ho, rfl⟩ (fun s' => typeIs_int s' _ t) L2.noFill_tuple_mul F.fills_int_mul F.slot_int_rmul L2.repeat_tuple F.slot_int_index.lookup
      (call_meets F.slot_int_rmul (typeIs_int s _ t) F.entry_int_rmul (F.args_int_rmul_2 _ _) (L2.int_rmul_tuple _ t l its.toArray m dd sl)
        ⟨ho, rfl, ⟨_, ho, rfl⟩, call_meets F.slot_tuple_mul ⟨_, ho, rfl⟩ F.entry_tuple_mul (F.args_tuple_mul_2 _ _) (tuple_mul1 l its.toArray m dd sl t) ⟨ho, ⟨.ref l, H, I, rfl, q l H (fun _ _ h => h) hT⟩⟩⟩)
  | n + 2, hn =>
    refine op_repT pins s σ H _ _ v u Q I rx ry ⟨l, ((n + 2 : Nat) : Int), [z], rfl, rfl, .inl (.inl hT), by simp, by omega, by omega, by simp, fun p hp => ?_⟩
    refine q p _ (same_new hp _) ?_
    rw [upd_same]
    congr 2
    rw [show (((n + 2 : Nat) : Int)).toNat = n + 2 from Int.toNat_natCast _]
    generalize n + 2 = k
    induction k with
    | zero => rfl
    | succ k ih => rw [List.replicate_succ, List.replicate_succ, List.flatten_cons, ih]; rfl
end
end Fv
set_option Elab.async false
set_option linter.all false
set_option maxRecDepth 100000
set_option maxHeartbeats 4000000
namespace Fv
open PySem PySem.Spec PyProof.Rows L2 TL
/-! ### one step, as a function -/
def sgS (c : Nat) : Str := ⟨#[c]⟩
def endsP (wd : Str) (c : Nat) : Bool := decide (wd = "stop") || (decide (wd = "right" ∧ c = 62) || decide (wd = "left" ∧ c = 60))
def holdsP (wt : Bool) (pl : Str) (i v : Nat) (c : Nat) (cells : List Nat) : Option Bool :=
  if pl = "" then (cells[i]?).map fun x => decide (decide (x = v) = wt) else some (decide (decide (c ∈ tl pl) = wt))
def nextP (nd : Nd) (c : Nat) (cells : List Nat) : Option Nat :=
  if nd.wd = "if" ∨ nd.wd = "while" then
    match nd.gv with
    | .cond wt pl i v => (holdsP wt pl i v c cells).map fun b => if (if b then nd.li else nd.lo) = 0 then nd.fo else (if b then nd.li else nd.lo)
    | _ => none
  else some nd.fo
/-- the control, its innermost line first -/
def resR (tab : List (Nat × Nd)) : List Nat → Nat → Option (List Nat)
  | [], line => some (if line = 0 then [] else [line])
  | o :: r, line => if line = 0 then (rowAt tab o).bind fun nd => resR tab r nd.fo else some (line :: o :: r)
def cellsP (mosts : List Nat) (nd : Nd) (cells : List Nat) : Option (List Nat) :=
  if nd.wd = "set" then
    match nd.gv with
    | .pair i n => if i < cells.length then some (cells.set i n) else none
    | _ => none
  else if nd.wd = "add" then
    match nd.gv with
    | .pair i n => (cells[i]?).bind fun x => (mosts[i]?).map fun m => cells.set i ((x + n) % (m + 1))
    | _ => none
  else some cells
def letterP (nd : Nd) (c : Nat) : Option Str :=
  if nd.wd = "write" then
    match nd.gv with
    | .letter z => some z
    | _ => none
  else some (if nd.wd = "copy" ∧ c ≠ 60 ∧ c ≠ 62 then sgS c else "")
def moveP (wd : Str) : Int := if wd = "right" then 1 else if wd = "left" then -1 else 0
abbrev Stt := List Nat × List Nat
def stepP (tab : List (Nat × Nd)) (mosts : List Nat) (c : Nat) : Stt → Option (Stt × Int × Str)
  | ([], _) => none
  | (ln :: outer, cells) => (rowAt tab ln).bind fun nd =>
    if endsP nd.wd c = true then some (([], cells), 0, "")
    else if nd.wd = "do" then
      match nd.gv with
      | .part n => some ((n :: ln :: outer, cells), 0, "")
      | _ => none
    else (nextP nd c cells).bind fun line => (resR tab outer line).bind fun ctl => (cellsP mosts nd cells).bind fun cs => (letterP nd c).map fun l => ((ctl, cs), moveP nd.wd, l)
def nats (ns : List Nat) : List V := ns.map fun (n : Nat) => V.int (n : Int)
/-- a state -/
def StV (H : Hp) (v : V) (x : Stt) : Prop := ∃ s a b, v = .ref s ∧ H s = some (.tup [.ref a, .ref b]) ∧ H a = some (.tup (nats x.1.reverse)) ∧ H b = some (.tup (nats x.2))
theorem StV.same {H H' : Hp} (e : Same H H') {v : V} {x : Stt} (h : StV H v x) : StV H' v x := by
  obtain ⟨s, a, b, rfl, h1, h2, h3⟩ := h
  exact ⟨s, a, b, rfl, e _ _ h1, e _ _ h2, e _ _ h3⟩
/-- what a run asks of a program -/
structure RunAt (CP CS : Addr) (H : Hp) (a : Addr) (tab : List (Nat × Nd)) (ms : NV) (first : Nat) : Prop where
  it : ∃ (dx c q t r : Addr) (z sy : Str) (as : List Addr) (kvs : List (Key × V)), H a = some (.ins CP dx (gl z sy c q t (first : Int) r)) ∧ H c = some (.tup (as.map V.ref)) ∧ Pairs H as (kvS ms) ∧ H t = some (.dK kvs) ∧ Tab CS H kvs tab
theorem Tab.same {CS : Addr} {H H' : Hp} (s : Same H H') {kvs : List (Key × V)} {tab : List (Nat × Nd)} (h : Tab CS H kvs tab) : Tab CS H' kvs tab := by
  unfold Tab at h ⊢
  induction h with
  | nil => exact .nil
  | cons r _ ih =>
    obtain ⟨h1, a, h2, h3⟩ := r
    exact .cons ⟨h1, a, h2, h3.same s⟩ ih
theorem RunAt.same {CP CS : Addr} {H H' : Hp} {a : Addr} {tab : List (Nat × Nd)} {ms : NV} {first : Nat} (h : RunAt CP CS H a tab ms first) (s : Same H H') : RunAt CP CS H' a tab ms first := by
  obtain ⟨dx, c, q, t, r, z, sy, as, kvs, h1, h2, h3, h4, h5⟩ := h.it
  exact ⟨dx, c, q, t, r, z, sy, as, kvs, s _ _ h1, s _ _ h2, pairs_same h3 s, s _ _ h4, h5.same s⟩
theorem ProgAt.run {CP CS : Addr} {H : Hp} {a : Addr} {z sy : Str} {ms : NV} {ps : List PartR} {nm : Nat × List Tr} {ma : List Row} {rows : List Row} (h : ProgAt CP CS H a z sy ms ps nm) (PO : ProgOk sy ms ps ma nm rows) : RunAt CP CS H a (tabOf ps nm) ms ((prefRows sy ms ps).length + 2) := by
  obtain ⟨dx, c, q, t, r, as, tt, mt, h1, h2, h3, h4, h5, h6, h7, h8⟩ := h.it
  exact ⟨dx, c, q, t, r, z, sy, as, _, h1, h2, h3, h5, PO.tab h7 h8⟩
section
variable {z sy : Str} {c q t r : Addr} {fi : Int}
theorem gl_cells : (gl z sy c q t fi r).lookup ("cells" : Str) = some (V.ref c) := by kernel_rfl
theorem gl_symbols : (gl z sy c q t fi r).lookup ("symbols" : Str) = some (V.str sy) := by kernel_rfl
theorem gl_statements : (gl z sy c q t fi r).lookup ("statements" : Str) = some (V.ref t) := by kernel_rfl
theorem gl_first : (gl z sy c q t fi r).lookup ("first" : Str) = some (V.int fi) := by kernel_rfl
end
section
variable {P : Program} {w : World} {K : PySem.W.Frag} {mg : Str → Option Value} {base : Heap}
abbrev s_first_state : Stmt := top 9
abbrev sc_first_stateN : List Str := ["program"]
theorem sc_first_state : FnScope sc_first_stateN ["program"] (defScope s_first_state) := ⟨rfl, rfl, rfl, by decide +kernel, rfl, by decide +kernel, by decide +kernel⟩
def spFirst (CP CS : Addr) : Sp := fun vs H Q _ => ∃ (a : Addr) (tab : List (Nat × Nd)) (ms : NV) (first : Nat), vs = [.ref a] ∧ RunAt CP CS H a tab ms first ∧ ms.length ≤ 2 ∧ ∀ (p : Addr) (H' : Hp), Same H H' → StV H' (.ref p) ([first], List.replicate ms.length 0) → Q (.ref p) H'
theorem ok_first_state {f CP CS : Addr} {fd : FuncData} (F : Fun K "first_state" "first_state" s_first_state f fd) (T : Bare mg) (TG : GTxt K CP) : FnOk P w K mg base CX0 1 f fd ["program"] (spFirst CP CS) := by
  refine F.ok sc_first_state (fun vs H Q E h => ?_) (fun cdv A outer st H vs Q E hr h => ?_)
  · obtain ⟨a, tab, ms, first, rfl, _⟩ := h
    rfl
  obtain ⟨a, tab, ms, first, rfl, R, hms, q⟩ := h
  obtain ⟨dx, c, q0, t, r, z, sy, as, kvs, h1, h2, h3, h4, h5⟩ := R.it
  have hl : as.length = ms.length := by
    have := Paired.length h3
    unfold kvS at this
    rw [List.length_map] at this
    exact this
  refine ⟨_, (pss_one (ps_ret (pe_tup (pa_cons (pe_tup (pa_cons (pe_fld (pv 0) rfl) pa_nil)) (pa_cons (pe_op op_repN (pe_tup (pa_cons pe_int pa_nil)) (pe_callB call_len_seq (by rfl) T.len PySem.boot_len (pa_cons (pe_fld (pv 0) rfl) pa_nil))) pa_nil))))), ?_⟩
  refine ⟨_, rfl, a, CP, dx, _, _, rfl, h1, TG.cl, TG.nFirst, gl_first, small (by show 1 ≤ 1000; decide), fun p1 hp1 => ?_⟩
  have s1 := same_new hp1 (.tup [.int (first : Int)])
  refine ⟨small (by show 1 ≤ 1000; decide), fun p2 hp2 => ?_⟩
  have s2 := same_new hp2 (.tup [.int 0])
  have s12 := s1.trans s2
  refine ⟨_, rfl, a, CP, dx, _, _, rfl, s12 _ _ h1, TG.cl, TG.nCells, gl_cells, c, _, rfl, .inr (.inl (.inl (s12 _ _ h2))), ?_⟩
  refine ⟨p2, _, ms.length, rfl, by rw [List.length_map, hl], upd_same, by omega, fun p3 H3 s3 h6 => ⟨small (by show 2 ≤ 1000; decide), fun p4 hp4 => ?_⟩⟩
  have s4 := same_new hp4 (.tup [.ref p1, .ref p3])
  refine q p4 _ ((s12.trans s3).trans s4) ⟨p4, p1, p3, rfl, upd_same, s4 _ _ (s3 _ _ (s2 _ _ upd_same)), ?_⟩
  rw [s4 _ _ h6]
  congr 2
  unfold nats
  rw [List.map_replicate]
  rfl
end
end Fv
set_option Elab.async false
set_option linter.all false
set_option maxRecDepth 100000
set_option maxHeartbeats 4000000
namespace Fv
open PySem PySem.Spec PyProof.Rows L2 TL
theorem dec_and (p q : Prop) [Decidable p] [Decidable q] : (decide p && decide q) = decide (p ∧ q) := by
  by_cases h : p <;> by_cases k : q <;> simp [h, k]
theorem sg_eq (c k : Nat) : (sgS c = sgS k) ↔ c = k := by
  unfold sgS
  constructor
  · intro h
    injection h with h
    injection h with h
    exact (List.cons.inj h).1
  · rintro rfl
    rfl
theorem eqv_two (a b c d : Str) : PyData.eqv (.tuple ([a, b].map .str)) (.tuple ([c, d].map .str)) = (decide (c = a) && decide (d = b)) := by
  refine Eq.trans (eqv_strs [a, b] [c, d]) ?_
  rw [dec_and]
  refine decide_eq_decide.mpr ?_
  constructor
  · intro h
    obtain ⟨h1, h2⟩ := List.cons.inj h
    exact ⟨h1.symm, (List.cons.inj h2).1.symm⟩
  · rintro ⟨rfl, rfl⟩
    rfl
theorem shaped_two {x y : Str} (hx : PyData.strOk x = true) (hy : PyData.strOk y = true) : SeqAt.shaped (.tuple ([x, y].map PyData.str)) = true := by
  unfold SeqAt.shaped
  rw [Bool.and_eq_true]
  exact ⟨lay_strs [x, y] (by simp [hx, hy]), decide_eq_true (by show PyData.depthAll ([x, y].map PyData.str) + 1 ≤ 64; rw [dep_strs]; decide)⟩
theorem gt_sg : (">" : Str) = sgS 62 := by decide +kernel
theorem lt_sg : ("<" : Str) = sgS 60 := by decide +kernel
theorem copy_sg (c : Nat) : (!decide (c ∈ ("<>" : Str).cps.toList)) = decide (c ≠ 60 ∧ c ≠ 62) := by
  have e : ("<>" : Str).cps.toList = [60, 62] := by decide +kernel
  rw [e]
  by_cases h1 : c = 60 <;> by_cases h2 : c = 62 <;> simp [h1, h2]
section
variable {P : Program} {w : World} {K : PySem.W.Frag} {mg : Str → Option Value} {base : Heap}
abbrev s_ends_run : Stmt := top 11
abbrev sc_ends_runN : List Str := ["word", "sign"]
theorem sc_ends_run : FnScope sc_ends_runN ["word", "sign"] (defScope s_ends_run) := ⟨rfl, rfl, rfl, by decide +kernel, rfl, by decide +kernel, by decide +kernel⟩
def spEnds : Sp := fun vs H Q _ => ∃ (wd : Str) (c : Nat), vs = [.str wd, .str (sgS c)] ∧ PyData.strOk wd = true ∧ PyData.strOk (sgS c) = true ∧ ∀ H', Same H H' → Q (.bl (endsP wd c)) H'
theorem ok_ends_run {f : Addr} {fd : FuncData} (F : Fun K "ends_run" "ends_run" s_ends_run f fd) : FnOk P w K mg base CX0 1 f fd ["word", "sign"] spEnds := by
  refine F.ok sc_ends_run (fun vs H Q E h => ?_) (fun cdv A outer st H vs Q E hr h => ?_)
  · obtain ⟨wd, c, rfl, _⟩ := h
    rfl
  obtain ⟨wd, c, rfl, h1, h2, q⟩ := h
  have hu : A.units + 3 + 65 < cLine := by
    have := hr.un
    have e : (A.deeper (envOfC "ends_run" (defScope s_ends_run) st.heap.objs.size f cdv)).units = A.units + 3 := rfl
    rw [e] at this
    omega
  refine ⟨_, (pss_one (ps_ret (pe_or (pe_cmpR op_eq (pv 0) pe_str (nomark _)) (pe_one (pe_cmpR (op_inDT hu) (pe_tup (pa_cons (pv 0) (pa_cons (pv 1) pa_nil))) (pe_tup (pa_cons (pe_tup (pa_cons pe_str (pa_cons pe_str pa_nil))) (pa_cons (pe_tup (pa_cons pe_str (pa_cons pe_str pa_nil))) pa_nil))) (by rfl)))))), ?_⟩
  have e1 : ∀ H', Same H H' → decide (wd = "stop") = false → Q (.bl ((decide (wd = "right" ∧ c = 62) || decide (wd = "left" ∧ c = 60)))) H' := fun H' s h => by
    have z := q H' s
    unfold endsP at z
    rw [h, Bool.false_or] at z
    exact z
  refine ⟨_, rfl, rfl, _, rfl, ?_⟩
  refine ite2 (fun hw => ?_) (fun hw => ?_)
  · have z := q H (fun _ _ h => h)
    unfold endsP at z
    rw [decide_eq_true (V.str.inj (of_decide_eq_true hw)), Bool.true_or] at z
    exact z
  · have hw' : decide (wd = "stop") = false := decide_eq_false fun z => hw (decide_eq_true (congrArg V.str z))
    refine ⟨_, rfl, _, rfl, small (by show 2 ≤ 1000; decide), fun A1 hA1 => ⟨small (by show 2 ≤ 1000; decide), fun A2 hA2 => ⟨small (by show 2 ≤ 1000; decide), fun A3 hA3 => ⟨small (by show 2 ≤ 1000; decide), fun A4 hA4 => ?_⟩⟩⟩⟩
    have s1 := same_new hA1 (.tup [.str wd, .str (sgS c)])
    have s2 := same_new hA2 (.tup [.str "right", .str ">"])
    have s3 := same_new hA3 (.tup [.str "left", .str "<"])
    have s4 := same_new hA4 (.tup [.ref A2, .ref A3])
    refine ⟨.tuple ([wd, sgS c].map .str), [.tuple ([("right" : Str), ">"].map .str), .tuple ([("left" : Str), "<"].map .str)], .tup (.inl (.inl (s4 _ _ (s3 _ _ (s2 _ _ upd_same))))) (dp_strs [wd, sgS c]),
      .tup (.inl (.inl upd_same)) (.cons (.tup (.inl (.inl (s4 _ _ (s3 _ _ upd_same)))) (dp_strs [("right" : Str), ">"])) (.cons (.tup (.inl (.inl (s4 _ _ upd_same))) (dp_strs [("left" : Str), "<"])) .nil)), shaped_two h1 h2, ?_, ?_⟩
    · unfold SeqAt.shaped
      rw [Bool.and_eq_true]
      refine ⟨?_, decide_eq_true (by show max (PyData.depthAll ([("right" : Str), ">"].map PyData.str) + 1) (max (PyData.depthAll ([("left" : Str), "<"].map PyData.str) + 1) 0) + 1 ≤ 64; rw [dep_strs, dep_strs]; decide)⟩
      show (PyData.canLayAll0 ([("right" : Str), ">"].map PyData.str) && (PyData.canLayAll0 ([("left" : Str), "<"].map PyData.str) && true)) = true
      rw [lay_strs [("right" : Str), ">"] (by simp; decide +kernel), lay_strs [("left" : Str), "<"] (by simp; decide +kernel)]
      rfl
    · have e2 : ([PyData.tuple ([("right" : Str), ">"].map .str), .tuple ([("left" : Str), "<"].map .str)]).any (fun z => PyData.eqv z (.tuple ([wd, sgS c].map .str))) = (decide (wd = "right" ∧ c = 62) || decide (wd = "left" ∧ c = 60)) := by
        rw [List.any_cons, List.any_cons, List.any_nil, Bool.or_false, eqv_two, eqv_two, dec_and, dec_and, gt_sg, lt_sg]
        congr 1 <;> exact decide_eq_decide.mpr (and_congr_right fun _ => sg_eq _ _)
      rw [e2]
      exact e1 _ (((s1.trans s2).trans s3).trans s4) hw'
abbrev s_letter_at : Stmt := top 16
abbrev sc_letter_atN : List Str := ["statement", "sign"]
theorem sc_letter_at : FnScope sc_letter_atN ["statement", "sign"] (defScope s_letter_at) := ⟨rfl, rfl, rfl, by decide +kernel, rfl, by decide +kernel, by decide +kernel⟩
def spLetter (CS : Addr) : Sp := fun vs H Q _ => ∃ (a : Addr) (n : Nat) (nd : Nd) (c : Nat) (l : Str), vs = [.ref a, .str (sgS c)] ∧ NdAt CS H a n nd ∧ letterP nd c = some l ∧ Q (.str l) H
theorem ok_letter_at {f CS : Addr} {fd : FuncData} (F : Fun K "letter_at" "letter_at" s_letter_at f fd) (TS : STxt K CS) : FnOk P w K mg base CX0 1 f fd ["statement", "sign"] (spLetter CS) := by
  refine F.ok sc_letter_at (fun vs H Q E h => ?_) (fun cdv A outer st H vs Q E hr h => ?_)
  · obtain ⟨a, n, nd, c, l, rfl, _⟩ := h
    rfl
  obtain ⟨a, n, nd, c, l, rfl, ⟨dx, g, li, lo, h1, h2, h3, h4⟩, hl, q⟩ := h
  refine ⟨_, (pss_cons (ps_if (pt_cmpR op_eq (pe_fld (pv 0) rfl) pe_str (nomark _))
(pss_one (ps_ret (pe_fld (pv 0) rfl)))
pss_nil)
(pss_one (ps_ret (pe_ifExp (PW.pt (pw_and (pt_cmpR op_eq (pe_fld (pv 0) rfl) pe_str (nomark _)) (pw_and1 (pt_cmpR op_notIn_sign (pv 1) pe_str (by rfl))))) (pv 1) pe_str)))), ?_⟩
  unfold letterP at hl
  refine ⟨_, rfl, a, CS, dx, _, _, rfl, h1, TS.cl, TS.nWord, sf_word, rfl, _, rfl, ?_⟩
  refine ite2 (fun hw => ?_) (fun hw => ?_)
  · have hw' : nd.wd = "write" := V.str.inj (of_decide_eq_true hw)
    rw [if_pos hw'] at hl
    refine ⟨_, rfl, a, CS, dx, _, _, rfl, h1, TS.cl, TS.nGiven, sf_given, ?_⟩
    cases hg : nd.gv with
    | letter z =>
      rw [hg] at h2 hl
      have e1 : g = .str z := h2
      rw [e1, Option.some.inj hl]
      exact q
    | non => rw [hg] at hl; cases hl
    | pair i n => rw [hg] at hl; cases hl
    | cond wt pl i v => rw [hg] at hl; cases hl
    | part ln => rw [hg] at hl; cases hl
  · have hw' : ¬ nd.wd = "write" := fun z => hw (decide_eq_true (congrArg V.str z))
    rw [if_neg hw'] at hl
    have hl' := Option.some.inj hl
    refine ⟨_, rfl, a, CS, dx, _, _, rfl, h1, TS.cl, TS.nWord, sf_word, rfl, _, rfl, ?_⟩
    have e1 := copy_sg c
    refine ite2 (fun hc => ?_) (fun hc => ?_)
    · have hc' : nd.wd = "copy" := V.str.inj (of_decide_eq_true hc)
      refine ⟨_, rfl, c, _, rfl, rfl, _, rfl, ?_⟩
      dsimp only
      rw [e1]
      refine ite2 (fun hd => ?_) (fun hd => ?_)
      · rw [if_pos ⟨hc', of_decide_eq_true hd⟩] at hl'
        refine ⟨_, rfl, ?_⟩
        rw [hl']
        exact q
      · rw [if_neg (fun z => hd (decide_eq_true z.2))] at hl'
        rw [← hl'] at q
        exact q
    · rw [if_neg (fun z => hc (decide_eq_true (congrArg V.str z.1)))] at hl'
      rw [← hl'] at q
      exact q
end
end Fv
set_option Elab.async false
set_option linter.all false
set_option maxRecDepth 100000
set_option maxHeartbeats 4000000
namespace Fv
open PySem PySem.Spec PyProof.Rows L2 TL
theorem tl_inj {x y : Str} (h : tl x = tl y) : x = y := by
  cases x
  cases y
  congr
  exact Array.toList_inj.mp h
theorem nats_get {ns : List Nat} {i x : Nat} (h : ns[i]? = some x) : atI (nats ns) (i : Int) = some (V.int (x : Int)) := by
  refine at_of (j := i) ?_ ?_
  · have := (List.getElem?_eq_some_iff.mp h).1
    rfl
  · unfold nats
    rw [List.getElem?_map, h]
    rfl
section
variable {P : Program} {w : World} {K : PySem.W.Frag} {mg : Str → Option Value} {base : Heap}
abbrev s_holds : Stmt := top 13
abbrev sc_holdsN : List Str := ["condition", "sign", "cells", "wanted", "places", "index", "value", "found"]
theorem sc_holds : FnScope sc_holdsN ["condition", "sign", "cells"] (defScope s_holds) := ⟨rfl, rfl, rfl, by decide +kernel, rfl, by decide +kernel, by decide +kernel⟩
def spHolds : Sp := fun vs H Q _ => ∃ (g b : Addr) (c : Nat) (wt : Bool) (pl : Str) (i v : Nat) (cells : List Nat) (r : Bool), vs = [.ref g, .str (sgS c), .ref b] ∧ CondAt H g wt pl i v ∧ H b = some (.tup (nats cells)) ∧ pl.length ≤ 1000 ∧ holdsP wt pl i v c cells = some r ∧ Q (.bl r) H
theorem ok_holds {f : Addr} {fd : FuncData} (F : Fun K "holds" "holds" s_holds f fd) : FnOk P w K mg base CX0 1 f fd ["condition", "sign", "cells"] spHolds := by
  refine F.ok sc_holds (fun vs H Q E h => ?_) (fun cdv A outer st H vs Q E hr h => ?_)
  · obtain ⟨g, b, c, wt, pl, i, v, cells, r, rfl, _⟩ := h
    rfl
  obtain ⟨g, b, c, wt, pl, i, v, cells, r, rfl, ⟨c2, h1, h2⟩, hb, hpl, hr2, q⟩ := h
  refine ⟨_, (pss_cons (ps_asg (pv 0) (pg_tup (by rfl) (pgs_cons (pg_name (i := 3) sc_holds.nd rfl (Or.inl rfl)) (pgs_cons (pg_name (i := 4) sc_holds.nd rfl (Or.inl rfl)) (pgs_cons (pg_tup (by rfl) (pgs_cons (pg_name (i := 5) sc_holds.nd rfl (Or.inl rfl)) (pgs_cons (pg_name (i := 6) sc_holds.nd rfl (Or.inl rfl)) pgs_nil))) pgs_nil)))))
(pss_cons (ps_set (i := 7) sc_holds.nd rfl (Or.inl rfl) (pe_ifExp (pt_truth (pv 4) (by intro _; rfl)) (pe_cmpR op_in_sign (pv 1) (pv 4) (by rfl)) (pe_cmpR op_eq (pe_ix ix_tup (pv 2) (pv 5) (fun _ _ => rfl)) (pv 6) (nomark _))))
(pss_one (ps_ret (pe_cmpR op_eq (pv 7) (pv 3) (nomark _)))))), ?_⟩
  refine ⟨_, rfl, g, _, rfl, .inl (.inl h1), rfl, _, _, rfl, _, _, rfl, _, _, rfl, c2, _, rfl, .inl (.inl h2), rfl, _, _, rfl, _, _, rfl, rfl, rfl, ?_⟩
  refine ⟨_, rfl, _, ⟨small (by omega), rfl⟩, ?_⟩
  have fin : ∀ r' : Bool, holdsP wt pl i v c cells = some (decide (r' = wt)) → r = decide (r' = wt) := fun r' h => by rw [hr2] at h; exact Option.some.inj h
  unfold holdsP at fin
  by_cases hp : pl = ""
  · subst hp
    rw [if_pos rfl] at fin
    refine iteF ?_
    unfold holdsP at hr2
    rw [if_pos rfl] at hr2
    cases hx : cells[i]? with
    | none => rw [hx] at hr2; cases hr2
    | some x =>
      rw [hx] at fin
      refine ⟨_, rfl, _, rfl, b, _, _, _, rfl, rfl, .inl (.inl hb), nats_get hx, _, rfl, rfl, ?_⟩
      refine ⟨_, rfl, _, rfl, rfl, ?_⟩
      have e1 : decide (V.int (x : Int) = V.int (v : Int)) = decide (x = v) := decide_eq_decide.mpr ⟨fun h => by have := V.int.inj h; omega, fun h => by rw [h]⟩
      have e2 : r = decide (decide (x = v) = wt) := fin _ rfl
      have e3 : decide (V.bl (decide (V.int (x : Int) = V.int (v : Int))) = V.bl wt) = r := by
        rw [e1, e2]
        exact decide_eq_decide.mpr ⟨fun h => V.bl.inj h, fun h => by rw [h]⟩
      rw [e3]
      exact q
  · rw [if_neg hp] at fin
    have hne : ((pl.length : Int) != 0) = true := by
      refine bne_iff_ne.mpr fun z => hp ?_
      have hl : (tl pl).length = 0 := by rw [← len_tl]; omega
      exact tl_inj (by rw [List.eq_nil_of_length_eq_zero hl]; decide +kernel)
    rw [hne]
    refine iteT ?_
    refine ⟨_, rfl, _, rfl, c, pl, rfl, rfl, ?_⟩
    refine ⟨_, rfl, _, rfl, rfl, ?_⟩
    have e3 : decide (V.bl (decide (c ∈ pl.cps.toList)) = V.bl wt) = r := by
      rw [fin _ rfl]
      exact decide_eq_decide.mpr ⟨fun h => V.bl.inj h, fun h => by rw [← h]⟩
    rw [e3]
    exact q
abbrev s_next_line : Stmt := top 12
abbrev sc_next_lineN : List Str := ["statement", "sign", "cells", "body"]
theorem sc_next_line : FnScope sc_next_lineN ["statement", "sign", "cells"] (defScope s_next_line) := ⟨rfl, rfl, rfl, by decide +kernel, rfl, by decide +kernel, by decide +kernel⟩
def spNext (CS : Addr) : Sp := fun vs H Q _ => ∃ (a b : Addr) (n : Nat) (nd : Nd) (c : Nat) (cells : List Nat) (r : Nat), vs = [.ref a, .str (sgS c), .ref b] ∧ NdAt CS H a n nd ∧ H b = some (.tup (nats cells)) ∧ (∀ wt pl i v, nd.gv = .cond wt pl i v → pl.length ≤ 1000) ∧ nextP nd c cells = some r ∧ ∀ H', Same H H' → Q (.int (r : Int)) H'
theorem ok_next_line {f CS : Addr} {fd : FuncData} (F : Fun K "next_line" "next_line" s_next_line f fd) (TS : STxt K CS) (C : Callee P w K mg base 1 "holds" ["condition", "sign", "cells"] spHolds) : FnOk P w K mg base CX0 2 f fd ["statement", "sign", "cells"] (spNext CS) := by
  refine F.ok sc_next_line (fun vs H Q E h => ?_) (fun cdv A outer st H vs Q E hr h => ?_)
  · obtain ⟨a, b, n, nd, c, cells, r, rfl, _⟩ := h
    rfl
  obtain ⟨a, b, n, nd, c, cells, r, rfl, ⟨dx, g, li, lo, h1, h2, h3, h4⟩, hb, hpl, hl, q⟩ := h
  refine ⟨_, (pss_cons (ps_if (pt_cmpR op_notIn_seq (pe_fld (pv 0) rfl) (pe_tup (pa_cons pe_str (pa_cons pe_str pa_nil))) (by rfl))
(pss_one (ps_ret (pe_fld (pv 0) rfl)))
pss_nil)
(pss_cons (ps_set (i := 3) sc_next_line.nd rfl (Or.inl rfl) (pe_ifExp (pt_val (pe_call C.ok hr rfl C.mg C.kp C.b .nil pass0 (pa_cons (pe_fld (pv 0) rfl) (pa_cons (pv 1) (pa_cons (pv 2) pa_nil))))) (pe_fld (pv 0) rfl) (pe_fld (pv 0) rfl)))
(pss_one (ps_ret (pe_ifExp (pt_truth (pv 3) (by intro _; rfl)) (pe_fld (pe_ix ix_list (pv 3) pe_int (fun _ _ => rfl)) rfl) (pe_fld (pv 0) rfl)))))), ?_⟩
  refine ⟨_, rfl, a, CS, dx, _, _, rfl, h1, TS.cl, TS.nWord, sf_word, small (by show 2 ≤ 1000; decide), fun T0 hT0 => ?_⟩
  have s1 := same_new hT0 (.tup [.str "if", .str "while"])
  refine ⟨T0, _, rfl, .inr (.inl (.inl upd_same)), rfl, rfl, _, rfl, ?_⟩
  dsimp only
  have ein : inV (.str nd.wd) [.str "if", .str "while"] = decide (nd.wd = "if" ∨ nd.wd = "while") := by
    refine (inV_str nd.wd [("if" : Str), "while"]).trans ?_
    exact decide_eq_decide.mpr (by simp)
  rw [ein]
  unfold nextP at hl
  have h1' := s1 _ _ h1
  by_cases hw : nd.wd = "if" ∨ nd.wd = "while"
  · rw [if_pos hw] at hl
    rw [decide_eq_true hw]
    refine iteF ?_
    have hb' := s1 _ _ hb
    obtain ⟨us1, l1, l1n, l1o⟩ := h3.same s1
    obtain ⟨us2, l2, l2n, l2o⟩ := h4.same s1
    cases hg : nd.gv with
    | cond wt pl i v =>
      rw [hg] at hl h2
      obtain ⟨b2, eg, c2⟩ := h2
      subst eg
      obtain ⟨rb, hrb, hlr⟩ := Option.map_eq_some_iff.mp hl
      have c2' : CondAt (upd H T0 (.tup [.str "if", .str "while"])) b2 wt pl i v := by
        obtain ⟨c3, z1, z2⟩ := c2
        exact ⟨c3, s1 _ _ z1, s1 _ _ z2⟩
      refine ⟨_, rfl, a, CS, dx, _, _, rfl, h1', TS.cl, TS.nGiven, sf_given, _, rfl, _, rfl, b2, b, c, wt, pl, i, v, cells, rb, rfl, c2', hb', hpl _ _ _ _ hg, hrb, _, rfl, ?_⟩
      cases rb with
      | true =>
        refine iteT ?_
        refine ⟨_, rfl, a, CS, dx, _, _, rfl, h1', TS.cl, TS.nInside, sf_inside, ?_⟩
        refine ⟨_, rfl, _, .inl ⟨_, .inl (.inl l1), rfl⟩, ?_⟩
        rw [if_pos rfl] at hlr
        rcases l1o with ⟨rfl, e0⟩ | ⟨e0, b3, dx3, r3, wd3, g3, li3, lo3, fo3, rfl, hb3⟩
        · refine iteF ?_
          rw [if_pos e0] at hlr
          refine ⟨_, rfl, a, CS, dx, _, _, rfl, h1', TS.cl, TS.nFollow, sf_follow, ?_⟩
          rw [hlr]
          exact q _ s1
        · refine iteT ?_
          rw [if_neg (by omega)] at hlr
          refine ⟨_, rfl, li, _, 0, .ref b3, rfl, rfl, .inl (.inl l1), at_of (j := 0) rfl rfl, b3, CS, dx3, _, _, rfl, hb3, TS.cl, TS.nLine, sf_line, ?_⟩
          rw [hlr]
          exact q _ s1
      | false =>
        refine iteF ?_
        refine ⟨_, rfl, a, CS, dx, _, _, rfl, h1', TS.cl, TS.nOtherwise, sf_otherwise, ?_⟩
        refine ⟨_, rfl, _, .inl ⟨_, .inl (.inl l2), rfl⟩, ?_⟩
        rw [if_neg Bool.false_ne_true] at hlr
        rcases l2o with ⟨rfl, e0⟩ | ⟨e0, b3, dx3, r3, wd3, g3, li3, lo3, fo3, rfl, hb3⟩
        · refine iteF ?_
          rw [if_pos e0] at hlr
          refine ⟨_, rfl, a, CS, dx, _, _, rfl, h1', TS.cl, TS.nFollow, sf_follow, ?_⟩
          rw [hlr]
          exact q _ s1
        · refine iteT ?_
          rw [if_neg (by omega)] at hlr
          refine ⟨_, rfl, lo, _, 0, .ref b3, rfl, rfl, .inl (.inl l2), at_of (j := 0) rfl rfl, b3, CS, dx3, _, _, rfl, hb3, TS.cl, TS.nLine, sf_line, ?_⟩
          rw [hlr]
          exact q _ s1
    | non => rw [hg] at hl; cases hl
    | pair i n => rw [hg] at hl; cases hl
    | letter z => rw [hg] at hl; cases hl
    | part ln => rw [hg] at hl; cases hl
  · rw [if_neg hw] at hl
    rw [decide_eq_false hw]
    refine iteT ?_
    refine ⟨_, rfl, a, CS, dx, _, _, rfl, h1', TS.cl, TS.nFollow, sf_follow, ?_⟩
    rw [Option.some.inj hl]
    exact q _ s1
end
end Fv
set_option Elab.async false
set_option linter.all false
set_option maxRecDepth 100000
set_option maxHeartbeats 4000000
namespace Fv
open PySem PySem.Spec PyProof.Rows L2 TL
theorem nats_app (a b : List Nat) : nats (a ++ b) = nats a ++ nats b := List.map_append
theorem nats_len (a : List Nat) : (nats a).length = a.length := List.length_map _
theorem nats_last (o : Nat) (r : List Nat) : atI (nats (o :: r).reverse) (-1) = some (V.int (o : Int)) := by
  rw [List.reverse_cons, nats_app]
  exact atI_last _ _
theorem six_init (o : Nat) (r : List Nat) : HT.sIx (nats (o :: r).reverse).length (nats (o :: r).reverse).length (some (-1)) = r.length := by
  rw [nats_len, List.length_reverse, List.length_cons]
  unfold HT.sIx
  dsimp only
  rw [if_pos (by decide)]
  omega
theorem nats_init (o : Nat) (r : List Nat) : cutV (nats (o :: r).reverse) none (some (-1)) = nats r.reverse := by
  unfold cutV
  rw [HT.sIx_none, six_init, List.drop_zero, Nat.sub_zero, List.reverse_cons, nats_app, List.take_append_of_le_length (by rw [nats_len, List.length_reverse]; exact Nat.le_refl _)]
  exact List.take_of_length_le (by rw [nats_len, List.length_reverse]; exact Nat.le_refl _)
section
variable {P : Program} {w : World} {K : PySem.W.Frag} {mg : Str → Option Value} {base : Heap}
abbrev s_resumed : Stmt := top 14
abbrev sc_resumedN : List Str := ["program", "outer", "line"]
theorem sc_resumed : FnScope sc_resumedN ["program", "outer", "line"] (defScope s_resumed) := ⟨rfl, rfl, rfl, by decide +kernel, rfl, by decide +kernel, by decide +kernel⟩
def spRes (CP CS : Addr) : Sp := fun vs H Q _ => ∃ (a b : Addr) (tab : List (Nat × Nd)) (ms : NV) (first line : Nat) (outer ctl : List Nat), vs = [.ref a, .ref b, .int (line : Int)] ∧ RunAt CP CS H a tab ms first ∧ H b = some (.tup (nats outer.reverse)) ∧ outer.length ≤ 900 ∧ resR tab outer line = some ctl ∧
  ∀ (p : Addr) (H' : Hp), Same H H' → H' p = some (.tup (nats ctl.reverse)) → Q (.ref p) H'
theorem ok_resumed {f CP CS : Addr} {fd : FuncData} (F : Fun K "resumed" "resumed" s_resumed f fd) (TG : GTxt K CP) (TS : STxt K CS) : FnOk P w K mg base CX0 1 f fd ["program", "outer", "line"] (spRes CP CS) := by
  refine F.ok sc_resumed (fun vs H Q E h => ?_) (fun cdv A outer st H vs Q E hr h => ?_)
  · obtain ⟨a, b, tab, ms, first, line, outer, ctl, rfl, _⟩ := h
    rfl
  obtain ⟨a, b, tab, ms, first, line, ou, ctl, rfl, R, hb, hl, hc, q⟩ := h
  have hu := hu_of hr
  refine ⟨_, (pss_cons (ps_while PassesOwn.never (PW.pt (pw_and (pt_cmpR op_eq (pv 2) pe_int (nomark _)) (pw_and1 (pt_truth (pv 1) (by intro _; rfl)))))
(pss_cons (ps_set (i := 2) sc_resumed.nd rfl (Or.inl rfl) (pe_fld (pe_dget hu (pe_fld (pv 0) rfl) (pe_ix ix_tup (pv 1) (pe_un un_neg pe_int) (fun _ _ => rfl)) (fun _ _ => rfl)) rfl))
(pss_one (ps_set (i := 1) sc_resumed.nd rfl (Or.inl rfl) (pe_slice sl_tupA (pv 1) po_none (po_some (pe_un un_neg pe_int)))))))
(pss_one (ps_ret (pe_ifExp (pt_truth (pv 2) (by intro _; rfl)) (pe_op op_catA (pv 1) (pe_tup (pa_cons (pv 2) pa_nil))) (pe_tup pa_nil))))), ?_⟩
  refine ⟨fun mm σ H2 => ∃ (b2 : Addr) (line2 : Nat) (ou2 : List Nat), σ = [some (.ref a), some (.ref b2), some (.int (line2 : Int))] ∧ mm = ou2.length ∧ Same H H2 ∧ H2 b2 = some (.tup (nats ou2.reverse)) ∧ ou2.length ≤ 900 ∧ resR tab ou2 line2 = some ctl, ⟨_, b, line, ou, rfl, rfl, fun _ _ h => h, hb, hl, hc⟩, ?_⟩
  rintro mm σ H2 ⟨b2, line2, ou2, rfl, rfl, s2, hb2, hl2, hc2⟩
  -- the end
  refine ⟨_, rfl, rfl, _, rfl, ?_⟩
  by_cases h0 : line2 = 0
  · subst h0
    refine iteT ?_
    refine ⟨_, rfl, _, .inr (.inl ⟨_, .inl (.inl hb2), rfl⟩), ?_⟩
    cases ou2 with
    | nil =>
      refine iteF ?_
      refine ⟨_, rfl, _, rfl, iteF ?_⟩
      refine ⟨small (by show 0 ≤ 1000; decide), fun p hp => ?_⟩
      have e : ctl = [] := by
        unfold resR at hc2
        rw [if_pos rfl] at hc2
        exact (Option.some.inj hc2).symm
      subst e
      exact q p _ (s2.trans (same_new hp _)) upd_same
    | cons o r =>
      have ne : (!(nats (o :: r).reverse).isEmpty) = true := by
        rw [List.reverse_cons, nats_app]
        cases nats r.reverse <;> rfl
      rw [ne]
      refine iteT ?_
      unfold resR at hc2
      rw [if_pos rfl] at hc2
      cases hrow : rowAt tab o with
      | none => rw [hrow] at hc2; cases hc2
      | some nd =>
        rw [hrow] at hc2
        have hc3 : resR tab r nd.fo = some ctl := hc2
        obtain ⟨dx, c, q0, t, r0, z, sy, as, kvs, h1, h2, h3, h4, h5⟩ := (R.same s2).it
        obtain ⟨sa, hv, ⟨dxs, g, li, lo, hs, _, _, _⟩⟩ := h5.at_ hrow
        refine ⟨fun σ' H' => ∃ m', m' < (o :: r).length ∧ ∃ (b2 : Addr) (line2 : Nat) (ou2 : List Nat), σ' = [some (.ref a), some (.ref b2), some (.int (line2 : Int))] ∧ m' = ou2.length ∧ Same H H' ∧ H' b2 = some (.tup (nats ou2.reverse)) ∧ ou2.length ≤ 900 ∧ resR tab ou2 line2 = some ctl, fun σ' H' z => z, ?_⟩
        refine ⟨_, rfl, a, CP, dx, _, _, rfl, h1, TG.cl, TG.nStatements, gl_statements, _, rfl, _, rfl, b2, _, _, _, rfl, rfl, .inl (.inl hb2), nats_last o r, t, .ref sa, rfl, ?_, sa, CS, dxs, _, _, rfl, hs, TS.cl, TS.nFollow, sf_follow, ?_⟩
        · have z2 := DGet.k (k := Sum.inl (o : Int)) h4
          rw [hv] at z2
          exact z2
        · refine ⟨_, rfl, _, rfl, _, rfl, b2, _, rfl, .inl (.inl hb2), fun hw => ?_, fun _ p hp => ?_⟩
          · have := hw.2
            rw [six_init, nats_len, List.length_reverse, List.length_cons] at this
            omega
          · rw [nats_init]
            exact ⟨r.length, Nat.lt_succ_self _, p, nd.fo, r, rfl, rfl, s2.trans (same_new hp _), upd_same, by rw [List.length_cons] at hl2; omega, hc3⟩
  · have e1 : decide (V.int (line2 : Int) = V.int 0) = false := decide_eq_false fun z => h0 (by have := V.int.inj z; omega)
    rw [e1]
    refine iteF ?_
    have e2 : (((line2 : Nat) : Int) != 0) = true := bne_iff_ne.mpr (by omega)
    refine ⟨_, rfl, _, rfl, ?_⟩
    rw [e2]
    refine iteT ?_
    refine ⟨_, rfl, _, rfl, small (by show 1 ≤ 1000; decide), fun A1 hA1 => ?_⟩
    have s3 := same_new hA1 (.tup [.int (line2 : Int)])
    have e3 : ctl = line2 :: ou2 := by
      cases ou2 with
      | nil =>
        unfold resR at hc2
        rw [if_neg h0] at hc2
        exact (Option.some.inj hc2).symm
      | cons o r =>
        unfold resR at hc2
        rw [if_neg h0] at hc2
        exact (Option.some.inj hc2).symm
    subst e3
    have e4 : nats (line2 :: ou2).reverse = nats ou2.reverse ++ [.int (line2 : Int)] := by
      rw [List.reverse_cons, nats_app]
      rfl
    rw [e4] at q
    refine ⟨b2, A1, nats ou2.reverse, [.int (line2 : Int)], rfl, rfl, .inl (.inl (s3 _ _ hb2)), .inl (.inl upd_same), ?_, fun h => ?_, fun _ h => absurd h (by simp), fun _ _ p hp => ?_⟩
    · rw [nats_len, List.length_reverse]
      exact small (by show _ + 1 ≤ 1000; omega)
    · rw [h, List.nil_append] at q
      exact q A1 _ (s2.trans s3) upd_same
    · exact q p _ ((s2.trans s3).trans (same_new hp _)) upd_same
end
end Fv
set_option Elab.async false
set_option linter.all false
set_option maxRecDepth 100000
set_option maxHeartbeats 4000000
namespace Fv
open PySem PySem.Spec PyProof.Rows L2 TL
/-- t + u, wherever it then stands -/
def rCatP : R2 := fun x y H Q => ∃ (a b : Addr) (xs ys : List V), x = .ref a ∧ y = .ref b ∧ H a = some (.tup xs) ∧ H b = some (.tup ys) ∧ xs.length + ys.length ≤ 1000 ∧ ∀ (p : Addr) (H' : Hp), Same H H' → H' p = some (.tup (xs ++ ys)) → Q (.ref p) H'
theorem op_catP {X : Cx} : OpR X (binaryOp .Add) rCatP := by
  intro pins s σ H x y v u Q I rx ry h
  obtain ⟨a, b, xs, ys, rfl, rfl, ha, hb, hl, q⟩ := h
  refine op_catA pins s σ H _ _ v u Q I rx ry ⟨a, b, xs, ys, rfl, rfl, .inl (.inl ha), .inl (.inl hb), by rw [sizeLine_eq]; omega, fun e => ?_, fun _ e => ?_, fun _ _ p hp => q p _ (same_new hp _) upd_same⟩
  · subst e
    exact q b H (fun _ _ h => h) hb
  · subst e
    rw [List.append_nil] at q
    exact q a H (fun _ _ h => h) ha
/-- t[lo:hi], wherever it then stands -/
def rSlP : V → Option Int → Option Int → Hp → VK → Prop := fun x lo hi H Q => ∃ (a : Addr) (xs : List V), x = .ref a ∧ H a = some (.tup xs) ∧ ∀ (p : Addr) (H' : Hp), Same H H' → H' p = some (.tup (cutV xs lo hi)) → Q (.ref p) H'
theorem sl_tupP {X : Cx} : SlR X rSlP := by
  intro pins s σ H x v vl vu lo hi sl Q I rx hs pl pu h
  obtain ⟨a, xs, rfl, hx, q⟩ := h
  refine sl_tupA pins s σ H _ v vl vu lo hi sl Q I rx hs pl pu ⟨a, xs, rfl, .inl (.inl hx), fun hw => ?_, fun _ p hp => q p _ (same_new hp _) upd_same⟩
  refine q a H (fun _ _ h => h) ?_
  rw [hx]
  congr 2
  unfold cutV
  rw [hw.1, hw.2, List.drop_zero, Nat.sub_zero, List.take_length]
theorem nats_take (ns : List Nat) (i : Nat) (h : i ≤ ns.length) : cutV (nats ns) none (some (i : Int)) = nats (ns.take i) := by
  unfold cutV
  rw [HT.sIx_none, HT.sIx_nat, List.drop_zero, Nat.sub_zero, nats_len, Nat.min_eq_left h]
  unfold nats
  rw [List.map_take]
theorem nats_drop (ns : List Nat) (i : Nat) (h : i ≤ ns.length) : cutV (nats ns) (some (i : Int)) none = nats (ns.drop i) := by
  unfold cutV
  rw [HT.sIx_none, HT.sIx_nat, nats_len, Nat.min_eq_left h]
  unfold nats
  rw [List.map_drop]
  exact List.take_of_length_le (by rw [List.length_drop, List.length_map]; exact Nat.le_refl _)
/-- d.get(k, z), d a dict of the module -/
def tKDGet (K : PySem.W.Frag) (w : World) (td ty tx : TE) : TE := fun σ H Q => td σ H fun x H1 => ∃ (a : Addr) (es : Array DictEntry) (n : Nat), x = .ref a ∧ KDict K w a es n ∧ ty σ H1 fun y H2 => tx σ H2 fun z H3 => ∃ (k : Str) (r : Option Value) (v : V), y = .str k ∧ PySem.W.nsIn K a k = some r ∧ (∀ u, r = some u → RelV v u) ∧ (r = none → v = z) ∧ Q v H3
theorem pe_kdget {X : Cx} {o e f : Expr} {apos cpos : Pos} {td ty tx : TE} (ho : PE X o td) (he : PE X e ty) (hf : PE X f tx) (m : M2 X o "get" apos e f cpos) : PE X (.Call (.Attribute o "get" apos) [e, f] [] cpos) (tKDGet X.K X.w td ty tx) := by
  refine ⟨fun pins s σ H Q I h => ?_⟩
  refine wpAny_Call_method m.base m.few m.line PySem.F.plainAttrs_dict PySem.F.slot_dict_get PySem.F.type_dict_get (thn (ho.run pins s σ H _ I h) fun u s1 ⟨x, H1, I1, rx, a, es, n, ex, D, q1⟩ => ?_)
  subst ex
  obtain rfl : u = Value.ref a := rx
  refine ⟨kd_type D I1, fun b q => ⟨_, by cases q; exact I1.kIn _ _ D.at_, rfl⟩, ?_⟩
  rw [m.trees]
  refine Calls.callWith_builtin rfl (Calls.evalArgs_plain (Calls.spliced_cons (thn (he.run pins s1 σ H1 _ I1 q1) fun iv s2 ⟨y, H2, I2, ry, q2⟩ =>
    Calls.spliced_cons (thn (hf.run pins s2 σ H2 _ I2 q2) fun fv s3 ⟨z, H3, I3, rz, k, r, v, ey, e1, e2, e3, q3⟩ => Calls.spliced_nil ?_))))
  subst ey
  obtain ⟨t, rfl⟩ := ry
  have hm := PySem.W.mapOf_K (prog := X.prog) (w := X.w) I3.kIn D.at_ D.lit
  refine call_meetsIn PySem.F.slot_dict_get hm.typeIs PySem.F.entry_dict_get (PySem.F.args_dict_get_3 _ _ _) (meets_dict_get_default (strKind X.prog X.w) a (PySem.strKind_is X.prog X.w k t) D.low fv) ⟨_, hm, ?_⟩
  rw [PySem.W.find_K D.at_ e1]
  cases r with
  | none =>
    rw [e3 rfl] at q3
    exact ⟨z, H3, I3.tok _, rz, q3⟩
  | some u => exact ⟨v, H3, I3.tok _, e2 u rfl, q3⟩
end Fv
set_option Elab.async false
set_option linter.all false
set_option maxRecDepth 100000
set_option maxHeartbeats 4000000
namespace Fv
open PySem PySem.Spec PyProof.Rows L2 TL
theorem pair_at {H : Hp} : ∀ {as : List Addr} {ms : NV} {i : Nat} {c : Str} {m : Nat}, Pairs H as (kvS ms) → ms[i]? = some (c, m) → ∃ b, as[i]? = some b ∧ H b = some (.tup [.str c, .int (m : Int)]) := by
  intro as ms
  induction ms generalizing as with
  | nil => intro i c m _ h; cases i <;> cases h
  | cons x ms ih =>
    intro i c m h hi
    unfold Pairs kvS at h
    cases h with
    | cons h1 h2 =>
      cases i with
      | zero =>
        have e : x = (c, m) := Option.some.inj hi
        subst e
        exact ⟨_, rfl, h1⟩
      | succ i =>
        obtain ⟨b, h3, h4⟩ := ih (as := _) h2 hi
        exact ⟨b, h3, h4⟩
theorem set_cut (ns : List Nat) (i n : Nat) (h : i < ns.length) : ns.set i n = ns.take i ++ n :: ns.drop (i + 1) := by
  rw [List.set_eq_take_append_cons_drop, if_pos h]
section
variable {P : Program} {w : World} {K : PySem.W.Frag} {mg : Str → Option Value} {base : Heap}
abbrev s_cells_after : Stmt := top 15
abbrev sc_cells_afterN : List Str := ["program", "statement", "cells", "index", "number"]
theorem sc_cells_after : FnScope sc_cells_afterN ["program", "statement", "cells"] (defScope s_cells_after) := ⟨rfl, rfl, rfl, by decide +kernel, rfl, by decide +kernel, by decide +kernel⟩
def spCellsA (CP CS : Addr) : Sp := fun vs H Q _ => ∃ (a sa b : Addr) (tab : List (Nat × Nd)) (ms : NV) (first n : Nat) (nd : Nd) (cells cs : List Nat), vs = [.ref a, .ref sa, .ref b] ∧ RunAt CP CS H a tab ms first ∧ NdAt CS H sa n nd ∧ H b = some (.tup (nats cells)) ∧ cells.length ≤ 900 ∧ cellsP (ms.map (·.2)) nd cells = some cs ∧
  ∀ (p : Addr) (H' : Hp), Same H H' → H' p = some (.tup (nats cs)) → Q (.ref p) H'
theorem ok_cells_after {f CP CS : Addr} {fd : FuncData} (F : Fun K "cells_after" "cells_after" s_cells_after f fd) (TG : GTxt K CP) (TS : STxt K CS) : FnOk P w K mg base CX0 1 f fd ["program", "statement", "cells"] (spCellsA CP CS) := by
  refine F.ok sc_cells_after (fun vs H Q E h => ?_) (fun cdv A outer st H vs Q E hr h => ?_)
  · obtain ⟨a, sa, b, tab, ms, first, n, nd, cells, cs, rfl, _⟩ := h
    rfl
  obtain ⟨a, sa, b, tab, ms, first, n, nd, cells, cs, rfl, R, N, hb, hl, hc, q⟩ := h
  refine ⟨_, (pss_cons (ps_if (pt_cmpR op_notIn_seq (pe_fld (pv 1) rfl) (pe_tup (pa_cons pe_str (pa_cons pe_str pa_nil))) (by rfl))
(pss_one (ps_ret (pv 2)))
pss_nil)
(pss_cons (ps_asg (pe_fld (pv 1) rfl) (pg_tup (by rfl) (pgs_cons (pg_name (i := 3) sc_cells_after.nd rfl (Or.inl rfl)) (pgs_cons (pg_name (i := 4) sc_cells_after.nd rfl (Or.inl rfl)) pgs_nil))))
(pss_cons (ps_if (pt_cmpR op_eq (pe_fld (pv 1) rfl) pe_str (nomark _))
(pss_one (ps_set (i := 4) sc_cells_after.nd rfl (Or.inl rfl) (pe_op op_mod (pe_op op_add (pe_ix ix_tup (pv 2) (pv 3) (fun _ _ => rfl)) (pv 4)) (pe_op op_add (pe_ix ix_tup (pe_ix ix_tup (pe_fld (pv 0) rfl) (pv 3) (fun _ _ => rfl)) pe_int (fun _ _ => rfl)) pe_int))))
pss_nil)
(pss_one (ps_ret (pe_op op_catP (pe_op op_catP (pe_slice sl_tupP (pv 2) po_none (po_some (pv 3))) (pe_tup (pa_cons (pv 4) pa_nil))) (pe_slice sl_tupP (pv 2) (po_some (pe_op op_add (pv 3) pe_int)) po_none))))))), ?_⟩
  obtain ⟨dxs, g, li, lo, hs, hgv, _, _⟩ := id N
  refine ⟨_, rfl, sa, CS, dxs, _, _, rfl, hs, TS.cl, TS.nWord, sf_word, small (by show 2 ≤ 1000; decide), fun T0 hT0 => ?_⟩
  have s1 := same_new hT0 (.tup [.str "set", .str "add"])
  refine ⟨T0, _, rfl, .inr (.inl (.inl upd_same)), rfl, rfl, _, rfl, ?_⟩
  dsimp only
  have ein : inV (.str nd.wd) [.str "set", .str "add"] = decide (nd.wd = "set" ∨ nd.wd = "add") := by
    refine (inV_str nd.wd [("set" : Str), "add"]).trans ?_
    exact decide_eq_decide.mpr (by simp)
  rw [ein]
  -- the tail: cells with one set
  have tail : ∀ (H2 : Hp) (i v : Nat) (Q' : VK), H2 b = some (.tup (nats cells)) → i < cells.length → (∀ (p : Addr) (H' : Hp), Same H2 H' → H' p = some (.tup (nats (cells.set i v))) → Q' (.ref p) H') →
      tOp rCatP (tOp rCatP (tSl rSlP (tVar 2) tNoPart (tPart (tVar 3))) (tTup (tCons (tVar 4) tNil))) (tSl rSlP (tVar 2) (tPart (tOp (rI0 fun i j => .int (i + j)) (tVar 3) (tC (.int 1)))) tNoPart) [some (.ref a), some (.ref sa), some (.ref b), some (.int (i : Int)), some (.int (v : Int))] H2 Q' := fun H2 i v Q' hb2 hi q2 => by
    refine ⟨_, rfl, _, rfl, _, rfl, b, _, rfl, hb2, fun p1 H3 s3 h3 => ⟨_, rfl, small (by show 1 ≤ 1000; decide), fun A hA => ?_⟩⟩
    rw [nats_take _ _ (by omega)] at h3
    have s4 := same_new hA (.tup [.int (v : Int)])
    have l1 : (nats (cells.take i)).length ≤ 900 := by rw [nats_len, List.length_take]; omega
    refine ⟨p1, A, _, [.int (v : Int)], rfl, rfl, s4 _ _ h3, upd_same, by show _ + 1 ≤ 1000; omega, fun p2 H5 s5 h5 => ?_⟩
    have hb5 := s5 _ _ (s4 _ _ (s3 _ _ hb2))
    refine ⟨_, rfl, _, rfl, _, _, rfl, rfl, _, rfl, b, _, rfl, hb5, fun p3 H6 s6 h6 => ?_⟩
    have e1 : ((i : Int) + 1) = ((i + 1 : Nat) : Int) := by omega
    rw [e1, nats_drop _ _ (by omega)] at h6
    refine ⟨p2, p3, _, _, rfl, rfl, s6 _ _ h5, h6, ?_, fun p7 H7 s7 h7 => ?_⟩
    · rw [List.length_append, nats_len, nats_len, List.length_take, List.length_drop]
      show _ + 1 + _ ≤ 1000
      omega
    · refine q2 p7 H7 ((((s3.trans s4).trans s5).trans s6).trans s7) ?_
      rw [h7, set_cut _ _ _ hi, List.append_assoc, nats_app]
      rfl
  have R1 := R.same s1
  have hs1 := s1 _ _ hs
  have hb1 := s1 _ _ hb
  have hg1 : GvAt _ g nd.gv := hgv.map fun b xs h => s1 _ _ h
  generalize upd H T0 (.tup [.str "set", .str "add"]) = H1 at s1 R1 hs1 hb1 hg1 ⊢
  unfold cellsP at hc
  by_cases hw : nd.wd = "set" ∨ nd.wd = "add"
  · rw [decide_eq_true hw]
    refine iteF ?_
    cases hgg : nd.gv with
    | pair i v =>
      rw [hgg] at hg1 hc
      obtain ⟨b2, rfl, hb2⟩ := hg1
      refine ⟨_, rfl, sa, CS, dxs, _, _, rfl, hs1, TS.cl, TS.nGiven, sf_given, b2, _, rfl, .inl (.inl hb2), rfl, _, _, rfl, _, _, rfl, rfl, ?_⟩
      refine ⟨_, rfl, sa, CS, dxs, _, _, rfl, hs1, TS.cl, TS.nWord, sf_word, rfl, _, rfl, ?_⟩
      by_cases ha : nd.wd = "add"
      · have hns : ¬ nd.wd = "set" := by rw [ha]; decide +kernel
        rw [if_neg hns, if_pos ha] at hc
        have e1 : decide (V.str nd.wd = V.str "add") = true := decide_eq_true (by rw [ha])
        rw [e1]
        refine iteT ?_
        dsimp only at hc
        cases hx : cells[i]? with
        | none => rw [hx] at hc; cases hc
        | some x =>
          rw [hx] at hc
          cases hm : (ms.map (·.2))[i]? with
          | none => rw [hm] at hc; cases hc
          | some m =>
            rw [hm] at hc
            have ecs : cells.set i ((x + v) % (m + 1)) = cs := Option.some.inj hc
            obtain ⟨cm, hcm, ecm⟩ : ∃ cm, ms[i]? = some cm ∧ cm.2 = m := by
              rw [List.getElem?_map] at hm
              obtain ⟨y, h1, h2⟩ := Option.map_eq_some_iff.mp hm
              exact ⟨y, h1, h2⟩
            obtain ⟨dx, c, q0, t, r0, z, sy, as, kvs, r1, r2, r3, r4, r5⟩ := R1.it
            obtain ⟨pb, hpb, hpb2⟩ := pair_at (c := cm.1) (m := m) r3 (by rw [hcm, ← ecm])
            refine ⟨_, rfl, _, rfl, b, _, _, _, rfl, rfl, .inl (.inl hb1), nats_get hx, _, rfl, _, _, rfl, rfl, ?_⟩
            refine ⟨_, rfl, a, CP, dx, _, _, rfl, r1, TG.cl, TG.nCells, gl_cells, _, rfl, c, _, _, .ref pb, rfl, rfl, .inl (.inl r2), at_of (j := i) rfl (by rw [List.getElem?_map, hpb]; rfl), pb, _, 1, _, rfl, rfl, .inl (.inl hpb2), at_of (j := 1) rfl rfl, _, _, rfl, rfl, ?_⟩
            have e2 : (((x : Nat) : Int) + (v : Int)) % (((m : Nat) : Int) + 1) = (((x + v) % (m + 1) : Nat) : Int) := by
              rw [Int.natCast_emod]
              rfl
            refine ⟨_, _, rfl, rfl, by omega, ?_⟩
            have t0 := tail H1 i ((x + v) % (m + 1)) Q hb1 (List.getElem?_eq_some_iff.mp hx).1 fun p H' s h => q p H' (s1.trans s) (by rw [← ecs]; exact h)
            rw [← e2] at t0
            exact t0
      · have hst : nd.wd = "set" := hw.resolve_right ha
        rw [if_pos hst] at hc
        dsimp only at hc
        have e1 : decide (V.str nd.wd = V.str "add") = false := decide_eq_false fun z => ha (V.str.inj z)
        rw [e1]
        refine iteF ?_
        by_cases hi : i < cells.length
        · rw [if_pos hi] at hc
          have ecs := Option.some.inj hc
          exact tail H1 i v _ hb1 hi fun p H' s h => q p H' (s1.trans s) (by rw [← ecs]; exact h)
        · rw [if_neg hi] at hc
          cases hc
    | non =>
      rw [hgg] at hc
      rcases hw with h | h
      · rw [if_pos h] at hc
        cases hc
      · rw [if_neg (by rw [h]; decide +kernel), if_pos h] at hc
        cases hc
    | letter z =>
      rw [hgg] at hc
      rcases hw with h | h
      · rw [if_pos h] at hc
        cases hc
      · rw [if_neg (by rw [h]; decide +kernel), if_pos h] at hc
        cases hc
    | cond wt pl i v =>
      rw [hgg] at hc
      rcases hw with h | h
      · rw [if_pos h] at hc
        cases hc
      · rw [if_neg (by rw [h]; decide +kernel), if_pos h] at hc
        cases hc
    | part ln =>
      rw [hgg] at hc
      rcases hw with h | h
      · rw [if_pos h] at hc
        cases hc
      · rw [if_neg (by rw [h]; decide +kernel), if_pos h] at hc
        cases hc
  · rw [decide_eq_false hw]
    refine iteT ?_
    rw [if_neg (fun h => hw (.inl h)), if_neg (fun h => hw (.inr h))] at hc
    have ecs := Option.some.inj hc
    refine ⟨_, rfl, ?_⟩
    exact q b H1 s1 (by rw [← ecs]; exact hb1)
end
end Fv
set_option Elab.async false
set_option linter.all false
set_option maxRecDepth 100000
set_option maxHeartbeats 4000000
namespace Fv
open PySem PySem.Spec PyProof.Rows L2 TL
/-- what is told of rows of a table beside their words -/
def NdOk (nd : Nd) : Prop := PyData.strOk nd.wd = true ∧ ∀ wt pl i v, nd.gv = .cond wt pl i v → pl.length ≤ 1000
/-- MOVES -/
structure MovesK (K : PySem.W.Frag) (w : World) (mg : Str → Option Value) : Prop where
  it : ∃ (a : Addr) (es : Array DictEntry) (n : Nat), mg "MOVES" = some (.ref a) ∧ KDict K w a es n ∧ ∀ x : Str, ∃ r : Option Value, PySem.W.nsIn K a x = some r ∧ (∀ u, r = some u → RelV (.int (moveP x)) u) ∧ (r = none → moveP x = 0)
section
variable {P : Program} {w : World} {K : PySem.W.Frag} {mg : Str → Option Value} {base : Heap}
abbrev s_step : Stmt := top 10
abbrev sc_stepN : List Str := ["program", "state", "sign", "control", "cells", "statement", "line", "after"]
theorem sc_step : FnScope sc_stepN ["program", "state", "sign"] (defScope s_step) := ⟨rfl, rfl, rfl, by decide +kernel, rfl, by decide +kernel, by decide +kernel⟩
def spStep (CP CS : Addr) : Sp := fun vs H Q _ => ∃ (a : Addr) (v : V) (c : Nat) (tab : List (Nat × Nd)) (ms : NV) (first : Nat) (x x' : Stt) (mv : Int) (l : Str), vs = [.ref a, v, .str (sgS c)] ∧ RunAt CP CS H a tab ms first ∧ StV H v x ∧ x.1.length ≤ 800 ∧ x.2.length ≤ 900 ∧ PyData.strOk (sgS c) = true ∧ (∀ n nd, rowAt tab n = some nd → NdOk nd) ∧ stepP tab (ms.map (·.2)) c x = some (x', mv, l) ∧
  ∀ (p : Addr) (u : V) (H' : Hp), Same H H' → H' p = some (.tup [u, .int mv, .str l]) → StV H' u x' → Q (.ref p) H'
theorem ok_step {f CP CS : Addr} {fd : FuncData} (F : Fun K "step" "step" s_step f fd) (TG : GTxt K CP) (TS : STxt K CS) (M : MovesK K w mg)
    (CE : Callee P w K mg base 1 "ends_run" ["word", "sign"] spEnds) (CN : Callee P w K mg base 2 "next_line" ["statement", "sign", "cells"] (spNext CS)) (CR : Callee P w K mg base 1 "resumed" ["program", "outer", "line"] (spRes CP CS))
    (CC : Callee P w K mg base 1 "cells_after" ["program", "statement", "cells"] (spCellsA CP CS)) (CL : Callee P w K mg base 1 "letter_at" ["statement", "sign"] (spLetter CS)) : FnOk P w K mg base CX0 3 f fd ["program", "state", "sign"] (spStep CP CS) := by
  refine F.ok sc_step (fun vs H Q E h => ?_) (fun cdv A outer st H vs Q E hr h => ?_)
  · obtain ⟨a, v, c, tab, ms, first, x, x', mv, l, rfl, _⟩ := h
    rfl
  obtain ⟨a, v, c, tab, ms, first, x, x', mv, l, rfl, R, hst, hx1, hx2, hc, hnd, hs, q⟩ := h
  have hu := hu_of hr
  obtain ⟨am, es, nm, gM, DM, hM⟩ := M.it
  refine ⟨_, (pss_cons (ps_asg (pv 1) (pg_tup (by rfl) (pgs_cons (pg_name (i := 3) sc_step.nd rfl (Or.inl rfl)) (pgs_cons (pg_name (i := 4) sc_step.nd rfl (Or.inl rfl)) pgs_nil))))
(pss_cons (ps_set (i := 5) sc_step.nd rfl (Or.inl rfl) (pe_dget hu (pe_fld (pv 0) rfl) (pe_ix ix_tup (pv 3) (pe_un un_neg pe_int) (fun _ _ => rfl)) (fun _ _ => rfl)))
(pss_cons (ps_if (pt_val (pe_call CE.ok (hr.mono (by decide)) rfl CE.mg CE.kp CE.b .nil pass0 (pa_cons (pe_fld (pv 5) rfl) (pa_cons (pv 2) pa_nil))))
(pss_one (ps_ret (pe_tup (pa_cons (pe_tup (pa_cons (pe_tup pa_nil) (pa_cons (pv 4) pa_nil))) (pa_cons pe_int (pa_cons pe_str pa_nil))))))
pss_nil)
(pss_cons (ps_if (pt_cmpR op_eq (pe_fld (pv 5) rfl) pe_str (nomark _))
(pss_one (ps_ret (pe_tup (pa_cons (pe_tup (pa_cons (pe_op op_catP (pv 3) (pe_tup (pa_cons (pe_fld (pv 5) rfl) pa_nil))) (pa_cons (pv 4) pa_nil))) (pa_cons pe_int (pa_cons pe_str pa_nil))))))
pss_nil)
(pss_cons (ps_set (i := 6) sc_step.nd rfl (Or.inl rfl) (pe_call CN.ok hr rfl CN.mg CN.kp CN.b .nil pass0 (pa_cons (pv 5) (pa_cons (pv 2) (pa_cons (pv 4) pa_nil)))))
(pss_cons (ps_set (i := 7) sc_step.nd rfl (Or.inl rfl) (pe_tup (pa_cons (pe_call CR.ok (hr.mono (by decide)) rfl CR.mg CR.kp CR.b .nil pass0 (pa_cons (pv 0) (pa_cons (pe_slice sl_tupP (pv 3) po_none (po_some (pe_un un_neg pe_int))) (pa_cons (pv 6) pa_nil)))) (pa_cons (pe_call CC.ok (hr.mono (by decide)) rfl CC.mg CC.kp CC.b .nil pass0 (pa_cons (pv 0) (pa_cons (pv 5) (pa_cons (pv 4) pa_nil)))) pa_nil))))
(pss_one (ps_ret (pe_tup (pa_cons (pv 7) (pa_cons (pe_kdget (pe_glob (v := .ref am) rfl gM rfl) (pe_fld (pv 5) rfl) pe_int ⟨rfl, rfl, rfl, rfl⟩) (pa_cons (pe_call CL.ok (hr.mono (by decide)) rfl CL.mg CL.kp CL.b .nil pass0 (pa_cons (pv 5) (pa_cons (pv 2) pa_nil))) pa_nil)))))))))))), ?_⟩
  obtain ⟨ctl, cells⟩ := x
  obtain ⟨s0, ac, ab, rfl, h1, h2, h3⟩ := hst
  cases ctl with
  | nil => cases hs
  | cons ln ou =>
  unfold stepP at hs
  dsimp only at hs
  cases hrow : rowAt tab ln with
  | none => rw [hrow] at hs; cases hs
  | some nd =>
  rw [hrow] at hs
  rw [Option.bind_some] at hs
  obtain ⟨dx, cc, q0, t, r0, z, sy, as, kvs, r1, r2, r3, r4, r5⟩ := id R.it
  obtain ⟨sa, hv, N⟩ := r5.at_ hrow
  obtain ⟨dxs, g, li, lo, hsa, hgv, _, _⟩ := id N
  obtain ⟨hwd, hpl⟩ := hnd _ _ hrow
  refine ⟨_, rfl, s0, _, rfl, .inl (.inl h1), rfl, _, _, rfl, _, _, rfl, rfl, ?_⟩
  refine ⟨_, rfl, a, CP, dx, _, _, rfl, r1, TG.cl, TG.nStatements, gl_statements, _, rfl, _, rfl, ac, _, _, _, rfl, rfl, .inl (.inl h2), nats_last ln ou, t, .ref sa, rfl, ?_, ?_⟩
  · have z2 := DGet.k (k := Sum.inl (ln : Int)) r4
    rw [hv] at z2
    exact z2
  refine ⟨_, rfl, sa, CS, dxs, _, _, rfl, hsa, TS.cl, TS.nWord, sf_word, _, rfl, nd.wd, c, rfl, hwd, hc, fun H1 s1 => ⟨_, rfl, ?_⟩⟩
  have N1 := N.same s1
  have R1 := R.same s1
  have hsa1 := s1 _ _ hsa
  have h21 := s1 _ _ h2
  have h31 := s1 _ _ h3
  have hgv1 : GvAt H1 g nd.gv := hgv.map fun b xs h => s1 _ _ h
  cases he : endsP nd.wd c with
  | true =>
    rw [he, if_pos rfl] at hs
    have hs := Option.some.inj hs
    refine iteT ?_
    obtain ⟨rfl, hs2⟩ := Prod.mk.inj hs
    obtain ⟨rfl, rfl⟩ := Prod.mk.inj hs2
    refine ⟨small (by show 0 ≤ 1000; decide), fun A1 hA1 => ⟨_, rfl, small (by show 2 ≤ 1000; decide), fun A2 hA2 => ⟨small (by show 3 ≤ 1000; decide), fun A3 hA3 => ?_⟩⟩⟩
    have t1 := same_new hA1 (.tup [])
    have t2 := same_new hA2 (.tup [.ref A1, .ref ab])
    have t3 := same_new hA3 (.tup [.ref A2, .int 0, .str ""])
    exact q A3 (.ref A2) _ (((s1.trans t1).trans t2).trans t3) upd_same ⟨A2, A1, ab, rfl, t3 _ _ upd_same, t3 _ _ (t2 _ _ upd_same), t3 _ _ (t2 _ _ (t1 _ _ h31))⟩
  | false =>
    rw [he, if_neg Bool.false_ne_true] at hs
    refine iteF ?_
    refine ⟨_, rfl, sa, CS, dxs, _, _, rfl, hsa1, TS.cl, TS.nWord, sf_word, rfl, _, rfl, ?_⟩
    by_cases hdo : nd.wd = "do"
    · rw [if_pos hdo] at hs
      rw [decide_eq_true (by rw [hdo])]
      refine iteT ?_
      cases hg : nd.gv with
      | part n =>
        rw [hg] at hs hgv1
        have hs := Option.some.inj hs
        obtain ⟨rfl, hs2⟩ := Prod.mk.inj hs
        obtain ⟨rfl, rfl⟩ := Prod.mk.inj hs2
        have e1 : g = .int (n : Int) := hgv1
        subst e1
        refine ⟨_, rfl, _, rfl, sa, CS, dxs, _, _, rfl, hsa1, TS.cl, TS.nGiven, sf_given, small (by show 1 ≤ 1000; decide), fun A1 hA1 => ?_⟩
        have t1 := same_new hA1 (.tup [.int (n : Int)])
        refine ⟨ac, A1, _, _, rfl, rfl, t1 _ _ h21, upd_same, by rw [nats_len, List.length_reverse]; show _ + 1 ≤ 1000; omega, fun p H2 t2 hp => ⟨_, rfl, small (by show 2 ≤ 1000; decide), fun A2 hA2 => ⟨small (by show 3 ≤ 1000; decide), fun A3 hA3 => ?_⟩⟩⟩
        have t3 := same_new hA2 (.tup [.ref p, .ref ab])
        have t4 := same_new hA3 (.tup [.ref A2, .int 0, .str ""])
        refine q A3 (.ref A2) _ ((((s1.trans t1).trans t2).trans t3).trans t4) upd_same ⟨A2, p, ab, rfl, t4 _ _ upd_same, ?_, t4 _ _ (t3 _ _ (t2 _ _ (t1 _ _ h31)))⟩
        rw [t4 _ _ (t3 _ _ hp)]
        congr 2
        show _ = nats (n :: ln :: ou).reverse
        rw [List.reverse_cons (as := ln :: ou), nats_app]
        rfl
      | non => rw [hg] at hs; cases hs
      | pair i v => rw [hg] at hs; cases hs
      | letter z => rw [hg] at hs; cases hs
      | cond wt pl i v => rw [hg] at hs; cases hs
    · rw [if_neg hdo] at hs
      rw [decide_eq_false (fun z => hdo (V.str.inj z))]
      refine iteF ?_
      obtain ⟨line, hline, hs⟩ := Option.bind_eq_some_iff.mp hs
      obtain ⟨ctl', hres, hs⟩ := Option.bind_eq_some_iff.mp hs
      obtain ⟨cs, hcs, hs⟩ := Option.bind_eq_some_iff.mp hs
      obtain ⟨l0, hl0, hs⟩ := Option.map_eq_some_iff.mp hs
      obtain ⟨rfl, hs2⟩ := Prod.mk.inj hs
      obtain ⟨rfl, rfl⟩ := Prod.mk.inj hs2
      dsimp only at hx1 hx2
      rw [List.length_cons] at hx1
      refine ⟨_, rfl, _, rfl, _, rfl, sa, ab, ln, nd, c, cells, line, rfl, N1, h31, hpl, hline, fun H2 s2 => ?_⟩
      refine ⟨_, rfl, _, rfl, _, rfl, _, rfl, ac, _, rfl, s2 _ _ h21, fun p2 H3 s3 hp2 => ?_⟩
      rw [nats_init] at hp2
      have s123 := (s1.trans s2).trans s3
      refine ⟨_, rfl, a, p2, tab, ms, first, line, ou, ctl', rfl, R.same s123, hp2, by omega, hres, fun p4 H4 s4 hp4 => ?_⟩
      have s14 := s123.trans s4
      refine ⟨_, rfl, _, rfl, _, rfl, a, sa, ab, tab, ms, first, ln, nd, cells, cs, rfl, R.same s14, N.same s14, s14 _ _ h3, by omega, hcs, fun p5 H5 s5 hp5 => ⟨small (by show 2 ≤ 1000; decide), fun A6 hA6 => ?_⟩⟩
      have s6 := same_new hA6 (.tup [.ref p4, .ref p5])
      have s16 := (s14.trans s5).trans s6
      obtain ⟨rm, hm1, hm2, hm3⟩ := hM nd.wd
      refine ⟨_, rfl, am, es, nm, rfl, DM, _, rfl, sa, CS, dxs, _, _, rfl, s16 _ _ hsa, TS.cl, TS.nWord, sf_word, nd.wd, rm, .int (moveP nd.wd), rfl, hm1, hm2, fun e => by rw [hm3 e], ?_⟩
      refine ⟨_, rfl, _, rfl, sa, ln, nd, c, l0, rfl, N.same s16, hl0, small (by show 3 ≤ 1000; decide), fun A7 hA7 => ?_⟩
      have s7 := same_new hA7 (.tup [.ref A6, .int (moveP nd.wd), .str l0])
      exact q A7 (.ref A6) _ (s16.trans s7) upd_same ⟨A6, p4, p5, rfl, s7 _ _ upd_same, s7 _ _ (s6 _ _ (s5 _ _ hp4)), s7 _ _ (s6 _ _ hp5)⟩
end
end Fv
set_option Elab.async false
set_option linter.all false
set_option maxRecDepth 100000
set_option maxHeartbeats 4000000
namespace Fv
open PySem PySem.Spec PyProof.Rows L2 TL
/-! ### runs, as a function -/
abbrev Cf := Stt × Nat
/-- the next configuration, the letter that is written -/
def nextC (tab : List (Nat × Nd)) (mosts : List Nat) (signs : List Nat) (c : Cf) : Option (Cf × Str) :=
  if c.1.1.length ≤ 10 ∧ c.1.2.length ≤ 10 then
    (signs[c.2]?).bind fun g => if PyData.strOk (sgS g) = true then (stepP tab mosts g c.1).bind fun r => if 0 ≤ (c.2 : Int) + r.2.1 ∧ r.2.2.length ≤ 10 then some ((r.1, ((c.2 : Int) + r.2.1).toNat), r.2.2) else none else none
  else none
/-- it ends after just n steps; what it writes -/
def runsN (tab : List (Nat × Nd)) (mosts : List Nat) (signs : List Nat) : Nat → Cf → Option (List (Str × Nat))
  | 0, c => if c.1.1 = [] then some [] else none
  | n + 1, c => if c.1.1 = [] then none else (nextC tab mosts signs c).bind fun r => (runsN tab mosts signs n r.1).map fun o => if r.2 = "" then o else (r.2, c.2) :: o
theorem runs_uniq {tab : List (Nat × Nd)} {mosts signs : List Nat} : ∀ {n m : Nat} {c : Cf} {o o' : List (Str × Nat)}, runsN tab mosts signs n c = some o → runsN tab mosts signs m c = some o' → n = m
  | 0, 0, _, _, _, _, _ => rfl
  | 0, m + 1, c, o, o', h, k => by
    unfold runsN at h k
    by_cases e : c.1.1 = []
    · rw [if_pos e] at k; cases k
    · rw [if_neg e] at h; cases h
  | n + 1, 0, c, o, o', h, k => by
    unfold runsN at h k
    by_cases e : c.1.1 = []
    · rw [if_pos e] at h; cases h
    · rw [if_neg e] at k; cases k
  | n + 1, m + 1, c, o, o', h, k => by
    unfold runsN at h k
    by_cases e : c.1.1 = []
    · rw [if_pos e] at h; cases h
    · rw [if_neg e] at h k
      cases hn : nextC tab mosts signs c with
      | none => rw [hn] at h; cases h
      | some r =>
        rw [hn] at h k
        obtain ⟨o1, h1, _⟩ := Option.map_eq_some_iff.mp h
        obtain ⟨o2, h2, _⟩ := Option.map_eq_some_iff.mp k
        rw [runs_uniq h1 h2]
def numK (n : Nat) : NestedKey := .num (n : Int)
def keyOf (c : Cf) : NestedKey := .tup [.tup [.tup (c.1.1.reverse.map numK), .tup (c.1.2.map numK)], numK c.2]
theorem numK_inj {a b : List Nat} (h : a.map numK = b.map numK) : a = b := by
  refine List.map_inj_right (f := numK) (fun x y e => ?_) |>.mp h
  unfold numK at e
  injection e with e
  omega
theorem key_inj {c c' : Cf} (h : keyOf c = keyOf c') : c = c' := by
  obtain ⟨⟨a, b⟩, p⟩ := c
  obtain ⟨⟨a', b'⟩, p'⟩ := c'
  unfold keyOf at h
  injection h with h
  obtain ⟨h1, h2⟩ := List.cons.inj h
  injection h1 with h1
  obtain ⟨h3, h4⟩ := List.cons.inj h1
  injection h3 with h3
  injection (List.cons.inj h4).1 with h5
  have e2 : (p : Int) = p' := by
    have := (List.cons.inj h2).1
    unfold numK at this
    injection this
  have e1 := List.reverse_inj.mp (numK_inj h3)
  have e3 := numK_inj h5
  dsimp only at e1 e3
  subst e1 e3
  have e4 : p = p' := by omega
  subst e4
  rfl
theorem depth_nums : ∀ ns : List Nat, NestedKey.depthAll (ns.map numK) = 0
  | [] => by simp only [List.map_nil, NestedKey.depthAll]
  | n :: r => by
    simp only [List.map_cons, NestedKey.depthAll, depth_nums r]
    unfold numK
    simp only [NestedKey.depth, Nat.max_self]
theorem key_depth (c : Cf) : (keyOf c).depth ≤ 8 := by
  unfold keyOf
  simp only [NestedKey.depth, NestedKey.depthAll, depth_nums]
  unfold numK
  simp only [NestedKey.depth]
  decide
theorem nums_all (H : Hp) : ∀ ns : List Nat, NkAll H (ns.map numK) (nats ns)
  | [] => .nil
  | n :: r => .cons (.int _) (nums_all H r)
theorem StV.nk {H : Hp} {v : V} {x : Stt} (h : StV H v x) : NkV H (.tup [.tup (x.1.reverse.map numK), .tup (x.2.map numK)]) v := by
  obtain ⟨s, a, b, rfl, h1, h2, h3⟩ := h
  exact .tup h1 (.cons (.tup h2 (nums_all H _)) (.cons (.tup h3 (nums_all H _)) .nil))
theorem key_nk {H : Hp} {v : V} {x : Stt} {t : Addr} {pos : Nat} (h : StV H v x) (ht : H t = some (.tup [v, .int (pos : Int)])) : NkV H (keyOf (x, pos)) (.ref t) := .tup ht (.cons h.nk (.cons (.int _) .nil))
/-- what was written, in the heap -/
def OutAt (H : Hp) (refs : List V) (outs : List (Str × Nat)) : Prop := Paired (fun (r : V) (o : Str × Nat) => ∃ b, r = .ref b ∧ H b = some (.tup [.str o.1, .int (o.2 : Int)])) refs outs
theorem OutAt.map {H H' : Hp} (e : ∀ a vs, H a = some (.tup vs) → H' a = some (.tup vs)) {refs : List V} {outs : List (Str × Nat)} (h : OutAt H refs outs) : OutAt H' refs outs := by
  unfold OutAt at h ⊢
  induction h with
  | nil => exact .nil
  | cons r _ ih =>
    obtain ⟨b, h1, h2⟩ := r
    exact .cons ⟨b, h1, e _ _ h2⟩ ih
theorem atKey_none {xs : KX} {k : NestedKey} (h : ∀ x ∈ xs, x.1 ≠ k) : atKey xs k = none := by
  unfold atKey
  rw [List.find?_eq_none.mpr fun x hx => by simpa using h x hx]
  rfl
end Fv
set_option Elab.async false
set_option linter.all false
set_option maxRecDepth 100000
set_option maxHeartbeats 4000000
namespace Fv
open PySem PySem.Spec PyProof.Rows L2 TL
section
variable {P : Program} {w : World} {K : PySem.W.Frag} {mg : Str → Option Value} {base : Heap}
abbrev s_marked : Stmt := top 21
abbrev sc_markedN : List Str := ["text"]
theorem sc_marked : FnScope sc_markedN ["text"] (defScope s_marked) := ⟨rfl, rfl, rfl, by decide +kernel, rfl, by decide +kernel, by decide +kernel⟩
def spMarked : Sp := fun vs H Q _ => ∃ t : Str, vs = [.str t] ∧ t.length ≤ 900 ∧ Q (.str (ordOf t)) H
theorem ok_marked {f : Addr} {fd : FuncData} (F : Fun K "marked" "marked" s_marked f fd) : FnOk P w K mg base CX0 1 f fd ["text"] spMarked := by
  refine F.ok sc_marked (fun vs H Q E h => ?_) (fun cdv A outer st H vs Q E hr h => ?_)
  · obtain ⟨t, rfl, _⟩ := h
    rfl
  obtain ⟨t, rfl, ht, q⟩ := h
  refine ⟨_, (pss_one (ps_ret (pe_joined (.cons pe_str (.cons (pe_fmt (pv 0)) (.cons pe_str .nil)))))), ?_⟩
  have l0 : (Str.empty ++ ("<" : Str)).length = 1 := by decide +kernel
  have l1 : ((Str.empty ++ ("<" : Str)) ++ t).length ≤ 901 := by rw [len_app, l0]; omega
  have l2 : (((Str.empty ++ ("<" : Str)) ++ t) ++ (">" : Str)).length ≤ 902 := by
    have e : (">" : Str).length = 1 := by decide +kernel
    rw [len_app, e]; omega
  exact ⟨_, rfl, small (by rw [l0]; decide), _, rfl, .inl ⟨t, rfl, small (by omega), t, rfl, small (by omega), _, rfl, small (by omega), q⟩⟩
theorem tl_ord (t : Str) : tl (ordOf t) = 60 :: (tl t ++ [62]) := by
  unfold ordOf
  rw [tl_append, tl_append, tl_append]
  have e1 : tl Str.empty = [] := by decide +kernel
  have e2 : tl ("<" : Str) = [60] := by decide +kernel
  have e3 : tl (">" : Str) = [62] := by decide +kernel
  rw [e1, e2, e3]
  rfl
/-! ### run_of_program -/
abbrev s_run_of_program : Stmt := top 25
abbrev sc_run_of_programN : List Str := ["program", "text", "signs", "state", "position", "steps", "output", "move", "letter"]
theorem sc_run_of_program : FnScope sc_run_of_programN ["program", "text"] (defScope s_run_of_program) := ⟨rfl, rfl, rfl, by decide +kernel, rfl, by decide +kernel, by decide +kernel⟩
/-- a run that ends -/
def spRunP (CP CS : Addr) : Sp := fun vs H Q _ => ∃ (a : Addr) (t : Str) (tab : List (Nat × Nd)) (ms : NV) (first n : Nat) (outs : List (Str × Nat)), vs = [.ref a, .str t] ∧ RunAt CP CS H a tab ms first ∧ ms.length ≤ 2 ∧ t.length ≤ 900 ∧ (∀ n nd, rowAt tab n = some nd → NdOk nd) ∧ n ≤ 3000000 ∧
  runsN tab (ms.map (·.2)) (tl (ordOf t)) n (([first], List.replicate ms.length 0), 0) = some outs ∧
  ∀ (p b : Addr) (refs : List V) (H' : Hp), Same H H' → H' p = some (.tup [.str "done", .ref b]) → H' b = some (.tup refs) → OutAt H' refs outs → Q (.ref p) H'
theorem ok_run_of_program {f CP CS : Addr} {fd : FuncData} (F : Fun K "run_of_program" "run_of_program" s_run_of_program f fd) (T : Bare mg)
    (CM : Callee P w K mg base 1 "marked" ["text"] spMarked) (CF : Callee P w K mg base 1 "first_state" ["program"] (spFirst CP CS)) (CT : Callee P w K mg base 3 "step" ["program", "state", "sign"] (spStep CP CS)) : FnOk P w K mg base CX0 4 f fd ["program", "text"] (spRunP CP CS) := by
  refine F.ok sc_run_of_program (fun vs H Q E h => ?_) (fun cdv A outer st H vs Q E hr h => ?_)
  · obtain ⟨a, t, tab, ms, first, n, outs, rfl, _⟩ := h
    rfl
  obtain ⟨a, t, tab, ms, first, n, outs, rfl, R, hms, ht, hnd, hn, hrun, q⟩ := h
  have hu9 : A.units + 3 + 9 < cLine := by
    have := hr.un
    have e : (A.deeper (envOfC "run_of_program" (defScope s_run_of_program) st.heap.objs.size f cdv)).units = A.units + 3 := rfl
    rw [e] at this
    omega
  refine ⟨_, (pss_cons (ps_set (i := 2) sc_run_of_program.nd rfl (Or.inl rfl) (pe_call CM.ok (hr.mono (by decide)) rfl CM.mg CM.kp CM.b .nil pass0 (pa_cons (pv 1) pa_nil)))
(pss_cons (ps_par (i := 3) (j := 4) (by rfl) sc_run_of_program.nd rfl rfl (by decide) rfl rfl (pa_cons (pe_call CF.ok (hr.mono (by decide)) rfl CF.mg CF.kp CF.b .nil pass0 (pa_cons (pv 0) pa_nil)) (pa_cons pe_int pa_nil)) (by rfl))
(pss_cons (ps_set (i := 5) sc_run_of_program.nd rfl (Or.inl rfl) pe_dnewN)
(pss_cons (ps_set (i := 6) sc_run_of_program.nd rfl (Or.inl rfl) (pe_lst pa_nil))
(pss_cons (ps_while PassesOwn.never (pt_truth (pe_ix ix_tup (pv 3) pe_int (fun _ _ => rfl)) (by intro _; rfl))
(pss_cons (ps_if (pt_cmp (pc_kin hu9 (pe_tup (pa_cons (pv 3) (pa_cons (pv 4) pa_nil))) (pv 5)))
(pss_one ps_never)
pss_nil)
(pss_cons (ps_kput hu9 (pv 5) (pe_tup (pa_cons (pv 3) (pa_cons (pv 4) pa_nil))) (pe_callB call_lenK (by rfl) T.len PySem.boot_len (pa_cons (pv 5) pa_nil)) rfl)
(pss_cons (ps_asg (pe_call CT.ok hr rfl CT.mg CT.kp CT.b .nil pass0 (pa_cons (pv 0) (pa_cons (pv 3) (pa_cons (pe_ix ix_str (pv 2) (pv 4) (fun _ _ => rfl)) pa_nil)))) (pg_tup (by rfl) (pgs_cons (pg_name (i := 3) sc_run_of_program.nd rfl (Or.inl rfl)) (pgs_cons (pg_name (i := 7) sc_run_of_program.nd rfl (Or.inl rfl)) (pgs_cons (pg_name (i := 8) sc_run_of_program.nd rfl (Or.inl rfl)) pgs_nil)))))
(pss_cons (ps_if (pt_truth (pv 8) (by intro _; rfl))
(pss_one (ps_expr (pe_bm PySem.F.plainAttrs_list PySem.F.slot_list_append PySem.F.type_list_append mt_append (pv 6) (pa_cons (pe_tup (pa_cons (pv 8) (pa_cons (pv 4) pa_nil))) pa_nil))))
pss_nil)
(pss_one (ps_aug (i := 4) sc_run_of_program.nd rfl (Or.inl rfl) (pv 7) ip_add)))))))
(pss_one (ps_ret (pe_tup (pa_cons pe_str (pa_cons (pe_callTy call_tuple_of (by rfl) T.tuple (by decide +kernel) (pa_cons (pv 6) pa_nil)) pa_nil)))))))))), ?_⟩
  refine ⟨_, rfl, t, rfl, ht, ?_⟩
  refine ⟨_, rfl, a, tab, ms, first, rfl, R, hms, fun p0 H1 s1 hp0 => ?_⟩
  refine ⟨_, _, rfl, ?_⟩
  intro d hd
  have s2 := same_new hd (KDct P w d [])
  have kd0 : KAt P w (upd H1 d (KDct P w d [])) d [] := ⟨upd_same, by decide, fun x hx => by cases hx⟩
  have hdH : H d = none := s1.free hd
  refine ⟨small (by show 0 ≤ 1000; decide), fun L hL => ?_⟩
  have s3 := same_new hL (.lst [])
  have hLH : H L = none := s1.free (s2.free hL)
  have nLd : d ≠ L := ne_of_none kd0.1 hL
  refine ⟨fun m σ H4 => ∃ (vst : V) (x : Stt) (pos : Nat) (xs : KX) (refs : List V) (done rest : List (Str × Nat)) (y7 y8 : Option V), σ = [some (.ref a), some (.str t), some (.str (ordOf t)), some vst, some (.int (pos : Int)), some (.ref d), some (.ref L), y7, y8] ∧ Same H H4 ∧ StV H4 vst x ∧ KAt P w H4 d xs ∧ xs.length + m = n ∧
      (∀ k ∈ xs, ∃ c' m' o', m < m' ∧ k.1 = keyOf c' ∧ runsN tab (ms.map (·.2)) (tl (ordOf t)) m' c' = some o') ∧ H4 L = some (.lst refs) ∧ refs.length ≤ xs.length ∧ OutAt H4 refs done ∧ runsN tab (ms.map (·.2)) (tl (ordOf t)) m (x, pos) = some rest ∧ outs = done ++ rest,
    ⟨n, .ref p0, _, 0, [], [], [], outs, none, none, rfl, (s1.trans s2).trans s3, (hp0.same s2).same s3, kd0.same s3, by simp, fun k hk => (by cases hk), upd_same, Nat.le_refl _, .nil, hrun, rfl⟩, ?_⟩
  rintro m σ H4 ⟨vst, x, pos, xs, refs, done, rest, y7, y8, rfl, sH, hst, kd, hxs, hkeys, hL4, hrl, hout, hr4, eo⟩
  obtain ⟨s0, ac, ab, rfl, h1, h2, h3⟩ := id hst
  refine ⟨_, rfl, s0, _, 0, .ref ac, rfl, rfl, .inl (.inl h1), at_of (j := 0) rfl rfl, _, .inr (.inl ⟨_, .inl (.inl h2), rfl⟩), ?_⟩
  cases m with
  | zero =>
    unfold runsN at hr4
    by_cases e0 : x.1 = []
    · rw [if_pos e0] at hr4
      have er := Option.some.inj hr4
      have e1 : (!(nats x.1.reverse).isEmpty) = false := by rw [e0]; rfl
      rw [e1]
      refine iteF ?_
      refine ⟨_, rfl, L, refs, rfl, .inl ⟨.inl (.inl hL4), fun b hb => ⟨small (by show 2 ≤ 1000; decide), fun p hp => ?_⟩⟩⟩
      have s5 := same_new hb (.tup refs)
      have s6 := same_new hp (.tup [.str "done", .ref b])
      rw [← er, List.append_nil] at eo
      subst eo
      exact q p b refs _ ((sH.trans s5).trans s6) upd_same (s6 _ _ upd_same) (hout.map fun a vs h => s6 _ _ (s5 _ _ h))
    · rw [if_neg e0] at hr4; cases hr4
  | succ m =>
    unfold runsN at hr4
    have hr4' := hr4
    by_cases e0 : x.1 = []
    · rw [if_pos e0] at hr4; cases hr4
    · rw [if_neg e0] at hr4
      have e1 : (!(nats x.1.reverse).isEmpty) = true := by
        cases hx : x.1 with
        | nil => exact absurd hx e0
        | cons o r =>
          rw [List.reverse_cons, nats_app]
          cases nats r.reverse <;> rfl
      rw [e1]
      refine iteT ?_
      cases hnx : nextC tab (ms.map (·.2)) (tl (ordOf t)) (x, pos) with
      | none => rw [hnx] at hr4; cases hr4
      | some r =>
      obtain ⟨⟨x', pos'⟩, l⟩ := r
      rw [hnx] at hr4
      obtain ⟨rest', hr5, er⟩ := Option.map_eq_some_iff.mp hr4
      have hr5 : runsN tab (ms.map (·.2)) (tl (ordOf t)) m (x', pos') = some rest' := hr5
      have er : (if l = "" then rest' else (l, pos) :: rest') = rest := er
      unfold nextC at hnx
      dsimp only at hnx
      by_cases hg : x.1.length ≤ 10 ∧ x.2.length ≤ 10
      · rw [if_pos hg] at hnx
        obtain ⟨g, hgs, hnx⟩ := Option.bind_eq_some_iff.mp hnx
        by_cases hok : PyData.strOk (sgS g) = true
        · rw [if_pos hok] at hnx
          obtain ⟨⟨x2, mv, l2⟩, hstep, hnx⟩ := Option.bind_eq_some_iff.mp hnx
          dsimp only at hnx
          by_cases hpos : 0 ≤ (pos : Int) + mv ∧ l2.length ≤ 10
          · rw [if_pos hpos] at hnx
            obtain ⟨ea, rfl⟩ := Prod.mk.inj (Option.some.inj hnx)
            obtain ⟨rfl, rfl⟩ := Prod.mk.inj ea
            have hnk : ∀ (H9 : Hp) (T : Addr), StV H9 (.ref s0) x → H9 T = some (.tup [.ref s0, .int (pos : Int)]) → NkV H9 (keyOf (x, pos)) (.ref T) := fun H9 T h1 h2 => key_nk h1 h2
            have hr6 : runsN tab (ms.map (·.2)) (tl (ordOf t)) (m + 1) (x, pos) = some rest := by
              unfold runsN
              exact hr4'
            have hno : atKey xs (keyOf (x, pos)) = none := atKey_none fun k hk e => by
              obtain ⟨c', m', o', hm', ek, hr'⟩ := hkeys k hk
              rw [ek] at e
              have ec := key_inj e
              subst ec
              have := runs_uniq hr' hr6
              omega
            refine ⟨_, fun σ' H' z => z, ?_⟩
            refine ⟨_, rfl, _, rfl, small (by show 2 ≤ 1000; decide), fun T1 hT1 => ?_⟩
            have t1 := same_new hT1 (.tup [.ref s0, .int (pos : Int)])
            refine ⟨_, rfl, d, T1, xs, keyOf (x, pos), rfl, rfl, kd.same t1, hnk _ _ (hst.same t1) upd_same, key_depth _, _, rfl, ?_⟩
            rw [hno]
            refine iteF ?_
            -- the dict grows
            have kd1 := kd.same t1
            refine ⟨_, rfl, d, xs, rfl, kd1, _, rfl, _, rfl, _, rfl, small (by show 2 ≤ 1000; decide), fun T2 hT2 => ?_⟩
            have t2 := same_new hT2 (.tup [.ref s0, .int (pos : Int)])
            have t12 := t1.trans t2
            refine ⟨d, T2, xs, keyOf (x, pos), rfl, rfl, kd.same t12, by omega, hnk _ _ (hst.same t12) upd_same, key_depth _, hno, fun rr H5 hrr e5 kd5 => ?_⟩
            have up : ∀ b o, upd (upd H4 T1 (.tup [.ref s0, .int (pos : Int)])) T2 (.tup [.ref s0, .int (pos : Int)]) b = some o → b ≠ d → H5 b = some o := fun b o h nb => by
              rw [e5, upd_ne nb]
              exact h
            have upt : ∀ b o, H4 b = some o → b ≠ d → H5 b = some o := fun b o h nb => up b o (t12 _ _ h) nb
            have sH5 : Same H H5 := fun b o h => upt b o (sH _ _ h) (ne_of_none h hdH)
            have tt5 : ∀ b vs, H4 b = some (.tup vs) → H5 b = some (.tup vs) := fun b vs h => upt b _ h (ne_of h kd.1 (by intro z; cases z))
            have hst5 : StV H5 (.ref s0) x := ⟨s0, ac, ab, rfl, tt5 _ _ h1, tt5 _ _ h2, tt5 _ _ h3⟩
            have hL5 : H5 L = some (.lst refs) := upt L _ hL4 (ne_of hL4 kd.1 (by intro z; cases z))
            have hout5 := hout.map tt5
            have egs : atI (ordOf t).cps.toList (pos : Int) = some g := atI_nat hgs
            have lord : (ordOf t).length ≤ 902 := by
              rw [len_tl, tl_ord, List.length_cons, List.length_append, ← len_tl]
              show _ + 1 + 1 ≤ 902
              omega
            refine ⟨_, rfl, _, rfl, _, rfl, _, rfl, ordOf t, _, g, rfl, rfl, small (by omega), egs, a, .ref s0, g, tab, ms, first, x, x2, mv, l2, rfl, R.same sH5, hst5, by omega, by omega, hok, hnd, hstep, fun p u H6 s6 hp hst6 => ?_⟩
            refine ⟨p, _, rfl, .inl (.inl hp), rfl, _, _, rfl, _, _, rfl, _, _, rfl, rfl, ?_⟩
            have kd6 := kd5.same s6
            have sH6 := sH5.trans s6
            have hL6 := s6 _ _ hL5
            have hout6 : OutAt H6 refs done := hout5.map fun b vs h => s6 _ _ h
            refine ⟨_, rfl, _, ⟨small (by omega), rfl⟩, ?_⟩
            have epos : ((pos : Int) + mv) = ((((pos : Int) + mv).toNat : Nat) : Int) := by omega
            have keys' : ∀ k ∈ xs ++ [(keyOf (x, pos), T2, rr)], ∃ c' m' o', m < m' ∧ k.1 = keyOf c' ∧ runsN tab (ms.map (·.2)) (tl (ordOf t)) m' c' = some o' := fun k hk => by
              rcases List.mem_append.mp hk with hk | hk
              · obtain ⟨c', m', o', z1, z2, z3⟩ := hkeys k hk
                exact ⟨c', m', o', by omega, z2, z3⟩
              · rw [List.mem_singleton.mp hk]
                exact ⟨(x, pos), m + 1, rest, Nat.lt_succ_self _, rfl, hr6⟩
            have lxs : (xs ++ [(keyOf (x, pos), T2, rr)]).length = xs.length + 1 := by rw [List.length_append]; rfl
            by_cases hl : l2 = ""
            · have e7 : ((l2.length : Int) != 0) = false := by rw [hl]; decide +kernel
              rw [e7]
              refine iteF ?_
              refine ⟨_, rfl, _, rfl, _, _, rfl, rfl, m, Nat.lt_succ_self _, u, x2, _, _, refs, done, rest', some (.int mv), some (.str l2), (by rw [← epos]; rfl), sH6, hst6, kd6, by rw [lxs]; omega, keys', hL6, by rw [lxs]; omega, hout6, hr5, ?_⟩
              rw [if_pos hl] at er
              rw [er]
              exact eo
            · have e7 : ((l2.length : Int) != 0) = true := by
                refine bne_iff_ne.mpr fun z => hl ?_
                have hl0 : (tl l2).length = 0 := by rw [← len_tl]; omega
                exact tl_inj (by rw [List.eq_nil_of_length_eq_zero hl0]; decide +kernel)
              rw [e7]
              refine iteT ?_
              refine ⟨_, rfl, .inl ⟨rfl, _, .inl (.inl hL6)⟩, _, rfl, _, rfl, small (by show 2 ≤ 1000; decide), fun T3 hT3 => ?_⟩
              have t3 := same_new hT3 (.tup [.str l2, .int (pos : Int)])
              refine ⟨L, refs, .ref T3, rfl, rfl, t3 _ _ hL6, by rw [sizeLine_eq]; omega, ?_⟩
              have nLd6 : d ≠ L := fun z => by
                rw [← z, kd6.1] at hL6
                cases hL6
              have up7 : ∀ b o, H6 b = some o → b ≠ L → upd (upd H6 T3 (.tup [.str l2, .int (pos : Int)])) L (.lst (refs ++ [.ref T3])) b = some o := fun b o h nb => by
                rw [upd_ne nb]
                exact t3 _ _ h
              have tt7 : ∀ b vs, H6 b = some (.tup vs) → upd (upd H6 T3 (.tup [.str l2, .int (pos : Int)])) L (.lst (refs ++ [.ref T3])) b = some (.tup vs) := fun b vs h => up7 b _ h (ne_of h hL6 (by intro z; cases z))
              have hT3' : upd (upd H6 T3 (.tup [.str l2, .int (pos : Int)])) L (.lst (refs ++ [.ref T3])) T3 = some (.tup [.str l2, .int (pos : Int)]) := by
                rw [upd_ne (fun z => by rw [z, hL6] at hT3; cases hT3)]
                exact upd_same
              have hL7 : upd (upd H6 T3 (.tup [.str l2, .int (pos : Int)])) L (.lst (refs ++ [.ref T3])) L = some (.lst (refs ++ [.ref T3])) := upd_same
              have kd7 := kd6.map (up7 _ _ kd6.1 nLd6) tt7
              have hst7 : StV (upd (upd H6 T3 (.tup [.str l2, .int (pos : Int)])) L (.lst (refs ++ [.ref T3]))) u x2 := by
                obtain ⟨z1, z2, z3, rfl, z4, z5, z6⟩ := hst6
                exact ⟨z1, z2, z3, rfl, tt7 _ _ z4, tt7 _ _ z5, tt7 _ _ z6⟩
              have sH7 : Same H (upd (upd H6 T3 (.tup [.str l2, .int (pos : Int)])) L (.lst (refs ++ [.ref T3]))) := fun b o h => up7 b o (sH6 _ _ h) (ne_of_none h hLH)
              refine ⟨_, rfl, _, rfl, _, _, rfl, rfl, m, Nat.lt_succ_self _, u, x2, _, _, refs ++ [.ref T3], done ++ [(l2, pos)], rest', some (.int mv), some (.str l2), (by rw [← epos]; rfl), sH7, hst7, kd7, by rw [lxs]; omega, keys', hL7, by rw [lxs, List.length_append]; show _ + 1 ≤ _; omega, ?_, hr5, ?_⟩
              · exact paired_app (hout6.map tt7) (.cons ⟨T3, rfl, hT3'⟩ .nil)
              · rw [if_neg hl] at er
                rw [List.append_assoc, eo, ← er]
                rfl
          · rw [if_neg hpos] at hnx; cases hnx
        · rw [if_neg hok] at hnx; cases hnx
      · rw [if_neg hg] at hnx; cases hnx
end
end Fv
set_option Elab.async false
set_option linter.all false
set_option maxRecDepth 100000
set_option maxHeartbeats 4000000
namespace Fv
open PySem PySem.Spec PyProof.Rows L2 TL
/-- what isinstance asks of the class -/
structure IsTxt (K : PySem.W.Frag) (C : Addr) : Prop where
  ha : PySem.W.findIn K (.ref C) "__class__" = some (some (.builtin "object.__class__"))
  hn : PySem.W.specialIn K (.builtin "object.__class__") "__get__" = some (some (.builtin "getset_descriptor.__get__"))
  htk : PySem.W.takesIn K (.builtin "object.__class__") = some true
  hm : PySem.W.mroIn K C (.type "object") = some true
/-- the symbols of the program at a -/
def SymAt (CP : Addr) (H : Hp) (a : Addr) (sy : Str) : Prop := ∃ dx z c q t fi r, H a = some (.ins CP dx (gl z sy c q t fi r))
theorem SymAt.same {CP : Addr} {H H' : Hp} {a : Addr} {sy : Str} (h : SymAt CP H a sy) (s : Same H H') : SymAt CP H' a sy := by
  obtain ⟨dx, z, c, q, t, fi, r, h⟩ := h
  exact ⟨dx, z, c, q, t, fi, r, s _ _ h⟩
theorem ProgAt.sym {CP CS : Addr} {H : Hp} {a : Addr} {z sy : Str} {ms : NV} {ps : List PartR} {nm : Nat × List Tr} (h : ProgAt CP CS H a z sy ms ps nm) : SymAt CP H a sy := by
  obtain ⟨dx, c, q, t, r, as, tt, mt, h1, _⟩ := h.it
  exact ⟨dx, z, c, q, t, _, r, h1⟩
section
variable {P : Program} {w : World} {K : PySem.W.Frag} {mg : Str → Option Value} {base : Heap}
abbrev s_is_text : Stmt := top 19
abbrev sc_is_textN : List Str := ["machine", "value", "sign"]
theorem sc_is_text : FnScope sc_is_textN ["machine", "value"] (defScope s_is_text) := ⟨rfl, rfl, rfl, by decide +kernel, rfl, by decide +kernel, by decide +kernel⟩
/-- a text over the symbols -/
def spIsText (CP : Addr) : Sp := fun vs H Q _ => ∃ (a : Addr) (t sy : Str), vs = [.ref a, .str t] ∧ SymAt CP H a sy ∧ t.length ≤ 900 ∧ (∀ c ∈ tl t, c ∈ tl sy) ∧ ∀ H', Same H H' → Q (.bl true) H'
theorem ok_is_text {f CP : Addr} {fd : FuncData} (F : Fun K "is_text" "is_text" s_is_text f fd) (T : Bare mg) (T1 : Consts K mg) (hisi : mg "isinstance" = none) (TG : GTxt K CP) : FnOk P w K mg base CX0 1 f fd ["machine", "value"] (spIsText CP) := by
  refine F.ok sc_is_text (fun vs H Q E h => ?_) (fun cdv A outer st H vs Q E hr h => ?_)
  · obtain ⟨a, t, sy, rfl, _⟩ := h
    rfl
  obtain ⟨a, t, sy, rfl, ⟨dx, z, c, q0, t0, fi, r, h1⟩, ht, hs, q⟩ := h
  refine ⟨_, (pss_one (ps_ret (pe_and (pe_callB call_isi (by rfl) hisi (by decide +kernel) (pa_cons (pv 1) (pa_cons (pe_bltn (v := .ty "str") (u := .type "str") (by rfl) T.str (by decide +kernel) rfl) pa_nil))) (pe_one (pe_callB (cr_all rfl) (by rfl) T1.all (by decide +kernel) (pa_cons (pe_lc (own := [("sign", 2)]) (g := gName 2) rfl sc_is_text.nd (pi_str (pv 1)) (blkOk_by (N := sc_is_textN) (sc := defScope s_is_text) (by decide +kernel)) (fun _ _ _ _ _ => pg_name (i := 2) sc_is_text.nd rfl (Or.inl rfl)) (fun _ _ _ _ _ => pts_nil) (fun _ _ _ _ _ => (pe_cmpR op_in_sign (pv 2) (show PE _ _ (tFld K (tVar 0) "symbols") from pe_fld (pv 0) rfl) (by rfl)))) pa_nil)))))), ?_⟩
  refine ⟨_, rfl, .str t, .ty "str", .type "str", .type "str", true, rfl, .ty "str", .base (.str t), kit_ty (by decide +kernel), true, rfl, iteT ?_⟩
  refine ⟨_, rfl, t, rfl, fun D hD => lc_pure (signV t) (fun i => V.bl (decide (t.cps.toList.getD i 0 ∈ sy.cps.toList))) walk_text (fun _ => rfl) (by omega) (fun i Q' hi k => ?_) ?_⟩
  · exact ⟨_, rfl, _, rfl, a, CP, dx, _, _, rfl, (same_new hD _) _ _ h1, TG.cl, TG.nSymbols, gl_symbols, _, sy, rfl, rfl, k⟩
  · refine ⟨D, (tl t).map (fun c => decide (c ∈ sy.cps.toList)), rfl, .inl (.inl ?_), ?_⟩
    · rw [upd_same, List.map_map, ← map_signs]
      rfl
    · have e : ((tl t).map (fun c => decide (c ∈ sy.cps.toList))).all id = true := by
        rw [List.all_map]
        exact List.all_eq_true.mpr fun c hc => decide_eq_true (hs c hc)
      rw [e]
      exact q _ (same_new hD _)
abbrev s_check_text : Stmt := top 20
abbrev sc_check_textN : List Str := ["machine", "text"]
theorem sc_check_text : FnScope sc_check_textN ["machine", "text"] (defScope s_check_text) := ⟨rfl, rfl, rfl, by decide +kernel, rfl, by decide +kernel, by decide +kernel⟩
def spCheck (CP : Addr) : Sp := fun vs H Q _ => ∃ (a : Addr) (t sy : Str), vs = [.ref a, .str t] ∧ SymAt CP H a sy ∧ t.length ≤ 900 ∧ (∀ c ∈ tl t, c ∈ tl sy) ∧ ∀ H', Same H H' → Q .non H'
theorem ok_check_text {f CP : Addr} {fd : FuncData} (F : Fun K "check_text" "check_text" s_check_text f fd) (CI : Callee P w K mg base 1 "is_text" ["machine", "value"] (spIsText CP)) : FnOk P w K mg base CX0 2 f fd ["machine", "text"] (spCheck CP) := by
  refine F.ok sc_check_text (fun vs H Q E h => ?_) (fun cdv A outer st H vs Q E hr h => ?_)
  · obtain ⟨a, t, sy, rfl, _⟩ := h
    rfl
  obtain ⟨a, t, sy, rfl, S, ht, hs, q⟩ := h
  refine ⟨_, (pss_one (ps_if (pt_not (pt_val (pe_call CI.ok hr rfl CI.mg CI.kp CI.b .nil pass0 (pa_cons (pv 0) (pa_cons (pv 1) pa_nil)))))
(pss_one ps_never)
pss_nil)), ?_⟩
  exact ⟨_, rfl, _, rfl, a, t, sy, rfl, S, ht, hs, fun H' s => ⟨_, rfl, iteF (q H' s)⟩⟩
abbrev s_run : Stmt := top 24
abbrev sc_runN : List Str := ["machine", "text"]
theorem sc_run : FnScope sc_runN ["machine", "text"] (defScope s_run) := ⟨rfl, rfl, rfl, by decide +kernel, rfl, by decide +kernel, by decide +kernel⟩
/-- a run that ends -/
def spRun (CP CS : Addr) : Sp := fun vs H Q _ => ∃ (a : Addr) (t sy : Str) (tab : List (Nat × Nd)) (ms : NV) (first n : Nat) (outs : List (Str × Nat)), vs = [.ref a, .str t] ∧ SymAt CP H a sy ∧ (∀ c ∈ tl t, c ∈ tl sy) ∧ RunAt CP CS H a tab ms first ∧ ms.length ≤ 2 ∧ t.length ≤ 900 ∧ (∀ n nd, rowAt tab n = some nd → NdOk nd) ∧ n ≤ 3000000 ∧
  runsN tab (ms.map (·.2)) (tl (ordOf t)) n (([first], List.replicate ms.length 0), 0) = some outs ∧
  ∀ (p b : Addr) (refs : List V) (H' : Hp), Same H H' → H' p = some (.tup [.str "done", .ref b]) → H' b = some (.tup refs) → OutAt H' refs outs → Q (.ref p) H'
theorem ok_run {f CP CS CC : Addr} {fd : FuncData} (F : Fun K "run" "run" s_run f fd) (TG : GTxt K CP) (TI : IsTxt K CP) (hisi : mg "isinstance" = none) (hCh : mg "Chain" = some (.ref CC)) (hk : PySem.W.kitOne K (.ref CP) (.ref CC) = some false)
    (CK : Callee P w K mg base 2 "check_text" ["machine", "text"] (spCheck CP)) (CR : Callee P w K mg base 4 "run_of_program" ["program", "text"] (spRunP CP CS)) : FnOk P w K mg base CX0 5 f fd ["machine", "text"] (spRun CP CS) := by
  refine F.ok sc_run (fun vs H Q E h => ?_) (fun cdv A outer st H vs Q E hr h => ?_)
  · obtain ⟨a, t, sy, tab, ms, first, n, outs, rfl, _⟩ := h
    rfl
  obtain ⟨a, t, sy, tab, ms, first, n, outs, rfl, S, hs, R, hms, ht, hnd, hn, hrun, q⟩ := h
  refine ⟨_, (pss_cons (ps_expr (pe_call CK.ok (hr.mono (by decide)) rfl CK.mg CK.kp CK.b .nil pass0 (pa_cons (pv 0) (pa_cons (pv 1) pa_nil))))
(pss_cons (ps_if (pt_val (pe_callB call_isi (by rfl) hisi (by decide +kernel) (pa_cons (pv 0) (pa_cons (pe_glob (v := .ref CC) (by rfl) hCh rfl) pa_nil))))
(pss_one ps_never)
pss_nil)
(pss_one (ps_ret (pe_call CR.ok hr rfl CR.mg CR.kp CR.b .nil pass0 (pa_cons (pv 0) (pa_cons (pv 1) pa_nil))))))), ?_⟩
  refine ⟨_, rfl, _, rfl, a, t, sy, rfl, S, ht, hs, fun H1 s1 => ?_⟩
  have R1 := R.same s1
  obtain ⟨dx, c, q0, tt, r, z, sy2, as, kvs, h1, _⟩ := R1.it
  refine ⟨_, rfl, .ref a, .ref CC, .ref CP, .ref CC, false, rfl, .own CC, .base (.ins h1 TG.cl TI.ha TI.hn TI.htk TI.hm), hk, _, rfl, iteF ?_⟩
  exact ⟨_, rfl, _, rfl, a, t, tab, ms, first, n, outs, rfl, R1, hms, ht, hnd, hn, hrun, fun p b refs H' s h2 h3 h4 => q p b refs H' (s1.trans s) h2 h3 h4⟩
end
end Fv
set_option Elab.async false
set_option linter.all false
set_option maxRecDepth 100000
set_option maxHeartbeats 4000000
namespace Fv
open PySem PySem.Spec PyProof.Rows L2 TL
/-! ### any run: it ends, or comes back -/
inductive Res where
  | done (outs : List (Str × Nat))
  | ever (first again : Nat)
/-- the run itself, step by step: what was met, what was written -/
def runL (tab : List (Nat × Nd)) (mosts : List Nat) (signs : List Nat) : Nat → List Cf → List (Str × Nat) → Cf → Option Res
  | 0, _, _, _ => none
  | n + 1, seen, out, c => if c.1.1 = [] then some (.done out) else if c ∈ seen then some (.ever (seen.idxOf c) seen.length) else
      (nextC tab mosts signs c).bind fun r => runL tab mosts signs n (seen ++ [c]) (if r.2 = "" then out else out ++ [(r.2, c.2)]) r.1
/-- the answer in the heap -/
def ResAt (H : Hp) (p : Addr) : Res → Prop
  | .done outs => ∃ (b : Addr) (refs : List V), H p = some (.tup [.str "done", .ref b]) ∧ H b = some (.tup refs) ∧ OutAt H refs outs
  | .ever i n => H p = some (.tup [.str "ever", .int (i : Int), .int (n : Int)])
theorem at_idx {c : Cf} : ∀ {xs : KX} {seen : List Cf}, xs.map (·.1) = seen.map keyOf → c ∈ seen → ∃ y, xs[seen.idxOf c]? = some y ∧ atKey xs (keyOf c) = some y.2
  | _, [], _, m => (nomatch m)
  | [], _ :: _, e, _ => by cases e
  | y :: xs, d :: seen, e, m => by
    obtain ⟨e1, e2⟩ := List.cons.inj e
    by_cases h : d = c
    · subst h
      refine ⟨y, by rw [List.idxOf_cons_self]; rfl, ?_⟩
      unfold atKey
      rw [List.find?_cons, decide_eq_true e1]
      rfl
    · obtain ⟨z, h1, h2⟩ := at_idx e2 (by rcases List.mem_cons.mp m with m | m; exact absurd m.symm h; exact m)
      refine ⟨z, ?_, ?_⟩
      · rw [List.idxOf_cons, show (d == c) = false from beq_eq_false_iff_ne.mpr h]
        exact h1
      · unfold atKey at h2 ⊢
        rw [List.find?_cons, decide_eq_false (fun z => h (key_inj (e1.symm.trans z)))]
        exact h2
theorem at_not {c : Cf} {xs : KX} {seen : List Cf} (e : xs.map (·.1) = seen.map keyOf) (m : c ∉ seen) : atKey xs (keyOf c) = none := atKey_none fun x hx z => by
  have h1 : x.1 ∈ seen.map keyOf := by rw [← e]; exact List.mem_map.mpr ⟨x, hx, rfl⟩
  obtain ⟨d, hd, h2⟩ := List.mem_map.mp h1
  rw [z] at h2
  exact m (key_inj h2 ▸ hd)
section
variable {P : Program} {w : World} {K : PySem.W.Frag} {mg : Str → Option Value} {base : Heap}
def spRunG (CP CS : Addr) : Sp := fun vs H Q _ => ∃ (a : Addr) (t : Str) (tab : List (Nat × Nd)) (ms : NV) (first n : Nat) (res : Res), vs = [.ref a, .str t] ∧ RunAt CP CS H a tab ms first ∧ ms.length ≤ 2 ∧ t.length ≤ 900 ∧ (∀ n nd, rowAt tab n = some nd → NdOk nd) ∧ n ≤ 3000000 ∧
  runL tab (ms.map (·.2)) (tl (ordOf t)) n [] [] (([first], List.replicate ms.length 0), 0) = some res ∧
  ∀ (p : Addr) (H' : Hp), Same H H' → ResAt H' p res → Q (.ref p) H'
theorem ok_run_of_programG {f CP CS : Addr} {fd : FuncData} (F : Fun K "run_of_program" "run_of_program" s_run_of_program f fd) (T : Bare mg)
    (CM : Callee P w K mg base 1 "marked" ["text"] spMarked) (CF : Callee P w K mg base 1 "first_state" ["program"] (spFirst CP CS)) (CT : Callee P w K mg base 3 "step" ["program", "state", "sign"] (spStep CP CS)) : FnOk P w K mg base CX0 4 f fd ["program", "text"] (spRunG CP CS) := by
  refine F.ok sc_run_of_program (fun vs H Q E h => ?_) (fun cdv A outer st H vs Q E hr h => ?_)
  · obtain ⟨a, t, tab, ms, first, n, res, rfl, _⟩ := h
    rfl
  obtain ⟨a, t, tab, ms, first, n, res, rfl, R, hms, ht, hnd, hn, hrun, q⟩ := h
  have hu9 : A.units + 3 + 9 < cLine := by
    have := hr.un
    have e : (A.deeper (envOfC "run_of_program" (defScope s_run_of_program) st.heap.objs.size f cdv)).units = A.units + 3 := rfl
    rw [e] at this
    omega
  refine ⟨_, (pss_cons (ps_set (i := 2) sc_run_of_program.nd rfl (Or.inl rfl) (pe_call CM.ok (hr.mono (by decide)) rfl CM.mg CM.kp CM.b .nil pass0 (pa_cons (pv 1) pa_nil)))
(pss_cons (ps_par (i := 3) (j := 4) (by rfl) sc_run_of_program.nd rfl rfl (by decide) rfl rfl (pa_cons (pe_call CF.ok (hr.mono (by decide)) rfl CF.mg CF.kp CF.b .nil pass0 (pa_cons (pv 0) pa_nil)) (pa_cons pe_int pa_nil)) (by rfl))
(pss_cons (ps_set (i := 5) sc_run_of_program.nd rfl (Or.inl rfl) pe_dnewN)
(pss_cons (ps_set (i := 6) sc_run_of_program.nd rfl (Or.inl rfl) (pe_lst pa_nil))
(pss_cons (ps_while PassesOwn.never (pt_truth (pe_ix ix_tup (pv 3) pe_int (fun _ _ => rfl)) (by intro _; rfl))
(pss_cons (ps_if (pt_cmp (pc_kin hu9 (pe_tup (pa_cons (pv 3) (pa_cons (pv 4) pa_nil))) (pv 5)))
(pss_one (ps_ret (pe_tup (pa_cons pe_str (pa_cons (pe_kget hu9 (pv 5) (pe_tup (pa_cons (pv 3) (pa_cons (pv 4) pa_nil))) (fun _ _ => rfl)) (pa_cons (pe_callB call_lenK (by rfl) T.len PySem.boot_len (pa_cons (pv 5) pa_nil)) pa_nil))))))
pss_nil)
(pss_cons (ps_kput hu9 (pv 5) (pe_tup (pa_cons (pv 3) (pa_cons (pv 4) pa_nil))) (pe_callB call_lenK (by rfl) T.len PySem.boot_len (pa_cons (pv 5) pa_nil)) rfl)
(pss_cons (ps_asg (pe_call CT.ok hr rfl CT.mg CT.kp CT.b .nil pass0 (pa_cons (pv 0) (pa_cons (pv 3) (pa_cons (pe_ix ix_str (pv 2) (pv 4) (fun _ _ => rfl)) pa_nil)))) (pg_tup (by rfl) (pgs_cons (pg_name (i := 3) sc_run_of_program.nd rfl (Or.inl rfl)) (pgs_cons (pg_name (i := 7) sc_run_of_program.nd rfl (Or.inl rfl)) (pgs_cons (pg_name (i := 8) sc_run_of_program.nd rfl (Or.inl rfl)) pgs_nil)))))
(pss_cons (ps_if (pt_truth (pv 8) (by intro _; rfl))
(pss_one (ps_expr (pe_bm PySem.F.plainAttrs_list PySem.F.slot_list_append PySem.F.type_list_append mt_append (pv 6) (pa_cons (pe_tup (pa_cons (pv 8) (pa_cons (pv 4) pa_nil))) pa_nil))))
pss_nil)
(pss_one (ps_aug (i := 4) sc_run_of_program.nd rfl (Or.inl rfl) (pv 7) ip_add)))))))
(pss_one (ps_ret (pe_tup (pa_cons pe_str (pa_cons (pe_callTy call_tuple_of (by rfl) T.tuple (by decide +kernel) (pa_cons (pv 6) pa_nil)) pa_nil)))))))))), ?_⟩
  refine ⟨_, rfl, t, rfl, ht, ?_⟩
  refine ⟨_, rfl, a, tab, ms, first, rfl, R, hms, fun p0 H1 s1 hp0 => ?_⟩
  refine ⟨_, _, rfl, ?_⟩
  intro d hd
  have s2 := same_new hd (KDct P w d [])
  have kd0 : KAt P w (upd H1 d (KDct P w d [])) d [] := ⟨upd_same, by decide, fun x hx => by cases hx⟩
  have hdH : H d = none := s1.free hd
  refine ⟨small (by show 0 ≤ 1000; decide), fun L hL => ?_⟩
  have s3 := same_new hL (.lst [])
  have hLH : H L = none := s1.free (s2.free hL)
  have nLd : d ≠ L := ne_of_none kd0.1 hL
  refine ⟨fun m σ H4 => ∃ (vst : V) (x : Stt) (pos : Nat) (xs : KX) (seen : List Cf) (refs : List V) (out : List (Str × Nat)) (y7 y8 : Option V), σ = [some (.ref a), some (.str t), some (.str (ordOf t)), some vst, some (.int (pos : Int)), some (.ref d), some (.ref L), y7, y8] ∧ Same H H4 ∧ StV H4 vst x ∧ KAt P w H4 d xs ∧ xs.length + m = n ∧
      xs.map (·.1) = seen.map keyOf ∧ (∀ (j : Nat) (y : NestedKey × Addr × Value), xs[j]? = some y → RelV (.int (j : Int)) y.2.2) ∧ H4 L = some (.lst refs) ∧ refs.length ≤ xs.length ∧ OutAt H4 refs out ∧ runL tab (ms.map (·.2)) (tl (ordOf t)) m seen out (x, pos) = some res,
    ⟨n, .ref p0, _, 0, [], [], [], [], none, none, rfl, (s1.trans s2).trans s3, (hp0.same s2).same s3, kd0.same s3, by simp, rfl, fun j y hy => (by cases hy), upd_same, Nat.le_refl _, .nil, hrun⟩, ?_⟩
  rintro m σ H4 ⟨vst, x, pos, xs, seen, refs, out, y7, y8, rfl, sH, hst, kd, hxs, hkeys, hvals, hL4, hrl, hout, hr4⟩
  obtain ⟨s0, ac, ab, rfl, h1, h2, h3⟩ := id hst
  refine ⟨_, rfl, s0, _, 0, .ref ac, rfl, rfl, .inl (.inl h1), at_of (j := 0) rfl rfl, _, .inr (.inl ⟨_, .inl (.inl h2), rfl⟩), ?_⟩
  cases m with
  | zero => cases hr4
  | succ m =>
    unfold runL at hr4
    by_cases e0 : x.1 = []
    · rw [if_pos e0] at hr4
      have er := Option.some.inj hr4
      have e1 : (!(nats x.1.reverse).isEmpty) = false := by rw [e0]; rfl
      rw [e1]
      refine iteF ?_
      refine ⟨_, rfl, L, refs, rfl, .inl ⟨.inl (.inl hL4), fun b hb => ⟨small (by show 2 ≤ 1000; decide), fun p hp => ?_⟩⟩⟩
      have s5 := same_new hb (.tup refs)
      have s6 := same_new hp (.tup [.str "done", .ref b])
      refine q p _ ((sH.trans s5).trans s6) ?_
      rw [← er]
      exact ⟨b, refs, upd_same, s6 _ _ upd_same, hout.map fun a vs h => s6 _ _ (s5 _ _ h)⟩
    · rw [if_neg e0] at hr4
      have e1 : (!(nats x.1.reverse).isEmpty) = true := by
        cases hx : x.1 with
        | nil => exact absurd hx e0
        | cons o r =>
          rw [List.reverse_cons, nats_app]
          cases nats r.reverse <;> rfl
      rw [e1]
      refine iteT ?_
      have hnk : ∀ (H9 : Hp) (T : Addr), StV H9 (.ref s0) x → H9 T = some (.tup [.ref s0, .int (pos : Int)]) → NkV H9 (keyOf (x, pos)) (.ref T) := fun H9 T h1 h2 => key_nk h1 h2
      by_cases hse : (x, pos) ∈ seen
      · rw [if_pos hse] at hr4
        have er := Option.some.inj hr4
        obtain ⟨yk, hy1, hy2⟩ := at_idx hkeys hse
        refine ⟨_, fun σ' H' z => z, ?_⟩
        refine ⟨_, rfl, _, rfl, small (by show 2 ≤ 1000; decide), fun T1 hT1 => ?_⟩
        have t1 := same_new hT1 (.tup [.ref s0, .int (pos : Int)])
        refine ⟨_, rfl, d, T1, xs, keyOf (x, pos), rfl, rfl, kd.same t1, hnk _ _ (hst.same t1) upd_same, key_depth _, _, rfl, ?_⟩
        rw [hy2]
        refine iteT ?_
        refine ⟨_, rfl, _, rfl, _, rfl, small (by show 2 ≤ 1000; decide), fun T2 hT2 => ?_⟩
        have t2 := same_new hT2 (.tup [.ref s0, .int (pos : Int)])
        have t12 := t1.trans t2
        refine ⟨d, T2, xs, keyOf (x, pos), _, _, rfl, rfl, kd.same t12, hnk _ _ (hst.same t12) upd_same, key_depth _, hy2, hvals _ _ hy1, ?_⟩
        refine ⟨_, rfl, d, xs, rfl, kd.same t12, small (by show 3 ≤ 1000; decide), fun p hp => ?_⟩
        refine q p _ ((sH.trans t12).trans (same_new hp _)) ?_
        rw [← er]
        have el : xs.length = seen.length := by
          have := congrArg List.length hkeys
          rw [List.length_map, List.length_map] at this
          exact this
        rw [← el]
        exact upd_same
      rw [if_neg hse] at hr4
      have hno := at_not hkeys hse
      cases hnx : nextC tab (ms.map (·.2)) (tl (ordOf t)) (x, pos) with
      | none => rw [hnx] at hr4; cases hr4
      | some r =>
      obtain ⟨⟨x', pos'⟩, l⟩ := r
      rw [hnx] at hr4
      have hr5 : runL tab (ms.map (·.2)) (tl (ordOf t)) m (seen ++ [(x, pos)]) (if l = "" then out else out ++ [(l, pos)]) (x', pos') = some res := hr4
      unfold nextC at hnx
      dsimp only at hnx
      by_cases hg : x.1.length ≤ 10 ∧ x.2.length ≤ 10
      · rw [if_pos hg] at hnx
        obtain ⟨g, hgs, hnx⟩ := Option.bind_eq_some_iff.mp hnx
        by_cases hok : PyData.strOk (sgS g) = true
        · rw [if_pos hok] at hnx
          obtain ⟨⟨x2, mv, l2⟩, hstep, hnx⟩ := Option.bind_eq_some_iff.mp hnx
          dsimp only at hnx
          by_cases hpos : 0 ≤ (pos : Int) + mv ∧ l2.length ≤ 10
          · rw [if_pos hpos] at hnx
            obtain ⟨ea, rfl⟩ := Prod.mk.inj (Option.some.inj hnx)
            obtain ⟨rfl, rfl⟩ := Prod.mk.inj ea
            refine ⟨_, fun σ' H' z => z, ?_⟩
            refine ⟨_, rfl, _, rfl, small (by show 2 ≤ 1000; decide), fun T1 hT1 => ?_⟩
            have t1 := same_new hT1 (.tup [.ref s0, .int (pos : Int)])
            refine ⟨_, rfl, d, T1, xs, keyOf (x, pos), rfl, rfl, kd.same t1, hnk _ _ (hst.same t1) upd_same, key_depth _, _, rfl, ?_⟩
            rw [hno]
            refine iteF ?_
            -- the dict grows
            have kd1 := kd.same t1
            refine ⟨_, rfl, d, xs, rfl, kd1, _, rfl, _, rfl, _, rfl, small (by show 2 ≤ 1000; decide), fun T2 hT2 => ?_⟩
            have t2 := same_new hT2 (.tup [.ref s0, .int (pos : Int)])
            have t12 := t1.trans t2
            refine ⟨d, T2, xs, keyOf (x, pos), rfl, rfl, kd.same t12, by omega, hnk _ _ (hst.same t12) upd_same, key_depth _, hno, fun rr H5 hrr e5 kd5 => ?_⟩
            have up : ∀ b o, upd (upd H4 T1 (.tup [.ref s0, .int (pos : Int)])) T2 (.tup [.ref s0, .int (pos : Int)]) b = some o → b ≠ d → H5 b = some o := fun b o h nb => by
              rw [e5, upd_ne nb]
              exact h
            have upt : ∀ b o, H4 b = some o → b ≠ d → H5 b = some o := fun b o h nb => up b o (t12 _ _ h) nb
            have sH5 : Same H H5 := fun b o h => upt b o (sH _ _ h) (ne_of_none h hdH)
            have tt5 : ∀ b vs, H4 b = some (.tup vs) → H5 b = some (.tup vs) := fun b vs h => upt b _ h (ne_of h kd.1 (by intro z; cases z))
            have hst5 : StV H5 (.ref s0) x := ⟨s0, ac, ab, rfl, tt5 _ _ h1, tt5 _ _ h2, tt5 _ _ h3⟩
            have hL5 : H5 L = some (.lst refs) := upt L _ hL4 (ne_of hL4 kd.1 (by intro z; cases z))
            have hout5 := hout.map tt5
            have egs : atI (ordOf t).cps.toList (pos : Int) = some g := atI_nat hgs
            have lord : (ordOf t).length ≤ 902 := by
              rw [len_tl, tl_ord, List.length_cons, List.length_append, ← len_tl]
              show _ + 1 + 1 ≤ 902
              omega
            refine ⟨_, rfl, _, rfl, _, rfl, _, rfl, ordOf t, _, g, rfl, rfl, small (by omega), egs, a, .ref s0, g, tab, ms, first, x, x2, mv, l2, rfl, R.same sH5, hst5, by omega, by omega, hok, hnd, hstep, fun p u H6 s6 hp hst6 => ?_⟩
            refine ⟨p, _, rfl, .inl (.inl hp), rfl, _, _, rfl, _, _, rfl, _, _, rfl, rfl, ?_⟩
            have kd6 := kd5.same s6
            have sH6 := sH5.trans s6
            have hL6 := s6 _ _ hL5
            have hout6 : OutAt H6 refs out := hout5.map fun b vs h => s6 _ _ h
            refine ⟨_, rfl, _, ⟨small (by omega), rfl⟩, ?_⟩
            have epos : ((pos : Int) + mv) = ((((pos : Int) + mv).toNat : Nat) : Int) := by omega
            have keys' : (xs ++ [(keyOf (x, pos), T2, rr)]).map (·.1) = (seen ++ [(x, pos)]).map keyOf := by
              rw [List.map_append, List.map_append, hkeys]
              rfl
            have vals' : ∀ (j : Nat) (y : NestedKey × Addr × Value), (xs ++ [(keyOf (x, pos), T2, rr)])[j]? = some y → RelV (.int (j : Int)) y.2.2 := fun j y hy => by
              by_cases hj : j < xs.length
              · rw [List.getElem?_append_left hj] at hy
                exact hvals j y hy
              · rw [List.getElem?_append_right (by omega)] at hy
                have hj2 : j = xs.length := by
                  have := (List.getElem?_eq_some_iff.mp hy).1
                  have e : ([(keyOf (x, pos), T2, rr)] : KX).length = 1 := rfl
                  omega
                subst hj2
                rw [Nat.sub_self] at hy
                rw [← Option.some.inj hy]
                exact hrr
            have lxs : (xs ++ [(keyOf (x, pos), T2, rr)]).length = xs.length + 1 := by rw [List.length_append]; rfl
            by_cases hl : l2 = ""
            · have e7 : ((l2.length : Int) != 0) = false := by rw [hl]; decide +kernel
              rw [e7]
              refine iteF ?_
              refine ⟨_, rfl, _, rfl, _, _, rfl, rfl, m, Nat.lt_succ_self _, u, x2, _, _, _, refs, out, some (.int mv), some (.str l2), (by rw [← epos]; rfl), sH6, hst6, kd6, by rw [lxs]; omega, keys', vals', hL6, by rw [lxs]; omega, hout6, ?_⟩
              rw [if_pos hl] at hr5
              exact hr5
            · have e7 : ((l2.length : Int) != 0) = true := by
                refine bne_iff_ne.mpr fun z => hl ?_
                have hl0 : (tl l2).length = 0 := by rw [← len_tl]; omega
                exact tl_inj (by rw [List.eq_nil_of_length_eq_zero hl0]; decide +kernel)
              rw [e7]
              refine iteT ?_
              refine ⟨_, rfl, .inl ⟨rfl, _, .inl (.inl hL6)⟩, _, rfl, _, rfl, small (by show 2 ≤ 1000; decide), fun T3 hT3 => ?_⟩
              have t3 := same_new hT3 (.tup [.str l2, .int (pos : Int)])
              refine ⟨L, refs, .ref T3, rfl, rfl, t3 _ _ hL6, by rw [sizeLine_eq]; omega, ?_⟩
              have nLd6 : d ≠ L := fun z => by
                rw [← z, kd6.1] at hL6
                cases hL6
              have up7 : ∀ b o, H6 b = some o → b ≠ L → upd (upd H6 T3 (.tup [.str l2, .int (pos : Int)])) L (.lst (refs ++ [.ref T3])) b = some o := fun b o h nb => by
                rw [upd_ne nb]
                exact t3 _ _ h
              have tt7 : ∀ b vs, H6 b = some (.tup vs) → upd (upd H6 T3 (.tup [.str l2, .int (pos : Int)])) L (.lst (refs ++ [.ref T3])) b = some (.tup vs) := fun b vs h => up7 b _ h (ne_of h hL6 (by intro z; cases z))
              have hT3' : upd (upd H6 T3 (.tup [.str l2, .int (pos : Int)])) L (.lst (refs ++ [.ref T3])) T3 = some (.tup [.str l2, .int (pos : Int)]) := by
                rw [upd_ne (fun z => by rw [z, hL6] at hT3; cases hT3)]
                exact upd_same
              have hL7 : upd (upd H6 T3 (.tup [.str l2, .int (pos : Int)])) L (.lst (refs ++ [.ref T3])) L = some (.lst (refs ++ [.ref T3])) := upd_same
              have kd7 := kd6.map (up7 _ _ kd6.1 nLd6) tt7
              have hst7 : StV (upd (upd H6 T3 (.tup [.str l2, .int (pos : Int)])) L (.lst (refs ++ [.ref T3]))) u x2 := by
                obtain ⟨z1, z2, z3, rfl, z4, z5, z6⟩ := hst6
                exact ⟨z1, z2, z3, rfl, tt7 _ _ z4, tt7 _ _ z5, tt7 _ _ z6⟩
              have sH7 : Same H (upd (upd H6 T3 (.tup [.str l2, .int (pos : Int)])) L (.lst (refs ++ [.ref T3]))) := fun b o h => up7 b o (sH6 _ _ h) (ne_of_none h hLH)
              refine ⟨_, rfl, _, rfl, _, _, rfl, rfl, m, Nat.lt_succ_self _, u, x2, _, _, _, refs ++ [.ref T3], out ++ [(l2, pos)], some (.int mv), some (.str l2), (by rw [← epos]; rfl), sH7, hst7, kd7, by rw [lxs]; omega, keys', vals', hL7, by rw [lxs, List.length_append]; show _ + 1 ≤ _; omega, ?_, ?_⟩
              · exact paired_app (hout6.map tt7) (.cons ⟨T3, rfl, hT3'⟩ .nil)
              · rw [if_neg hl] at hr5
                exact hr5
          · rw [if_neg hpos] at hnx; cases hnx
        · rw [if_neg hok] at hnx; cases hnx
      · rw [if_neg hg] at hnx; cases hnx
end
end Fv
set_option Elab.async false
set_option linter.all false
set_option maxRecDepth 100000
set_option maxHeartbeats 4000000
namespace Fv
open PySem PySem.Spec PyProof.Rows L2 TL
section
variable {P : Program} {w : World} {K : PySem.W.Frag} {mg : Str → Option Value} {base : Heap}
/-- any run -/
def spRunX (CP CS : Addr) : Sp := fun vs H Q _ => ∃ (a : Addr) (t sy : Str) (tab : List (Nat × Nd)) (ms : NV) (first n : Nat) (res : Res), vs = [.ref a, .str t] ∧ SymAt CP H a sy ∧ (∀ c ∈ tl t, c ∈ tl sy) ∧ RunAt CP CS H a tab ms first ∧ ms.length ≤ 2 ∧ t.length ≤ 900 ∧ (∀ n nd, rowAt tab n = some nd → NdOk nd) ∧ n ≤ 3000000 ∧
  runL tab (ms.map (·.2)) (tl (ordOf t)) n [] [] (([first], List.replicate ms.length 0), 0) = some res ∧
  ∀ (p : Addr) (H' : Hp), Same H H' → ResAt H' p res → Q (.ref p) H'
theorem ok_runX {f CP CS CC : Addr} {fd : FuncData} (F : Fun K "run" "run" s_run f fd) (TG : GTxt K CP) (TI : IsTxt K CP) (hisi : mg "isinstance" = none) (hCh : mg "Chain" = some (.ref CC)) (hk : PySem.W.kitOne K (.ref CP) (.ref CC) = some false)
    (CK : Callee P w K mg base 2 "check_text" ["machine", "text"] (spCheck CP)) (CR : Callee P w K mg base 4 "run_of_program" ["program", "text"] (spRunG CP CS)) : FnOk P w K mg base CX0 5 f fd ["machine", "text"] (spRunX CP CS) := by
  refine F.ok sc_run (fun vs H Q E h => ?_) (fun cdv A outer st H vs Q E hr h => ?_)
  · obtain ⟨a, t, sy, tab, ms, first, n, res, rfl, _⟩ := h
    rfl
  obtain ⟨a, t, sy, tab, ms, first, n, res, rfl, S, hs, R, hms, ht, hnd, hn, hrun, q⟩ := h
  refine ⟨_, (pss_cons (ps_expr (pe_call CK.ok (hr.mono (by decide)) rfl CK.mg CK.kp CK.b .nil pass0 (pa_cons (pv 0) (pa_cons (pv 1) pa_nil))))
(pss_cons (ps_if (pt_val (pe_callB call_isi (by rfl) hisi (by decide +kernel) (pa_cons (pv 0) (pa_cons (pe_glob (v := .ref CC) (by rfl) hCh rfl) pa_nil))))
(pss_one ps_never)
pss_nil)
(pss_one (ps_ret (pe_call CR.ok hr rfl CR.mg CR.kp CR.b .nil pass0 (pa_cons (pv 0) (pa_cons (pv 1) pa_nil))))))), ?_⟩
  refine ⟨_, rfl, _, rfl, a, t, sy, rfl, S, ht, hs, fun H1 s1 => ?_⟩
  have R1 := R.same s1
  obtain ⟨dx, c, q0, tt, r, z, sy2, as, kvs, h1, _⟩ := R1.it
  refine ⟨_, rfl, .ref a, .ref CC, .ref CP, .ref CC, false, rfl, .own CC, .base (.ins h1 TG.cl TI.ha TI.hn TI.htk TI.hm), hk, _, rfl, iteF ?_⟩
  exact ⟨_, rfl, _, rfl, a, t, tab, ms, first, n, res, rfl, R1, hms, ht, hnd, hn, hrun, fun p H' s h2 => q p H' (s1.trans s) h2⟩
end
end Fv
set_option Elab.async false
set_option linter.all false
set_option maxRecDepth 100000
set_option maxHeartbeats 4000000
namespace Fv
open PySem L2 TL
/-! ### runs told by bodies and places, not by lines -/
def Tr.wd : Tr → Str
  | .node _ wd _ _ _ => wd
def Tr.gv : Tr → Gv
  | .node _ _ gv _ _ => gv
def Tr.ins : Tr → List Tr
  | .node _ _ _ ins _ => ins
def Tr.oth : Tr → List Tr
  | .node _ _ _ _ oth => oth
/-- what the table tells of a statement behind which f stands -/
def ndOf (t : Tr) (f : Nat) : Nd := ⟨t.wd, t.gv, nxtT 0 t.ins, nxtT 0 t.oth, f⟩
mutual
/-- the table holds the statement and all in it -/
def inT (tab : List (Nat × Nd)) : Tr → Nat → Prop
  | .node ln wd gv ins oth, f => rowAt tab ln = some ⟨wd, gv, nxtT 0 ins, nxtT 0 oth, f⟩ ∧ 1 ≤ ln ∧ inA tab ins (bk wd ln f) ∧ inA tab oth (bk wd ln f)
def inA (tab : List (Nat × Nd)) : List Tr → Nat → Prop
  | [], _ => True
  | t :: ts, e => inT tab t (nxtT e ts) ∧ inA tab ts e
end
theorem inA_at {tab : List (Nat × Nd)} {e : Nat} : ∀ {ts : List Tr} {i : Nat} {t : Tr}, inA tab ts e → ts[i]? = some t → inT tab t (nxtT e (ts.drop (i + 1)))
  | [], i, _, _, h => by cases i <;> cases h
  | u :: ts, 0, t, h, k => by
    have e : u = t := Option.some.inj k
    subst e
    simp only [inA] at h
    exact h.1
  | u :: ts, i + 1, t, h, k => by
    simp only [inA] at h
    exact inA_at (ts := ts) (i := i) h.2 k
theorem inT_row {tab : List (Nat × Nd)} {t : Tr} {f : Nat} (h : inT tab t f) : rowAt tab t.ln = some (ndOf t f) ∧ 1 ≤ t.ln ∧ inA tab t.ins (bk t.wd t.ln f) ∧ inA tab t.oth (bk t.wd t.ln f) := by
  obtain ⟨ln, wd, gv, ins, oth⟩ := t
  simp only [inT] at h
  exact h
abbrev Fr := List Tr × Nat
/-- what stands behind a body that is entered from these frames (the innermost first) -/
def endOf : List Fr → Nat
  | [] => 0
  | (body, i) :: rest => match body[i]? with
    | none => 0
    | some s => if s.wd = "do" then 0 else bk s.wd s.ln (nxtT (endOf rest) (body.drop (i + 1)))
/-- the lines of what is done, outside of a body entered from these frames -/
def doLines : List Fr → List Nat
  | [] => []
  | (body, i) :: rest => match body[i]? with
    | none => doLines rest
    | some s => if s.wd = "do" then s.ln :: doLines rest else doLines rest
/-- frames that fit the table; all but the innermost stand at a statement with a body -/
def FrOk (tab : List (Nat × Nd)) : List Fr → Prop
  | [] => True
  | (body, i) :: rest => inA tab body (endOf rest) ∧ FrOk tab rest ∧ ∀ g r, rest = g :: r → ∃ s, g.1[g.2]? = some s ∧ (s.wd = "if" ∨ s.wd = "while" ∨ s.wd = "do")
/-- control -/
def ctlOf : List Fr → List Nat
  | [] => []
  | (body, i) :: rest => match body[i]? with
    | none => []
    | some s => s.ln :: doLines rest
theorem ctl_cons {body : List Tr} {i : Nat} {rest : List Fr} {s : Tr} (h : body[i]? = some s) : ctlOf ((body, i) :: rest) = s.ln :: doLines rest := by
  simp only [ctlOf, h]
/-- on, out of bodies that are through -/
def nextF : List Fr → List Fr
  | [] => []
  | (body, i) :: rest => if i < body.length then (body, i) :: rest else
    match rest with
    | [] => []
    | (b2, j) :: r => match b2[j]? with
      | none => []
      | some s => if s.wd = "while" then (b2, j) :: r else nextF ((b2, j + 1) :: r)
termination_by fs => fs.length
theorem nextF_ctl {tab : List (Nat × Nd)} : ∀ (n : Nat) (rest : List Fr) (body : List Tr) (i : Nat), rest.length = n → FrOk tab ((body, i) :: rest) → i ≤ body.length →
    resR tab (doLines rest) (nxtT (endOf rest) (body.drop i)) = some (ctlOf (nextF ((body, i) :: rest))) ∧ FrOk tab (nextF ((body, i) :: rest)) ∧ (∀ b j r, nextF ((body, i) :: rest) = (b, j) :: r → j < b.length) := by
  intro n
  induction n with
  | zero =>
    intro rest body i hn h hi
    have e : rest = [] := List.eq_nil_of_length_eq_zero hn
    subst e
    rw [nextF]
    by_cases hlt : i < body.length
    · rw [if_pos hlt]
      obtain ⟨s, hs⟩ : ∃ s, body[i]? = some s := ⟨_, List.getElem?_eq_getElem hlt⟩
      have hrow := inT_row (inA_at h.1 hs)
      have e1 : nxtT (endOf []) (body.drop i) = s.ln := by
        rw [List.drop_eq_getElem_cons hlt]
        have := (List.getElem?_eq_some_iff.mp hs).2
        rw [← this]
        rfl
      refine ⟨?_, h, fun b j r e => by cases e; exact hlt⟩
      rw [e1]
      rw [ctl_cons hs]
      unfold doLines resR
      rw [if_neg (by have := hrow.2.1; omega)]
    · rw [if_neg hlt]
      refine ⟨?_, trivial, fun b j r e => by cases e⟩
      rw [List.drop_eq_nil_of_le (by omega)]
      rfl
  | succ n ih =>
    intro rest body i hn h hi
    cases rest with
    | nil => cases hn
    | cons g r =>
    obtain ⟨b2, j⟩ := g
    obtain ⟨hA, hR, hP⟩ := h
    obtain ⟨s2, hs2, hw2⟩ := hP _ _ rfl
    have hj : j < b2.length := (List.getElem?_eq_some_iff.mp hs2).1
    obtain ⟨hA2, hR2, hP2⟩ := id hR
    have hrow2 := inT_row (inA_at hA2 hs2)
    rw [nextF]
    by_cases hlt : i < body.length
    · rw [if_pos hlt]
      obtain ⟨s, hs⟩ : ∃ s, body[i]? = some s := ⟨_, List.getElem?_eq_getElem hlt⟩
      have hrow := inT_row (inA_at hA hs)
      have e1 : nxtT (endOf ((b2, j) :: r)) (body.drop i) = s.ln := by
        rw [List.drop_eq_getElem_cons hlt]
        have := (List.getElem?_eq_some_iff.mp hs).2
        rw [← this]
        rfl
      refine ⟨?_, ⟨hA, hR, hP⟩, fun b j r e => by cases e; exact hlt⟩
      rw [e1]
      have e2 : ctlOf ((body, i) :: (b2, j) :: r) = s.ln :: doLines ((b2, j) :: r) := ctl_cons hs
      rw [e2]
      cases hd : doLines ((b2, j) :: r) with
      | nil => unfold resR; rw [if_neg (by have := hrow.2.1; omega)]
      | cons o q => unfold resR; rw [if_neg (by have := hrow.2.1; omega)]
    · rw [if_neg hlt]
      simp only [hs2]
      rw [List.drop_eq_nil_of_le (by omega)]
      show resR tab (doLines ((b2, j) :: r)) (endOf ((b2, j) :: r)) = _ ∧ _
      have eE : endOf ((b2, j) :: r) = if s2.wd = "do" then 0 else bk s2.wd s2.ln (nxtT (endOf r) (b2.drop (j + 1))) := by
        rw [endOf]
        rw [hs2]
      have eD : doLines ((b2, j) :: r) = if s2.wd = "do" then s2.ln :: doLines r else doLines r := by
        rw [doLines]
        rw [hs2]
      have hok : FrOk tab ((b2, j + 1) :: r) := ⟨hA2, hR2, hP2⟩
      have ih2 := ih r b2 (j + 1) (by simpa using hn) hok hj
      rcases hw2 with hw | hw | hw
      · -- if
        have n1 : ¬ s2.wd = "while" := by rw [hw]; decide +kernel
        have n2 : ¬ s2.wd = "do" := by rw [hw]; decide +kernel
        rw [if_neg n1, eE, eD, if_neg n2, if_neg n2]
        unfold bk
        rw [if_neg n1]
        exact ih2
      · -- while
        have n2 : ¬ s2.wd = "do" := by rw [hw]; decide +kernel
        rw [if_pos hw, eE, eD, if_neg n2, if_neg n2]
        unfold bk
        rw [if_pos hw]
        refine ⟨?_, ⟨hA2, hR2, hP2⟩, fun b k q e => by cases e; exact hj⟩
        have e2 : ctlOf ((b2, j) :: r) = s2.ln :: doLines r := ctl_cons hs2
        rw [e2]
        cases hd : doLines r with
        | nil => unfold resR; rw [if_neg (by have := hrow2.2.1; omega)]
        | cons o q => unfold resR; rw [if_neg (by have := hrow2.2.1; omega)]
      · -- do
        have n1 : ¬ s2.wd = "while" := by rw [hw]; decide +kernel
        rw [if_neg n1, eE, eD, if_pos hw, if_pos hw]
        unfold resR
        rw [if_pos rfl, hrow2.1]
        exact ih2
end Fv
set_option Elab.async false
set_option linter.all false
set_option maxRecDepth 100000
set_option maxHeartbeats 4000000
namespace Fv
open PySem L2 TL
abbrev Sft := List Fr × List Nat
/-- one step, by frames -/
def stepF (pts : Nat → Option (List Tr)) (mosts : List Nat) (c : Nat) : Sft → Option (Sft × Int × Str)
  | ([], _) => none
  | ((body, i) :: rest, cells) => (body[i]?).bind fun s =>
    if endsP s.wd c = true then some (([], cells), 0, "")
    else if s.wd = "do" then
      match s.gv with
      | .part n => (pts n).map fun b => (((b, 0) :: (body, i) :: rest, cells), 0, "")
      | _ => none
    else (if s.wd = "if" ∨ s.wd = "while" then
        match s.gv with
        | .cond wt pl k v => (holdsP wt pl k v c cells).map fun h => if (if h then s.ins else s.oth) = [] then nextF ((body, i + 1) :: rest) else ((if h then s.ins else s.oth), 0) :: (body, i) :: rest
        | _ => none
      else some (nextF ((body, i + 1) :: rest))).bind fun F' => (cellsP mosts (ndOf s 0) cells).bind fun cs => (letterP (ndOf s 0) c).map fun l => ((F', cs), moveP s.wd, l)
/-- the parts, by their first lines -/
def PtsOk (tab : List (Nat × Nd)) (pts : Nat → Option (List Tr)) : Prop := ∀ n b, pts n = some b → inA tab b 0 ∧ nxtT 0 b = n ∧ b ≠ []
/-- the innermost frame stands at a statement -/
def FrAt (F : List Fr) : Prop := ∀ b j r, F = (b, j) :: r → j < b.length
theorem first_ln {e : Nat} {b : List Tr} (h : b ≠ []) : ∃ s, b[0]? = some s ∧ nxtT e b = s.ln := by
  cases b with
  | nil => exact absurd rfl h
  | cons s r => exact ⟨s, rfl, rfl⟩
theorem nxt_any {b : List Tr} (h : b ≠ []) (e f : Nat) : nxtT e b = nxtT f b := by
  cases b with
  | nil => exact absurd rfl h
  | cons s r => rfl
theorem nxt_zero {tab : List (Nat × Nd)} {b : List Tr} {e : Nat} (h : inA tab b e) : nxtT 0 b = 0 ↔ b = [] := by
  cases b with
  | nil => exact ⟨fun _ => rfl, fun _ => rfl⟩
  | cons s r =>
    refine ⟨fun z => ?_, fun z => by cases z⟩
    have h1 := (inT_row (inA_at (i := 0) h rfl)).2.1
    have z' : s.ln = 0 := z
    omega
/-- a step by frames is a step by lines -/
theorem step_eq {tab : List (Nat × Nd)} {pts : Nat → Option (List Tr)} {mosts : List Nat} {c : Nat} {F : List Fr} {cells : List Nat} (hp : PtsOk tab pts) (hp2 : ∀ n s nd, rowAt tab n = some nd → nd.wd = "do" → nd.gv = .part s → (pts s).isSome = true) (h : FrOk tab F) (ha : FrAt F) :
    stepP tab mosts c (ctlOf F, cells) = (stepF pts mosts c (F, cells)).map (fun r => ((ctlOf r.1.1, r.1.2), r.2)) ∧ ∀ r, stepF pts mosts c (F, cells) = some r → FrOk tab r.1.1 ∧ FrAt r.1.1 := by
  cases F with
  | nil => exact ⟨rfl, fun r e => by cases e⟩
  | cons g rest =>
    obtain ⟨body, i⟩ := g
    have hi := ha _ _ _ rfl
    obtain ⟨s, hs⟩ : ∃ s, body[i]? = some s := ⟨_, List.getElem?_eq_getElem hi⟩
    obtain ⟨hA, hR, hP⟩ := id h
    obtain ⟨hrow, hln, hins, hoth⟩ := inT_row (inA_at hA hs)
    have hok : FrOk tab ((body, i + 1) :: rest) := ⟨hA, hR, hP⟩
    obtain ⟨n1, n2, n3⟩ := nextF_ctl (tab := tab) rest.length rest body (i + 1) rfl hok hi
    rw [ctl_cons hs]
    unfold stepP stepF
    dsimp only
    rw [hrow, hs, Option.bind_some, Option.bind_some]
    have ew : (ndOf s (nxtT (endOf rest) (body.drop (i + 1)))).wd = s.wd := rfl
    have eg : (ndOf s (nxtT (endOf rest) (body.drop (i + 1)))).gv = s.gv := rfl
    have ec : cellsP mosts (ndOf s (nxtT (endOf rest) (body.drop (i + 1)))) cells = cellsP mosts (ndOf s 0) cells := rfl
    have el : letterP (ndOf s (nxtT (endOf rest) (body.drop (i + 1)))) c = letterP (ndOf s 0) c := rfl
    rw [ew, eg, ec, el]
    by_cases he : endsP s.wd c = true
    · rw [if_pos he, if_pos he]
      refine ⟨rfl, fun r e => ?_⟩
      cases e
      exact ⟨trivial, fun b j r e => by cases e⟩
    · rw [if_neg he, if_neg he]
      by_cases hd : s.wd = "do"
      · rw [if_pos hd, if_pos hd]
        cases hg : s.gv with
        | part n =>
          have hsome := hp2 _ n _ hrow hd hg
          dsimp only
          cases hb : pts n with
          | none => rw [hb] at hsome; cases hsome
          | some b =>
            obtain ⟨hb1, hb2, hb3⟩ := hp n b hb
            obtain ⟨s0, hs0, hl0⟩ := first_ln (e := 0) hb3
            have eE : endOf ((body, i) :: rest) = 0 := by
              simp only [endOf, hs]
              rw [if_pos hd]
            have eD : doLines ((body, i) :: rest) = s.ln :: doLines rest := by
              simp only [doLines, hs]
              rw [if_pos hd]
            refine ⟨?_, fun r e => ?_⟩
            · show some (((n :: s.ln :: doLines rest, cells) : Stt), (0 : Int), ("" : Str)) = some (((ctlOf ((b, 0) :: (body, i) :: rest), cells) : Stt), (0 : Int), ("" : Str))
              rw [ctl_cons hs0, eD, ← hl0, hb2]
            · cases e
              refine ⟨⟨by rw [eE]; exact hb1, h, fun g r e => ?_⟩, fun b' j r e => ?_⟩
              · cases e
                exact ⟨s, hs, .inr (.inr hd)⟩
              · cases e
                exact (List.getElem?_eq_some_iff.mp hs0).1
        | non => exact ⟨rfl, fun r e => by cases e⟩
        | letter z => exact ⟨rfl, fun r e => by cases e⟩
        | pair a b => exact ⟨rfl, fun r e => by cases e⟩
        | cond a b c d => exact ⟨rfl, fun r e => by cases e⟩
      · rw [if_neg hd, if_neg hd]
        -- where it goes on
        have key : ∀ (G : List Fr) (line : Nat), resR tab (doLines rest) line = some (ctlOf G) → FrOk tab G → FrAt G →
            ((resR tab (doLines rest) line).bind fun ctl => (cellsP mosts (ndOf s 0) cells).bind fun cs => (letterP (ndOf s 0) c).map fun l => (((ctl, cs) : Stt), moveP s.wd, l)) =
              ((cellsP mosts (ndOf s 0) cells).bind fun cs => (letterP (ndOf s 0) c).map fun l => (((G, cs) : Sft), moveP s.wd, l)).map (fun r => ((ctlOf r.1.1, r.1.2), r.2)) ∧
            ∀ r, ((cellsP mosts (ndOf s 0) cells).bind fun cs => (letterP (ndOf s 0) c).map fun l => (((G, cs) : Sft), moveP s.wd, l)) = some r → FrOk tab r.1.1 ∧ FrAt r.1.1 := fun G line h1 h2 h3 => by
          rw [h1, Option.bind_some]
          refine ⟨?_, fun r e => ?_⟩
          · cases cellsP mosts (ndOf s 0) cells with
            | none => rfl
            | some cs =>
              rw [Option.bind_some, Option.bind_some]
              cases letterP (ndOf s 0) c <;> rfl
          · obtain ⟨cs, _, e⟩ := Option.bind_eq_some_iff.mp e
            obtain ⟨l, _, e⟩ := Option.map_eq_some_iff.mp e
            rw [← e]
            exact ⟨h2, h3⟩
        unfold nextP
        by_cases hw : s.wd = "if" ∨ s.wd = "while"
        · rw [ew, eg, if_pos hw, if_pos hw]
          cases hg : s.gv with
          | cond wt pl k v =>
            dsimp only
            cases hh : holdsP wt pl k v c cells with
            | none => exact ⟨rfl, fun r e => by cases e⟩
            | some b =>
              dsimp only [Option.map_some]
              rw [Option.bind_some, Option.bind_some]
              have enter : ∀ inner : List Tr, inA tab inner (bk s.wd s.ln (nxtT (endOf rest) (body.drop (i + 1)))) →
                  resR tab (doLines rest) (if nxtT 0 inner = 0 then nxtT (endOf rest) (body.drop (i + 1)) else nxtT 0 inner) = some (ctlOf (if inner = [] then nextF ((body, i + 1) :: rest) else (inner, 0) :: (body, i) :: rest)) ∧
                  FrOk tab (if inner = [] then nextF ((body, i + 1) :: rest) else (inner, 0) :: (body, i) :: rest) ∧ FrAt (if inner = [] then nextF ((body, i + 1) :: rest) else (inner, 0) :: (body, i) :: rest) := fun inner hinner => by
                by_cases hz : inner = []
                · rw [if_pos hz, if_pos ((nxt_zero hinner).mpr hz)]
                  exact ⟨n1, n2, n3⟩
                · rw [if_neg hz, if_neg (fun z => hz ((nxt_zero hinner).mp z))]
                  obtain ⟨s0, hs0, hl0⟩ := first_ln (e := 0) hz
                  have hpos : ¬ nxtT 0 inner = 0 := fun z => hz ((nxt_zero hinner).mp z)
                  have eE : endOf ((body, i) :: rest) = bk s.wd s.ln (nxtT (endOf rest) (body.drop (i + 1))) := by
                    simp only [endOf, hs]
                    rw [if_neg hd]
                  have eD : doLines ((body, i) :: rest) = doLines rest := by
                    simp only [doLines, hs]
                    rw [if_neg hd]
                  refine ⟨?_, ⟨by rw [eE]; exact hinner, h, fun g r e => by cases e; exact ⟨s, hs, by rcases hw with hw | hw; exact .inl hw; exact .inr (.inl hw)⟩⟩, fun b' j r e => by cases e; exact (List.getElem?_eq_some_iff.mp hs0).1⟩
                  rw [ctl_cons hs0, eD, ← hl0]
                  cases hdl : doLines rest with
                  | nil => unfold resR; rw [if_neg hpos]
                  | cons o q => unfold resR; rw [if_neg hpos]
              cases b with
              | true =>
                obtain ⟨a1, a2, a3⟩ := enter s.ins hins
                exact key _ _ a1 a2 a3
              | false =>
                obtain ⟨a1, a2, a3⟩ := enter s.oth hoth
                exact key _ _ a1 a2 a3
          | non => exact ⟨rfl, fun r e => by cases e⟩
          | letter z => exact ⟨rfl, fun r e => by cases e⟩
          | pair a b => exact ⟨rfl, fun r e => by cases e⟩
          | part n => exact ⟨rfl, fun r e => by cases e⟩
        · rw [ew, if_neg hw, if_neg hw, Option.bind_some, Option.bind_some]
          exact key _ _ n1 n2 n3
end Fv
set_option Elab.async false
set_option linter.all false
set_option maxRecDepth 100000
set_option maxHeartbeats 4000000
namespace Fv
open PySem L2 TL
/-- the next configuration, by frames -/
def nextCF (pts : Nat → Option (List Tr)) (mosts : List Nat) (signs : List Nat) (c : Sft × Nat) : Option ((Sft × Nat) × Str) :=
  if (ctlOf c.1.1).length ≤ 10 ∧ c.1.2.length ≤ 10 then
    (signs[c.2]?).bind fun g => if PyData.strOk (sgS g) = true then (stepF pts mosts g c.1).bind fun r => if 0 ≤ (c.2 : Int) + r.2.1 ∧ r.2.2.length ≤ 10 then some ((r.1, ((c.2 : Int) + r.2.1).toNat), r.2.2) else none else none
  else none
/-- what is told of a configuration by frames -/
def told (c : Sft × Nat) : Cf := ((ctlOf c.1.1, c.1.2), c.2)
def runF (pts : Nat → Option (List Tr)) (mosts : List Nat) (signs : List Nat) : Nat → List Cf → List (Str × Nat) → Sft × Nat → Option Res
  | 0, _, _, _ => none
  | n + 1, seen, out, c => if (told c).1.1 = [] then some (.done out) else if told c ∈ seen then some (.ever (seen.idxOf (told c)) seen.length) else
      (nextCF pts mosts signs c).bind fun r => runF pts mosts signs n (seen ++ [told c]) (if r.2 = "" then out else out ++ [(r.2, c.2)]) r.1
theorem runF_eq {tab : List (Nat × Nd)} {pts : Nat → Option (List Tr)} {mosts signs : List Nat} (hp : PtsOk tab pts) (hp2 : ∀ n s nd, rowAt tab n = some nd → nd.wd = "do" → nd.gv = .part s → (pts s).isSome = true) :
    ∀ (n : Nat) (seen : List Cf) (out : List (Str × Nat)) (c : Sft × Nat), FrOk tab c.1.1 → FrAt c.1.1 → runF pts mosts signs n seen out c = runL tab mosts signs n seen out (told c)
  | 0, _, _, _, _, _ => rfl
  | n + 1, seen, out, c, h, ha => by
    obtain ⟨⟨F, cells⟩, pos⟩ := c
    unfold runF runL
    by_cases e0 : (told ((F, cells), pos)).1.1 = []
    · rw [if_pos e0, if_pos e0]
    · rw [if_neg e0, if_neg e0]
      by_cases hs : told ((F, cells), pos) ∈ seen
      · rw [if_pos hs, if_pos hs]
      · rw [if_neg hs, if_neg hs]
        unfold nextC nextCF told
        dsimp only
        by_cases hg : (ctlOf F).length ≤ 10 ∧ cells.length ≤ 10
        · rw [if_pos hg, if_pos hg]
          cases hsg : signs[pos]? with
          | none => rfl
          | some g =>
            rw [Option.bind_some, Option.bind_some]
            by_cases hok : PyData.strOk (sgS g) = true
            · rw [if_pos hok, if_pos hok]
              obtain ⟨e1, e2⟩ := step_eq (mosts := mosts) (c := g) (cells := cells) hp hp2 h ha
              rw [e1]
              cases hst : stepF pts mosts g (F, cells) with
              | none => rfl
              | some r =>
                obtain ⟨⟨F2, cs⟩, mv, l⟩ := r
                obtain ⟨h2, ha2⟩ := e2 _ hst
                rw [Option.map_some, Option.bind_some, Option.bind_some]
                dsimp only
                by_cases hpos : 0 ≤ (pos : Int) + mv ∧ l.length ≤ 10
                · rw [if_pos hpos, if_pos hpos, Option.bind_some, Option.bind_some]
                  exact runF_eq hp hp2 n _ _ _ h2 ha2
                · rw [if_neg hpos, if_neg hpos]
                  rfl
            · rw [if_neg hok, if_neg hok]
              rfl
        · rw [if_neg hg, if_neg hg]
          rfl
/-! ### the table holds its trees -/
theorem row_of {tab : List (Nat × Nd)} (hN : (tab.map (·.1)).Nodup) {q : Nat × Nd} (h : q ∈ tab) : rowAt tab q.1 = some q.2 := by
  induction tab with
  | nil => cases h
  | cons p r ih =>
    rw [List.map_cons, List.nodup_cons] at hN
    unfold rowAt
    rw [List.find?_cons]
    by_cases e : p.1 = q.1
    · rw [decide_eq_true e]
      rcases List.mem_cons.mp h with h | h
      · rw [h]
        rfl
      · exact absurd (by rw [e]; exact List.mem_map.mpr ⟨q, h, rfl⟩) hN.1
    · rw [decide_eq_false e]
      rcases List.mem_cons.mp h with h | h
      · exact absurd (by rw [h]) e
      · exact ih hN.2 h
mutual
theorem inT_of {tab : List (Nat × Nd)} (hN : (tab.map (·.1)).Nodup) : ∀ (t : Tr) (f : Nat), posT t → (∀ q ∈ ndT t f, q ∈ tab) → inT tab t f
  | .node ln wd gv ins oth, f, p, h => by
    simp only [posT] at p
    simp only [ndT] at h
    simp only [inT]
    exact ⟨row_of hN (h _ List.mem_cons_self), p.1, inA_of hN ins _ p.2.1 fun q hq => h q (List.mem_cons_of_mem _ (List.mem_append_left _ hq)), inA_of hN oth _ p.2.2 fun q hq => h q (List.mem_cons_of_mem _ (List.mem_append_right _ hq))⟩
theorem inA_of {tab : List (Nat × Nd)} (hN : (tab.map (·.1)).Nodup) : ∀ (ts : List Tr) (f : Nat), posA ts → (∀ q ∈ nds ts f, q ∈ tab) → inA tab ts f
  | [], _, _, _ => by simp only [inA]
  | t :: ts, f, p, h => by
    simp only [posA] at p
    simp only [nds] at h
    simp only [inA]
    exact ⟨inT_of hN t _ p.1 fun q hq => h q (List.mem_append_left _ hq), inA_of hN ts f p.2 fun q hq => h q (List.mem_append_right _ hq)⟩
end
/-! ### lines are told once -/
mutual
theorem Stm.lines {sy : Str} {ms ss : NV} : ∀ {d k : Nat} {seg : List Row} {n : Nat} {t : Tr}, Stm sy ms ss d k seg n t → ∀ f, ((ndT t f).map (·.1)).Nodup ∧ ∀ q ∈ ndT t f, k + 1 ≤ q.1 ∧ q.1 ≤ k + seg.length
  | _, _, _, _, _, .plain d k x r gv h1 h2 h3 h4, f => by
    simp only [ndT, nds, List.append_nil, List.map_cons, List.map_nil]
    exact ⟨by simp, fun q hq => by rw [List.mem_singleton.mp hq]; exact ⟨Nat.le_refl _, by show k + 1 ≤ k + 1; omega⟩⟩
  | _, _, _, _, _, .loop d k r gv b n ts h1 h2 h3, f => by
    obtain ⟨e1, e2⟩ := Bod.lines h3 (bk "while" (k + 1) f)
    simp only [ndT, nds, List.append_nil, List.map_cons]
    refine ⟨List.nodup_cons.mpr ⟨fun z => ?_, e1⟩, fun q hq => ?_⟩
    · obtain ⟨q, hq, e⟩ := List.mem_map.mp z
      have := (e2 q hq).1
      omega
    · rcases List.mem_cons.mp hq with hq | hq
      · rw [hq]
        exact ⟨Nat.le_refl _, by rw [List.length_cons]; show k + 1 ≤ _; omega⟩
      · have := e2 q hq
        rw [List.length_cons]
        omega
  | _, _, _, _, _, .cond d k r gv b n ts h1 h2 h3, f => by
    obtain ⟨e1, e2⟩ := Bod.lines h3 (bk "if" (k + 1) f)
    simp only [ndT, nds, List.append_nil, List.map_cons]
    refine ⟨List.nodup_cons.mpr ⟨fun z => ?_, e1⟩, fun q hq => ?_⟩
    · obtain ⟨q, hq, e⟩ := List.mem_map.mp z
      have := (e2 q hq).1
      omega
    · rcases List.mem_cons.mp hq with hq | hq
      · rw [hq]
        exact ⟨Nat.le_refl _, by rw [List.length_cons]; show k + 1 ≤ _; omega⟩
      · have := e2 q hq
        rw [List.length_cons]
        omega
  | _, _, _, _, _, .both d k r gv b c n m ts us h1 h2 h3 h4, f => by
    obtain ⟨e1, e2⟩ := Bod.lines h3 (bk "if" (k + 1) f)
    obtain ⟨e3, e4⟩ := Bod.lines h4 (bk "if" (k + 1) f)
    simp only [ndT, List.map_cons, List.map_append]
    refine ⟨List.nodup_cons.mpr ⟨fun z => ?_, List.nodup_append.mpr ⟨e1, e3, fun x hx y hy e => ?_⟩⟩, fun q hq => ?_⟩
    · rcases List.mem_append.mp z with z | z
      · obtain ⟨q, hq, e⟩ := List.mem_map.mp z
        have := (e2 q hq).1
        omega
      · obtain ⟨q, hq, e⟩ := List.mem_map.mp z
        have := (e4 q hq).1
        omega
    · obtain ⟨q, hq, e5⟩ := List.mem_map.mp hx
      obtain ⟨q2, hq2, e6⟩ := List.mem_map.mp hy
      have := (e2 q hq).2
      have := (e4 q2 hq2).1
      omega
    · rw [List.length_cons, List.length_append, List.length_cons]
      rcases List.mem_cons.mp hq with hq | hq
      · rw [hq]
        exact ⟨Nat.le_refl _, by show k + 1 ≤ _; omega⟩
      · rcases List.mem_append.mp hq with hq | hq
        · have := e2 q hq
          omega
        · have := e4 q hq
          omega
theorem Bod.lines {sy : Str} {ms ss : NV} : ∀ {d k : Nat} {seg : List Row} {n : Nat} {ts : List Tr}, Bod sy ms ss d k seg n ts → ∀ f, ((nds ts f).map (·.1)).Nodup ∧ ∀ q ∈ nds ts f, k + 1 ≤ q.1 ∧ q.1 ≤ k + seg.length
  | _, _, _, _, _, .one d k s n t h, f => by
    simp only [nds, List.append_nil]
    exact Stm.lines h _
  | _, _, _, _, _, .more d k s t n m u us h1 h2, f => by
    obtain ⟨e1, e2⟩ := Stm.lines h1 (nxtT f us)
    obtain ⟨e3, e4⟩ := Bod.lines h2 f
    simp only [nds, List.map_append]
    refine ⟨List.nodup_append.mpr ⟨e1, e3, fun x hx y hy e => ?_⟩, fun q hq => ?_⟩
    · obtain ⟨q, hq, e5⟩ := List.mem_map.mp hx
      obtain ⟨q2, hq2, e6⟩ := List.mem_map.mp hy
      have := (e2 q hq).2
      have := (e4 q2 hq2).1
      omega
    · rw [List.length_append]
      rcases List.mem_append.mp hq with hq | hq
      · have := e2 q hq
        omega
      · have := e4 q hq
        omega
end
end Fv
set_option Elab.async false
set_option linter.all false
set_option maxRecDepth 100000
set_option maxHeartbeats 4000000
namespace Fv
open PySem L2 TL
/-! ### a program's table and parts -/
theorem pref_snoc (sy : Str) (ms : NV) (done : List PartR) (q : PartR) : (prefRows sy ms (done ++ [q])).length = (prefRows sy ms done).length + 1 + q.2.1.length := by
  unfold prefRows partRows
  simp only [List.map_append, List.flatten_append, List.length_cons, List.length_append, List.map_cons, List.map_nil, List.flatten_cons, List.flatten_nil, List.length_nil, List.append_nil]
  omega
def partTab (ps : List PartR) : List (Nat × Nd) := (ps.map fun q => nds q.2.2.2 0).flatten
theorem part_snoc (done : List PartR) (q : PartR) : partTab (done ++ [q]) = partTab done ++ nds q.2.2.2 0 := by
  unfold partTab
  rw [List.map_append, List.flatten_append]
  simp only [List.map_cons, List.map_nil, List.flatten_cons, List.flatten_nil, List.append_nil]
section
variable {sy : Str} {ms : NV} {ps : List PartR} {ma : List Row} {nm : Nat × List Tr} {rows : List Row}
theorem ProgOk.parts (PO : ProgOk sy ms ps ma nm rows) : ∀ n, n ≤ ps.length → ((partTab (ps.take n)).map (·.1)).Nodup ∧ ∀ x ∈ partTab (ps.take n), x.1 ≤ (prefRows sy ms (ps.take n)).length := by
  intro n
  induction n with
  | zero => exact fun _ => ⟨by simp [partTab], fun x hx => by simp [partTab] at hx⟩
  | succ n ih =>
    intro hn
    obtain ⟨h1, h2⟩ := ih (by omega)
    have e : ps.take (n + 1) = ps.take n ++ [ps[n]] := by
      rw [List.take_succ, List.getElem?_eq_getElem (by omega)]
      rfl
    have hb := PO.bod (ps.take n) ps[n] (ps.drop (n + 1)) (by rw [← List.drop_eq_getElem_cons (by omega), List.take_append_drop])
    obtain ⟨e1, e2⟩ := hb.lines 0
    rw [e, part_snoc, pref_snoc]
    refine ⟨?_, fun x hx => ?_⟩
    · rw [List.map_append]
      refine List.nodup_append.mpr ⟨h1, e1, fun x hx y hy z => ?_⟩
      obtain ⟨q, hq, e5⟩ := List.mem_map.mp hx
      obtain ⟨q2, hq2, e6⟩ := List.mem_map.mp hy
      have := h2 q hq
      have := (e2 q2 hq2).1
      omega
    · rcases List.mem_append.mp hx with hx | hx
      · have := h2 x hx
        omega
      · have := (e2 x hx).2
        omega
theorem ProgOk.lines (PO : ProgOk sy ms ps ma nm rows) : ((tabOf ps nm).map (·.1)).Nodup := by
  obtain ⟨h1, h2⟩ := PO.parts ps.length (Nat.le_refl _)
  rw [List.take_length] at h1 h2
  obtain ⟨e1, e2⟩ := PO.mbod.lines 0
  show ((partTab ps ++ nds nm.2 0).map (·.1)).Nodup
  rw [List.map_append]
  refine List.nodup_append.mpr ⟨h1, e1, fun x hx y hy z => ?_⟩
  obtain ⟨q, hq, e5⟩ := List.mem_map.mp hx
  obtain ⟨q2, hq2, e6⟩ := List.mem_map.mp hy
  have := h2 q hq
  have := (e2 q2 hq2).1
  omega
/-- the parts by their first lines -/
def ptsOf (ps : List PartR) (n : Nat) : Option (List Tr) := (ps.find? fun q => decide (nxtT 0 q.2.2.2 = n)).map (·.2.2.2)
theorem ProgOk.at_part (PO : ProgOk sy ms ps ma nm rows) {q : PartR} (hq : q ∈ ps) : inA (tabOf ps nm) q.2.2.2 0 ∧ q.2.2.2 ≠ [] := by
  obtain ⟨a, b, e⟩ := List.append_of_mem hq
  have hb := PO.bod a q b e
  refine ⟨inA_of PO.lines _ _ hb.pos fun x hx => List.mem_append_left _ (List.mem_flatten.mpr ⟨_, List.mem_map.mpr ⟨q, hq, rfl⟩, hx⟩), fun z => ?_⟩
  obtain ⟨_, _, _, _, u, vs, _, _, e2, _⟩ := hb.split
  rw [z] at e2
  cases e2
theorem ProgOk.main_in (PO : ProgOk sy ms ps ma nm rows) : inA (tabOf ps nm) nm.2 0 ∧ nm.2 ≠ [] := by
  refine ⟨inA_of PO.lines _ _ PO.mbod.pos fun x hx => List.mem_append_right _ hx, fun z => ?_⟩
  obtain ⟨_, _, _, _, u, vs, _, _, e2, _⟩ := PO.mbod.split
  rw [z] at e2
  cases e2
theorem ProgOk.pts (PO : ProgOk sy ms ps ma nm rows) : PtsOk (tabOf ps nm) (ptsOf ps) := fun n b h => by
  unfold ptsOf at h
  obtain ⟨q, hq, rfl⟩ := Option.map_eq_some_iff.mp h
  have h1 := List.mem_of_find?_eq_some hq
  have h2 : nxtT 0 q.2.2.2 = n := by simpa using List.find?_some hq
  exact ⟨(PO.at_part h1).1, h2, (PO.at_part h1).2⟩
end
/-! ### what is done is a part -/
theorem giv_part {sy : Str} {ms ss : NV} {ws : List Str} {n : Nat} (h : Giv sy ms ss ws (.part n)) : ∃ x, (x, n) ∈ ss := by
  cases h with
  | do_ x i n h => exact ⟨x, List.mem_of_getElem? h⟩
mutual
theorem Stm.dos {sy : Str} {ms ss : NV} : ∀ {d k : Nat} {seg : List Row} {n : Nat} {t : Tr}, Stm sy ms ss d k seg n t → ∀ f, ∀ q ∈ ndT t f, ∀ p, q.2.gv = .part p → ∃ x, (x, p) ∈ ss
  | _, _, _, _, _, .plain d k x r gv h1 h2 h3 h4, f, q, hq, p, e => by
    simp only [ndT, nds, List.append_nil] at hq
    rw [List.mem_singleton.mp hq] at e
    have e' : gv = .part p := e
    rw [e'] at h1
    exact giv_part h1
  | _, _, _, _, _, .loop d k r gv b n ts h1 h2 h3, f, q, hq, p, e => by
    simp only [ndT, nds, List.append_nil] at hq
    rcases List.mem_cons.mp hq with hq | hq
    · rw [hq] at e
      have e' : gv = .part p := e
      rw [e'] at h1
      exact giv_part h1
    · exact Bod.dos h3 _ q hq p e
  | _, _, _, _, _, .cond d k r gv b n ts h1 h2 h3, f, q, hq, p, e => by
    simp only [ndT, nds, List.append_nil] at hq
    rcases List.mem_cons.mp hq with hq | hq
    · rw [hq] at e
      have e' : gv = .part p := e
      rw [e'] at h1
      exact giv_part h1
    · exact Bod.dos h3 _ q hq p e
  | _, _, _, _, _, .both d k r gv b c n m ts us h1 h2 h3 h4, f, q, hq, p, e => by
    simp only [ndT] at hq
    rcases List.mem_cons.mp hq with hq | hq
    · rw [hq] at e
      have e' : gv = .part p := e
      rw [e'] at h1
      exact giv_part h1
    · rcases List.mem_append.mp hq with hq | hq
      · exact Bod.dos h3 _ q hq p e
      · exact Bod.dos h4 _ q hq p e
theorem Bod.dos {sy : Str} {ms ss : NV} : ∀ {d k : Nat} {seg : List Row} {n : Nat} {ts : List Tr}, Bod sy ms ss d k seg n ts → ∀ f, ∀ q ∈ nds ts f, ∀ p, q.2.gv = .part p → ∃ x, (x, p) ∈ ss
  | _, _, _, _, _, .one d k s n t h, f, q, hq, p, e => by
    simp only [nds, List.append_nil] at hq
    exact Stm.dos h _ q hq p e
  | _, _, _, _, _, .more d k s t n m u us h1 h2, f, q, hq, p, e => by
    simp only [nds] at hq
    rcases List.mem_append.mp hq with hq | hq
    · exact Stm.dos h1 _ q hq p e
    · exact Bod.dos h2 _ q hq p e
end
section
variable {sy : Str} {ms : NV} {ps : List PartR} {ma : List Row} {nm : Nat × List Tr} {rows : List Row}
theorem nxt_tree {sy : Str} {ms ss : NV} {d k : Nat} {seg : List Row} {n : Nat} {us : List Tr} (h : Bod sy ms ss d k seg n us) : nxtT 0 us = k + 1 := by
  obtain ⟨s, t, i, j, u, vs, _, _, rfl, h1, _⟩ := h.split
  obtain ⟨x, r, rest, gv, ins, oth, _, _, _, _, rfl⟩ := h1.first
  rfl
theorem ProgOk.start_in (PO : ProgOk sy ms ps ma nm rows) : ∀ n, n ≤ ps.length → ∀ x v, (x, v) ∈ startsOf ms (ps.take n) → ∃ q ∈ ps, nxtT 0 q.2.2.2 = v := by
  intro n
  induction n with
  | zero => exact fun _ x v h => by cases h
  | succ n ih =>
    intro hn x v h
    have e : ps.take (n + 1) = ps.take n ++ [ps[n]] := by
      rw [List.take_succ, List.getElem?_eq_getElem (by omega)]
      rfl
    have hb := PO.bod (ps.take n) ps[n] (ps.drop (n + 1)) (by rw [← List.drop_eq_getElem_cons (by omega), List.take_append_drop])
    rw [e, starts_snoc sy] at h
    rcases List.mem_append.mp h with h | h
    · exact ih (by omega) x v h
    · have h2 := List.mem_singleton.mp h
      refine ⟨ps[n], List.getElem_mem (by omega), ?_⟩
      rw [nxt_tree hb]
      exact (Prod.mk.inj h2).2.symm
theorem ProgOk.dos (PO : ProgOk sy ms ps ma nm rows) : ∀ n s nd, rowAt (tabOf ps nm) n = some nd → nd.wd = "do" → nd.gv = .part s → (ptsOf ps s).isSome = true := by
  intro n s nd hr hw hg
  obtain ⟨q, hq, rfl⟩ := Option.map_eq_some_iff.mp hr
  have hq := List.mem_of_find?_eq_some hq
  have key : ∃ q ∈ ps, nxtT 0 q.2.2.2 = s := by
    rcases List.mem_append.mp hq with hq | hq
    · obtain ⟨l, hl, hql⟩ := List.mem_flatten.mp hq
      obtain ⟨pq, hpq, rfl⟩ := List.mem_map.mp hl
      obtain ⟨a, b, e⟩ := List.append_of_mem hpq
      obtain ⟨x, hx⟩ := (PO.bod a pq b e).dos 0 q hql s hg
      have ea : a = ps.take a.length := by rw [e, List.take_left]
      rw [ea] at hx
      exact PO.start_in a.length (by rw [e, List.length_append]; omega) x s hx
    · obtain ⟨x, hx⟩ := PO.mbod.dos 0 q hq s hg
      rw [← List.take_length (l := ps)] at hx
      exact PO.start_in ps.length (Nat.le_refl _) x s hx
  obtain ⟨p, hp, e⟩ := key
  unfold ptsOf
  rw [Option.isSome_map]
  exact List.find?_isSome.mpr ⟨p, hp, by simpa using e⟩
end
end Fv
set_option Elab.async false
set_option linter.all false
set_option maxRecDepth 100000
set_option maxHeartbeats 4000000
namespace Fv
open PySem L2 TL
/-! ### what is given fits the word -/
structure Fit (ms ss : NV) (wd : Str) (gv : Gv) : Prop where
  do_ : wd = "do" → ∃ x n, gv = .part n ∧ (x, n) ∈ ss
  cond : wd = "if" ∨ wd = "while" → ∃ wt pl i v, gv = .cond wt pl i v ∧ (pl ≠ "" ∨ i < ms.length)
  set_ : wd = "set" → ∃ i v, gv = .pair i v ∧ i < ms.length ∧ v ≤ 2
  add : wd = "add" → ∃ i v, gv = .pair i v ∧ i < ms.length
  write : wd = "write" → ∃ z, gv = .letter z ∧ z.length = 1
theorem core_fit {sy : Str} {ms : NV} {ws : List Str} {pl : Str} {i v : Nat} (h : Core sy ms ws pl i v) (ne : ∀ z ∈ ws, z ≠ "") : pl ≠ "" ∨ i < ms.length := by
  cases h with
  | at_ x _ _ => exact .inl (ne _ (by simp))
  | eq c i v most h => exact .inr (List.getElem?_eq_some_iff.mp h).1
theorem cond_fit {sy : Str} {ms : NV} {ws : List Str} {wt : Bool} {pl : Str} {i v : Nat} (h : CondOk sy ms ws wt pl i v) (ne : ∀ z ∈ ws, z ≠ "") : pl ≠ "" ∨ i < ms.length := by
  rcases h with ⟨_, h⟩ | ⟨_, r, rfl, h⟩
  · exact core_fit h ne
  · exact core_fit h fun z hz => ne z (List.mem_cons_of_mem _ hz)
theorem giv_fit {sy : Str} {ms ss : NV} {x : Str} {r : List Str} {gv : Gv} (h : Giv sy ms ss (x :: r) gv) (ne : ∀ z ∈ x :: r, z ≠ "") : Fit ms ss x gv := by
  have w : ∀ (a b : String), decide ((Str.ofString a) = (Str.ofString b)) = false → (Str.ofString a) ≠ (Str.ofString b) := fun a b h z => by rw [decide_eq_true z] at h; cases h
  cases h with
  | set c i v most h1 h2 h3 =>
    exact ⟨fun e => absurd e (by decide +kernel), fun e => absurd e (by decide +kernel), fun _ => ⟨i, v, rfl, (List.getElem?_eq_some_iff.mp h1).1, by omega⟩, fun e => absurd e (by decide +kernel), fun e => absurd e (by decide +kernel)⟩
  | add c i v most h1 h2 h3 =>
    exact ⟨fun e => absurd e (by decide +kernel), fun e => absurd e (by decide +kernel), fun e => absurd e (by decide +kernel), fun _ => ⟨i, v, rfl, (List.getElem?_eq_some_iff.mp h1).1⟩, fun e => absurd e (by decide +kernel)⟩
  | if_ r wt pl i v h1 =>
    exact ⟨fun e => absurd e (by decide +kernel), fun _ => ⟨wt, pl, i, v, rfl, cond_fit h1 fun z hz => ne z (List.mem_cons_of_mem _ hz)⟩, fun e => absurd e (by decide +kernel), fun e => absurd e (by decide +kernel), fun e => absurd e (by decide +kernel)⟩
  | while_ r wt pl i v h1 =>
    exact ⟨fun e => absurd e (by decide +kernel), fun _ => ⟨wt, pl, i, v, rfl, cond_fit h1 fun z hz => ne z (List.mem_cons_of_mem _ hz)⟩, fun e => absurd e (by decide +kernel), fun e => absurd e (by decide +kernel), fun e => absurd e (by decide +kernel)⟩
  | write z h1 h2 =>
    exact ⟨fun e => absurd e (by decide +kernel), fun e => absurd e (by decide +kernel), fun e => absurd e (by decide +kernel), fun e => absurd e (by decide +kernel), fun _ => ⟨z, rfl, h1⟩⟩
  | do_ x i n h1 =>
    exact ⟨fun _ => ⟨x, n, rfl, List.mem_of_getElem? h1⟩, fun e => absurd e (by decide +kernel), fun e => absurd e (by decide +kernel), fun e => absurd e (by decide +kernel), fun e => absurd e (by decide +kernel)⟩
  | right => exact ⟨fun e => absurd e (by decide +kernel), fun e => absurd e (by decide +kernel), fun e => absurd e (by decide +kernel), fun e => absurd e (by decide +kernel), fun e => absurd e (by decide +kernel)⟩
  | left => exact ⟨fun e => absurd e (by decide +kernel), fun e => absurd e (by decide +kernel), fun e => absurd e (by decide +kernel), fun e => absurd e (by decide +kernel), fun e => absurd e (by decide +kernel)⟩
  | copy => exact ⟨fun e => absurd e (by decide +kernel), fun e => absurd e (by decide +kernel), fun e => absurd e (by decide +kernel), fun e => absurd e (by decide +kernel), fun e => absurd e (by decide +kernel)⟩
  | stop => exact ⟨fun e => absurd e (by decide +kernel), fun e => absurd e (by decide +kernel), fun e => absurd e (by decide +kernel), fun e => absurd e (by decide +kernel), fun e => absurd e (by decide +kernel)⟩
mutual
def fitT (ms ss : NV) : Tr → Prop
  | .node _ wd gv ins oth => Fit ms ss wd gv ∧ fitA ms ss ins ∧ fitA ms ss oth
def fitA (ms ss : NV) : List Tr → Prop
  | [] => True
  | t :: ts => fitT ms ss t ∧ fitA ms ss ts
end
theorem fitA_at {ms ss : NV} : ∀ {ts : List Tr} {i : Nat} {t : Tr}, fitA ms ss ts → ts[i]? = some t → fitT ms ss t
  | [], i, _, _, h => by cases i <;> cases h
  | u :: ts, 0, t, h, k => by
    have e : u = t := Option.some.inj k
    subst e
    simp only [fitA] at h
    exact h.1
  | u :: ts, i + 1, t, h, k => by
    simp only [fitA] at h
    exact fitA_at (ts := ts) (i := i) h.2 k
theorem fitT_of {ms ss : NV} {t : Tr} (h : fitT ms ss t) : Fit ms ss t.wd t.gv ∧ fitA ms ss t.ins ∧ fitA ms ss t.oth := by
  obtain ⟨ln, wd, gv, ins, oth⟩ := t
  simp only [fitT] at h
  exact h
abbrev NeRows (seg : List Row) : Prop := ∀ r ∈ seg, ∀ z ∈ r.2, z ≠ ""
mutual
theorem Stm.fit {sy : Str} {ms ss : NV} : ∀ {d k : Nat} {seg : List Row} {n : Nat} {t : Tr}, Stm sy ms ss d k seg n t → NeRows seg → fitT ms ss t
  | _, _, _, _, _, .plain d k x r gv h1 h2 h3 h4, ne => by simp only [fitT, fitA]; exact ⟨giv_fit h1 (ne _ List.mem_cons_self), trivial, trivial⟩
  | _, _, _, _, _, .loop d k r gv b n ts h1 h2 h3, ne => by simp only [fitT, fitA]; exact ⟨giv_fit h1 (ne _ List.mem_cons_self), Bod.fit h3 fun q hq => ne q (List.mem_cons_of_mem _ hq), trivial⟩
  | _, _, _, _, _, .cond d k r gv b n ts h1 h2 h3, ne => by simp only [fitT, fitA]; exact ⟨giv_fit h1 (ne _ List.mem_cons_self), Bod.fit h3 fun q hq => ne q (List.mem_cons_of_mem _ hq), trivial⟩
  | _, _, _, _, _, .both d k r gv b c n m ts us h1 h2 h3 h4, ne => by
    simp only [fitT]
    exact ⟨giv_fit h1 (ne _ List.mem_cons_self), Bod.fit h3 fun q hq => ne q (List.mem_cons_of_mem _ (List.mem_append_left _ hq)), Bod.fit h4 fun q hq => ne q (List.mem_cons_of_mem _ (List.mem_append_right _ (List.mem_cons_of_mem _ hq)))⟩
theorem Bod.fit {sy : Str} {ms ss : NV} : ∀ {d k : Nat} {seg : List Row} {n : Nat} {ts : List Tr}, Bod sy ms ss d k seg n ts → NeRows seg → fitA ms ss ts
  | _, _, _, _, _, .one d k s n t h, ne => by simp only [fitA]; exact ⟨Stm.fit h ne, trivial⟩
  | _, _, _, _, _, .more d k s t n m u us h1 h2, ne => by simp only [fitA]; exact ⟨Stm.fit h1 fun q hq => ne q (List.mem_append_left _ hq), Bod.fit h2 fun q hq => ne q (List.mem_append_right _ hq)⟩
end
/-! ### few in a box -/
theorem nodup_len {α : Type} [DecidableEq α] : ∀ {l m : List α}, l.Nodup → (∀ x ∈ l, x ∈ m) → l.length ≤ m.length
  | [], _, _, _ => Nat.zero_le _
  | a :: l, m, h, k => by
    obtain ⟨h1, h2⟩ := List.nodup_cons.mp h
    have ha := k a List.mem_cons_self
    have ih := nodup_len (m := m.erase a) h2 fun x hx => (List.mem_erase_of_ne (fun e => h1 (by rw [← e]; exact hx))).mpr (k x (List.mem_cons_of_mem _ hx))
    rw [List.length_erase_of_mem ha] at ih
    have : 0 < m.length := List.length_pos_of_mem ha
    rw [List.length_cons]
    omega
/-- a list without twice the same, its members told apart by numbers below B -/
theorem box_len {α : Type} {e : α → Nat} {B : Nat} {Box : α → Prop} {l : List α} (hN : l.Nodup) (hb : ∀ x ∈ l, Box x) (inj : ∀ x y, Box x → Box y → e x = e y → x = y) (lt : ∀ x, Box x → e x < B) : l.length ≤ B := by
  have h1 : (l.map e).Nodup := by
    clear lt
    induction l with
    | nil => exact List.nodup_nil
    | cons a l ih =>
      obtain ⟨h1, h2⟩ := List.nodup_cons.mp hN
      rw [List.map_cons]
      refine List.nodup_cons.mpr ⟨fun z => ?_, ih h2 fun x hx => hb x (List.mem_cons_of_mem _ hx)⟩
      obtain ⟨y, hy, he⟩ := List.mem_map.mp z
      have := inj y a (hb y (List.mem_cons_of_mem _ hy)) (hb a List.mem_cons_self) he
      rw [this] at hy
      exact h1 hy
  have h2 := nodup_len (m := List.range B) h1 fun x hx => by
    obtain ⟨y, hy, he⟩ := List.mem_map.mp hx
    rw [← he]
    exact List.mem_range.mpr (lt y (hb y hy))
  rw [List.length_map, List.length_range] at h2
  exact h2
end Fv
set_option Elab.async false
set_option linter.all false
set_option maxRecDepth 100000
set_option maxHeartbeats 4000000
namespace Fv
open PySem L2 TL
section
variable {sy : Str} {ms : NV} {ps : List PartR} {ma : List Row} {nm : Nat × List Tr} {rows : List Row}
theorem take_snoc (ps : List PartR) {a : Nat} (h : a < ps.length) : ps.take (a + 1) = ps.take a ++ [ps[a]] := by
  rw [List.take_succ, List.getElem?_eq_getElem h]
  rfl
theorem ProgOk.bod_at (PO : ProgOk sy ms ps ma nm rows) {a : Nat} (h : a < ps.length) : Bod sy ms (startsOf ms (ps.take a)) 1 ((prefRows sy ms (ps.take a)).length + 1) ps[a].2.1 ps[a].2.2.1 ps[a].2.2.2 :=
  PO.bod (ps.take a) ps[a] (ps.drop (a + 1)) (by rw [← List.drop_eq_getElem_cons h, List.take_append_drop])
theorem pref_mono (sy : Str) (ms : NV) (ps : List PartR) : ∀ {a b : Nat}, a < b → b ≤ ps.length → (prefRows sy ms (ps.take a)).length < (prefRows sy ms (ps.take b)).length := by
  intro a b h hb
  induction b with
  | zero => omega
  | succ b ih =>
    rw [take_snoc ps (by omega), pref_snoc]
    by_cases e : a = b
    · subst e
      omega
    · have := ih (by omega) (by omega)
      omega
theorem mem_starts (sy : Str) : ∀ (j : Nat), j ≤ ps.length → ∀ x v, (x, v) ∈ startsOf ms (ps.take j) → ∃ a, a < j ∧ v = (prefRows sy ms (ps.take a)).length + 2 := by
  intro j
  induction j with
  | zero => exact fun _ x v h => by cases h
  | succ j ih =>
    intro hj x v h
    rw [take_snoc ps (by omega), starts_snoc sy] at h
    rcases List.mem_append.mp h with h | h
    · obtain ⟨a, h1, h2⟩ := ih (by omega) x v h
      exact ⟨a, by omega, h2⟩
    · exact ⟨j, by omega, (Prod.mk.inj (List.mem_singleton.mp h)).2⟩
/-- the part that is done -/
theorem ProgOk.pts_at (PO : ProgOk sy ms ps ma nm rows) {a : Nat} (ha : a < ps.length) : ptsOf ps ((prefRows sy ms (ps.take a)).length + 2) = some ps[a].2.2.2 := by
  unfold ptsOf
  have h1 : nxtT 0 ps[a].2.2.2 = (prefRows sy ms (ps.take a)).length + 2 := nxt_tree (PO.bod_at ha)
  cases hf : ps.find? fun q => decide (nxtT 0 q.2.2.2 = (prefRows sy ms (ps.take a)).length + 2) with
  | none =>
    have := List.find?_eq_none.mp hf ps[a] (List.getElem_mem ha)
    simp [h1] at this
  | some q =>
    obtain ⟨b, hb, rfl⟩ := List.getElem_of_mem (List.mem_of_find?_eq_some hf)
    have h2 : nxtT 0 ps[b].2.2.2 = (prefRows sy ms (ps.take a)).length + 2 := by simpa using List.find?_some hf
    rw [nxt_tree (PO.bod_at hb)] at h2
    have e : a = b := by
      rcases Nat.lt_trichotomy a b with h | h | h
      · have := pref_mono sy ms ps h (by omega)
        omega
      · exact h
      · have := pref_mono sy ms ps h (by omega)
        omega
    subst e
    rfl
end
/-- frames whose bodies do only what stands before -/
def FrFit (ms : NV) (ps : List PartR) : List Fr → Prop
  | [] => True
  | (body, _) :: rest => (∃ j, j ≤ ps.length ∧ fitA ms (startsOf ms (ps.take j)) body ∧ (doLines rest).length + j ≤ ps.length) ∧ FrFit ms ps rest
theorem nextF_fit {ms : NV} {ps : List PartR} : ∀ (n : Nat) (rest : List Fr) (body : List Tr) (i : Nat), rest.length = n → FrFit ms ps ((body, i) :: rest) → FrFit ms ps (nextF ((body, i) :: rest)) := by
  intro n
  induction n with
  | zero =>
    intro rest body i hn h
    have e : rest = [] := List.eq_nil_of_length_eq_zero hn
    subst e
    rw [nextF]
    split
    · exact h
    · trivial
  | succ n ih =>
    intro rest body i hn h
    cases rest with
    | nil => cases hn
    | cons g r =>
      obtain ⟨b2, j⟩ := g
      rw [nextF]
      split
      · exact h
      · cases hs : b2[j]? with
        | none => simp only [hs]; trivial
        | some s =>
          simp only [hs]
          split
          · exact h.2
          · exact ih r b2 (j + 1) (by simpa using hn) h.2
theorem moveP_cases (wd : Str) : (wd = "right" ∧ moveP wd = 1) ∨ (wd = "left" ∧ moveP wd = -1) ∨ moveP wd = 0 := by
  unfold moveP
  by_cases h1 : wd = "right"
  · rw [if_pos h1]; exact .inl ⟨h1, rfl⟩
  · rw [if_neg h1]
    by_cases h2 : wd = "left"
    · rw [if_pos h2]; exact .inr (.inl ⟨h2, rfl⟩)
    · rw [if_neg h2]; exact .inr (.inr rfl)
section
variable {sy : Str} {ms : NV} {ps : List PartR} {ma : List Row} {nm : Nat × List Tr} {rows : List Row}
/-- each step is told -/
theorem ProgOk.step (PO : ProgOk sy ms ps ma nm rows) (hne : NeRows rows) {g : Nat} {body : List Tr} {i : Nat} {rest : List Fr} {cells : List Nat} (hi : i < body.length) (hf : FrFit ms ps ((body, i) :: rest)) (hc : cells.length = ms.length) (hc2 : ∀ x ∈ cells, x ≤ 2) :
    ∃ r, stepF (ptsOf ps) (ms.map (·.2)) g ((body, i) :: rest, cells) = some r ∧ FrFit ms ps r.1.1 ∧ r.1.2.length = ms.length ∧ (∀ x ∈ r.1.2, x ≤ 2) ∧ r.2.2.length ≤ 10 ∧ ((r.2.1 = 1 ∧ g ≠ 62) ∨ (r.2.1 = -1 ∧ g ≠ 60) ∨ r.2.1 = 0) := by
  obtain ⟨s, hs⟩ : ∃ s, body[i]? = some s := ⟨_, List.getElem?_eq_getElem hi⟩
  obtain ⟨⟨j, hj, hfit, hdo⟩, hrest⟩ := id hf
  obtain ⟨F, fi, fo⟩ := fitT_of (fitA_at hfit hs)
  have l0 : ("" : Str).length ≤ 10 := by decide +kernel
  unfold stepF
  dsimp only
  rw [hs, Option.bind_some]
  by_cases he : endsP s.wd g = true
  · rw [if_pos he]
    exact ⟨_, rfl, trivial, hc, hc2, l0, .inr (.inr rfl)⟩
  · rw [if_neg he]
    by_cases hd : s.wd = "do"
    · rw [if_pos hd]
      obtain ⟨x, n, hg, hx⟩ := F.do_ hd
      obtain ⟨a, ha, hn⟩ := mem_starts sy j hj x n hx
      rw [hg]
      dsimp only
      rw [hn, PO.pts_at (by omega)]
      have eD : doLines ((body, i) :: rest) = s.ln :: doLines rest := by
        simp only [doLines, hs]
        rw [if_pos hd]
      refine ⟨_, rfl, ⟨⟨a, by omega, (PO.bod_at (by omega)).fit fun q hq => hne q ?_, by rw [eD, List.length_cons]; omega⟩, hf⟩, hc, hc2, l0, .inr (.inr rfl)⟩
      have hmem : ps[a] ∈ ps := List.getElem_mem (by omega)
      rw [PO.eq]
      unfold headRows
      refine List.mem_append_left _ (List.mem_cons_of_mem _ (List.mem_append_right _ (List.mem_flatten.mpr ⟨partRows ps[a], List.mem_map.mpr ⟨_, hmem, rfl⟩, ?_⟩)))
      unfold partRows
      exact List.mem_cons_of_mem _ hq
    · rw [if_neg hd]
      have hF1 : FrFit ms ps (nextF ((body, i + 1) :: rest)) := nextF_fit rest.length rest body (i + 1) rfl ⟨⟨j, hj, hfit, hdo⟩, hrest⟩
      have eD : doLines ((body, i) :: rest) = doLines rest := by
        simp only [doLines, hs]
        rw [if_neg hd]
      -- the cells
      have hcell : ∃ cs, cellsP (ms.map (·.2)) (ndOf s 0) cells = some cs ∧ cs.length = ms.length ∧ ∀ x ∈ cs, x ≤ 2 := by
        unfold cellsP
        by_cases h1 : (ndOf s 0).wd = "set"
        · rw [if_pos h1]
          obtain ⟨k, v, hg, hk, hv⟩ := F.set_ h1
          have hg' : (ndOf s 0).gv = .pair k v := hg
          rw [hg']
          dsimp only
          rw [if_pos (by omega)]
          refine ⟨_, rfl, by rw [List.length_set]; exact hc, fun x hx => ?_⟩
          rcases List.mem_or_eq_of_mem_set hx with hx | hx
          · exact hc2 x hx
          · omega
        · rw [if_neg h1]
          by_cases h2 : (ndOf s 0).wd = "add"
          · rw [if_pos h2]
            obtain ⟨k, v, hg, hk⟩ := F.add h2
            have hg' : (ndOf s 0).gv = .pair k v := hg
            rw [hg']
            dsimp only
            rw [List.getElem?_eq_getElem (by omega), Option.bind_some, List.getElem?_map, List.getElem?_eq_getElem hk]
            refine ⟨_, rfl, by rw [List.length_set]; exact hc, fun x hx => ?_⟩
            rcases List.mem_or_eq_of_mem_set hx with hx | hx
            · exact hc2 x hx
            · have h3 := (PO.cv _ (List.getElem_mem hk)).2
              rw [hx]
              refine Nat.le_trans (Nat.le_of_lt_succ (Nat.mod_lt _ (Nat.succ_pos _))) h3
          · rw [if_neg h2]
            exact ⟨_, rfl, hc, hc2⟩
      have hlet : ∃ l, letterP (ndOf s 0) g = some l ∧ l.length ≤ 10 := by
        unfold letterP
        by_cases h1 : (ndOf s 0).wd = "write"
        · rw [if_pos h1]
          obtain ⟨z, hg, hz⟩ := F.write h1
          have hg' : (ndOf s 0).gv = .letter z := hg
          rw [hg']
          exact ⟨z, rfl, by omega⟩
        · rw [if_neg h1]
          refine ⟨_, rfl, ?_⟩
          split
          · show (1 : Nat) ≤ 10
            decide
          · exact l0
      obtain ⟨cs, hcs, hcl, hcb⟩ := hcell
      obtain ⟨l, hl, hll⟩ := hlet
      have hmv : (moveP s.wd = 1 ∧ g ≠ 62) ∨ (moveP s.wd = -1 ∧ g ≠ 60) ∨ moveP s.wd = 0 := by
        rcases moveP_cases s.wd with ⟨h1, h2⟩ | ⟨h1, h2⟩ | h2
        · exact .inl ⟨h2, fun z => he (by unfold endsP; rw [h1, z]; decide +kernel)⟩
        · exact .inr (.inl ⟨h2, fun z => he (by unfold endsP; rw [h1, z]; decide +kernel)⟩)
        · exact .inr (.inr h2)
      by_cases hw : s.wd = "if" ∨ s.wd = "while"
      · rw [if_pos hw]
        obtain ⟨wt, pl, k, v, hg, hpk⟩ := F.cond hw
        rw [hg]
        dsimp only
        have hh : ∃ b, holdsP wt pl k v g cells = some b := by
          unfold holdsP
          by_cases hp : pl = ""
          · rw [if_pos hp]
            have hk : k < cells.length := by
              rcases hpk with h | h
              · exact absurd hp h
              · omega
            rw [List.getElem?_eq_getElem hk]
            exact ⟨_, rfl⟩
          · rw [if_neg hp]
            exact ⟨_, rfl⟩
        obtain ⟨b, hb⟩ := hh
        rw [hb]
        dsimp only [Option.map_some]
        rw [Option.bind_some, hcs, Option.bind_some, hl]
        refine ⟨_, rfl, ?_, hcl, hcb, hll, hmv⟩
        have enter : ∀ inner : List Tr, fitA ms (startsOf ms (ps.take j)) inner → FrFit ms ps (if inner = [] then nextF ((body, i + 1) :: rest) else (inner, 0) :: (body, i) :: rest) := fun inner h => by
          split
          · exact hF1
          · exact ⟨⟨j, hj, h, by rw [eD]; exact hdo⟩, hf⟩
        cases b with
        | true => exact enter s.ins fi
        | false => exact enter s.oth fo
      · rw [if_neg hw, Option.bind_some, hcs, Option.bind_some, hl]
        exact ⟨_, rfl, hF1, hcl, hcb, hll, hmv⟩
end
end Fv
set_option Elab.async false
set_option linter.all false
set_option maxRecDepth 100000
set_option maxHeartbeats 4000000
namespace Fv
open PySem L2 TL
/-! ### numbers for configurations -/
def encL (f : Nat → Nat) (K : Nat) : List Nat → Nat
  | [] => 0
  | a :: r => (f a + 1) + K * encL f K r
theorem encL_lt {f : Nat → Nat} {K : Nat} : ∀ {l : List Nat}, (∀ x ∈ l, f x + 1 < K) → encL f K l < K ^ l.length
  | [], _ => by simp [encL]
  | a :: r, h => by
    have ih := encL_lt (f := f) (K := K) (l := r) fun x hx => h x (List.mem_cons_of_mem _ hx)
    have ha := h a List.mem_cons_self
    rw [encL, List.length_cons, Nat.pow_succ]
    have h1 : K * (encL f K r + 1) ≤ K * K ^ r.length := Nat.mul_le_mul_left K ih
    rw [Nat.mul_add, Nat.mul_one] at h1
    rw [Nat.mul_comm (K ^ r.length) K]
    omega
theorem encL_inj {f : Nat → Nat} {K : Nat} : ∀ {l m : List Nat}, (∀ x ∈ l, f x + 1 < K) → (∀ x ∈ m, f x + 1 < K) → (∀ x ∈ l, ∀ y ∈ m, f x = f y → x = y) → encL f K l = encL f K m → l = m
  | [], [], _, _, _, _ => rfl
  | [], b :: s, _, _, _, e => by simp only [encL] at e; omega
  | a :: r, [], _, _, _, e => by simp only [encL] at e; omega
  | a :: r, b :: s, h1, h2, hi, e => by
    simp only [encL] at e
    have ha := h1 a List.mem_cons_self
    have hb := h2 b List.mem_cons_self
    have m1 : (f a + 1 + K * encL f K r) % K = f a + 1 := by rw [Nat.add_mul_mod_self_left, Nat.mod_eq_of_lt ha]
    have m2 : (f b + 1 + K * encL f K s) % K = f b + 1 := by rw [Nat.add_mul_mod_self_left, Nat.mod_eq_of_lt hb]
    have e1 : f a + 1 = f b + 1 := by rw [← m1, ← m2, e]
    have e2 : encL f K r = encL f K s := by
      have e3 : K * encL f K r = K * encL f K s := by omega
      exact Nat.eq_of_mul_eq_mul_left (by omega) e3
    rw [hi a List.mem_cons_self b List.mem_cons_self (by omega), encL_inj (fun x hx => h1 x (List.mem_cons_of_mem _ hx)) (fun x hx => h2 x (List.mem_cons_of_mem _ hx)) (fun x hx y hy => hi x (List.mem_cons_of_mem _ hx) y (List.mem_cons_of_mem _ hy)) e2]
/-- the box of configurations -/
structure Box (ls : List Nat) (m T : Nat) (c : Cf) : Prop where
  ctl : c.1.1.length ≤ 3
  ln : ∀ l ∈ c.1.1, l ∈ ls
  cl : c.1.2.length = m
  cv : ∀ x ∈ c.1.2, x ≤ 2
  pos : c.2 < T
def encC (ls : List Nat) (T : Nat) (c : Cf) : Nat := (encL (fun l => ls.idxOf l) 21 c.1.1 * 16 + encL id 4 c.1.2) * T + c.2
theorem idx_inj {ls : List Nat} {x y : Nat} (hx : x ∈ ls) (hy : y ∈ ls) (e : ls.idxOf x = ls.idxOf y) : x = y := by
  have h1 := List.getElem_idxOf (List.idxOf_lt_length_iff.mpr hx)
  have h2 := List.getElem_idxOf (List.idxOf_lt_length_iff.mpr hy)
  rw [← h1, ← h2]
  congr 1
theorem enc_parts {ls : List Nat} {m T : Nat} (hl : ls.length ≤ 20) (hm : m ≤ 2) {c : Cf} (b : Box ls m T c) : encL (fun l => ls.idxOf l) 21 c.1.1 < 9261 ∧ encL id 4 c.1.2 < 16 := by
  have h1 := encL_lt (f := fun l => ls.idxOf l) (K := 21) (l := c.1.1) fun x hx => by
    have := List.idxOf_lt_length_iff.mpr (b.ln x hx)
    show ls.idxOf x + 1 < 21
    omega
  have h2 := encL_lt (f := id) (K := 4) (l := c.1.2) fun x hx => by
    have := b.cv x hx
    show x + 1 < 4
    omega
  have p1 : 21 ^ c.1.1.length ≤ 21 ^ 3 := Nat.pow_le_pow_right (by decide) b.ctl
  have p2 : 4 ^ c.1.2.length ≤ 4 ^ 2 := Nat.pow_le_pow_right (by decide) (by rw [b.cl]; exact hm)
  exact ⟨by omega, by omega⟩
theorem enc_lt {ls : List Nat} {m T : Nat} (hl : ls.length ≤ 20) (hm : m ≤ 2) {c : Cf} (b : Box ls m T c) : encC ls T c < 148176 * T := by
  obtain ⟨h1, h2⟩ := enc_parts hl hm b
  unfold encC
  have h3 : (encL (fun l => ls.idxOf l) 21 c.1.1 * 16 + encL id 4 c.1.2) + 1 ≤ 148176 := by omega
  have h4 := Nat.mul_le_mul_right T h3
  rw [Nat.add_mul, Nat.one_mul] at h4
  have := b.pos
  omega
theorem enc_inj {ls : List Nat} {m T : Nat} (hl : ls.length ≤ 20) (hm : m ≤ 2) {c d : Cf} (b : Box ls m T c) (b' : Box ls m T d) (e : encC ls T c = encC ls T d) : c = d := by
  obtain ⟨h1, h2⟩ := enc_parts hl hm b
  obtain ⟨h3, h4⟩ := enc_parts hl hm b'
  unfold encC at e
  have hp := b.pos
  have hp' := b'.pos
  have m1 : ∀ A p : Nat, p < T → (A * T + p) % T = p := fun A p h => by rw [Nat.mul_comm, Nat.mul_add_mod, Nat.mod_eq_of_lt h]
  have e1 : c.2 = d.2 := by rw [← m1 _ _ hp, ← m1 _ _ hp', e]
  have e2 : encL (fun l => ls.idxOf l) 21 c.1.1 * 16 + encL id 4 c.1.2 = encL (fun l => ls.idxOf l) 21 d.1.1 * 16 + encL id 4 d.1.2 := by
    refine Nat.eq_of_mul_eq_mul_right (show 0 < T by omega) ?_
    omega
  have e3 : encL (fun l => ls.idxOf l) 21 c.1.1 = encL (fun l => ls.idxOf l) 21 d.1.1 := by omega
  have e4 : encL id 4 c.1.2 = encL id 4 d.1.2 := by omega
  have g1 : c.1.1 = d.1.1 := encL_inj (fun x hx => by
      have := List.idxOf_lt_length_iff.mpr (b.ln x hx)
      show ls.idxOf x + 1 < 21
      omega) (fun x hx => by
      have := List.idxOf_lt_length_iff.mpr (b'.ln x hx)
      show ls.idxOf x + 1 < 21
      omega) (fun x hx y hy e => idx_inj (b.ln x hx) (b'.ln y hy) e) e3
  have g2 : c.1.2 = d.1.2 := encL_inj (f := id) (K := 4) (fun x hx => by
      have := b.cv x hx
      show x + 1 < 4
      omega) (fun x hx => by
      have := b'.cv x hx
      show x + 1 < 4
      omega) (fun x _ y _ e => e) e4
  obtain ⟨⟨c1, c2⟩, c3⟩ := c
  obtain ⟨⟨d1, d2⟩, d3⟩ := d
  dsimp only at e1 g1 g2
  subst e1 g1 g2
  rfl
end Fv
set_option Elab.async false
set_option linter.all false
set_option maxRecDepth 100000
set_option maxHeartbeats 4000000
namespace Fv
open PySem L2 TL
mutual
theorem Stm.count {sy : Str} {ms ss : NV} : ∀ {d k : Nat} {seg : List Row} {n : Nat} {t : Tr}, Stm sy ms ss d k seg n t → ∀ f, (ndT t f).length = n
  | _, _, _, _, _, .plain d k x r gv h1 h2 h3 h4, f => by simp only [ndT, nds, List.append_nil, List.length_cons, List.length_nil]
  | _, _, _, _, _, .loop d k r gv b n ts h1 h2 h3, f => by simp only [ndT, nds, List.append_nil, List.length_cons, Bod.count h3]
  | _, _, _, _, _, .cond d k r gv b n ts h1 h2 h3, f => by simp only [ndT, nds, List.append_nil, List.length_cons, Bod.count h3]
  | _, _, _, _, _, .both d k r gv b c n m ts us h1 h2 h3 h4, f => by
    simp only [ndT, List.length_cons, List.length_append, Bod.count h3, Bod.count h4]
    omega
theorem Bod.count {sy : Str} {ms ss : NV} : ∀ {d k : Nat} {seg : List Row} {n : Nat} {ts : List Tr}, Bod sy ms ss d k seg n ts → ∀ f, (nds ts f).length = n
  | _, _, _, _, _, .one d k s n t h, f => by simp only [nds, List.append_nil, Stm.count h]
  | _, _, _, _, _, .more d k s t n m u us h1 h2, f => by simp only [nds, List.length_append, Stm.count h1, Bod.count h2]
end
section
variable {sy : Str} {ms : NV} {ps : List PartR} {ma : List Row} {nm : Nat × List Tr} {rows : List Row}
theorem ProgOk.partLen (PO : ProgOk sy ms ps ma nm rows) : ∀ n, n ≤ ps.length → (partTab (ps.take n)).length = ((ps.take n).map (·.2.2.1)).sum := by
  intro n
  induction n with
  | zero => exact fun _ => rfl
  | succ n ih =>
    intro hn
    rw [take_snoc ps (by omega), part_snoc, List.length_append, ih (by omega), (PO.bod_at (by omega)).count, List.map_append, List.sum_append]
    simp
theorem ProgOk.tabLen (PO : ProgOk sy ms ps ma nm rows) : (tabOf ps nm).length ≤ 20 := by
  have h1 := PO.partLen ps.length (Nat.le_refl _)
  rw [List.take_length] at h1
  have h2 : (tabOf ps nm).length = (partTab ps).length + (nds nm.2 0).length := by
    show (partTab ps ++ nds nm.2 0).length = _
    rw [List.length_append]
  rw [h2, h1, PO.mbod.count]
  exact PO.tot
end
theorem row_mem {tab : List (Nat × Nd)} {n : Nat} {nd : Nd} (h : rowAt tab n = some nd) : n ∈ tab.map (·.1) := by
  obtain ⟨q, hq, _⟩ := Option.map_eq_some_iff.mp h
  have h2 : q.1 = n := by simpa using List.find?_some hq
  exact List.mem_map.mpr ⟨q, List.mem_of_find?_eq_some hq, h2⟩
theorem do_mem {tab : List (Nat × Nd)} : ∀ {F : List Fr}, FrOk tab F → ∀ l ∈ doLines F, l ∈ tab.map (·.1)
  | [], _, l, h => by cases h
  | (body, i) :: rest, h, l, hl => by
    cases hs : body[i]? with
    | none =>
      simp only [doLines, hs] at hl
      exact do_mem h.2.1 l hl
    | some s =>
      simp only [doLines, hs] at hl
      split at hl
      · rcases List.mem_cons.mp hl with hl | hl
        · rw [hl]
          exact row_mem (inT_row (inA_at h.1 hs)).1
        · exact do_mem h.2.1 l hl
      · exact do_mem h.2.1 l hl
/-- signs between marks -/
structure Marked (signs : List Nat) : Prop where
  first : signs[0]? = some 60
  last : ∀ i g, signs[i]? = some g → g ≠ 62 → i + 1 < signs.length
  ok : ∀ g ∈ signs, PyData.strOk (sgS g) = true
/-- a configuration that can be met -/
structure Met (ms : NV) (ps : List PartR) (nm : Nat × List Tr) (signs : List Nat) (c : Sft × Nat) : Prop where
  ok : FrOk (tabOf ps nm) c.1.1
  at_ : FrAt c.1.1
  fit : FrFit ms ps c.1.1
  cl : c.1.2.length = ms.length
  cv : ∀ x ∈ c.1.2, x ≤ 2
  pos : c.2 < signs.length
section
variable {sy : Str} {ms : NV} {ps : List PartR} {ma : List Row} {nm : Nat × List Tr} {rows : List Row} {signs : List Nat}
theorem Met.box (PO : ProgOk sy ms ps ma nm rows) {c : Sft × Nat} (G : Met ms ps nm signs c) : Box ((tabOf ps nm).map (·.1)) ms.length signs.length (told c) := by
  obtain ⟨⟨F, cells⟩, pos⟩ := c
  obtain ⟨h1, h2, h3, h4, h5, h6⟩ := G
  dsimp only at h1 h2 h3 h4 h5 h6
  refine ⟨?_, ?_, h4, h5, h6⟩
  · cases F with
    | nil => exact Nat.zero_le _
    | cons g rest =>
      obtain ⟨body, i⟩ := g
      have hi := h2 _ _ _ rfl
      show (ctlOf ((body, i) :: rest)).length ≤ 3
      rw [ctl_cons (List.getElem?_eq_getElem hi), List.length_cons]
      obtain ⟨⟨j, hj, _, hd⟩, _⟩ := h3
      have := PO.p2
      omega
  · cases F with
    | nil => exact fun l hl => by cases hl
    | cons g rest =>
      obtain ⟨body, i⟩ := g
      have hi := h2 _ _ _ rfl
      show ∀ l ∈ ctlOf ((body, i) :: rest), _
      rw [ctl_cons (List.getElem?_eq_getElem hi)]
      intro l hl
      rcases List.mem_cons.mp hl with hl | hl
      · rw [hl]
        exact row_mem (inT_row (inA_at h1.1 (List.getElem?_eq_getElem hi))).1
      · exact do_mem h1.2.1 l hl
theorem Met.next (PO : ProgOk sy ms ps ma nm rows) (hne : NeRows rows) (M : Marked signs) {c : Sft × Nat} (G : Met ms ps nm signs c) (h : ¬ (told c).1.1 = []) : ∃ r, nextCF (ptsOf ps) (ms.map (·.2)) signs c = some r ∧ Met ms ps nm signs r.1 := by
  have B := G.box PO
  obtain ⟨⟨F, cells⟩, pos⟩ := c
  obtain ⟨h1, h2, h3, h4, h5, h6⟩ := G
  dsimp only at h1 h2 h3 h4 h5 h6
  cases F with
  | nil => exact absurd rfl h
  | cons g rest =>
    obtain ⟨body, i⟩ := g
    have hi := h2 _ _ _ rfl
    obtain ⟨r, e1, e2, e3, e4, e5, e6⟩ := PO.step hne (g := signs[pos]) hi h3 h4 h5
    obtain ⟨_, k1⟩ := step_eq (mosts := ms.map (·.2)) (c := signs[pos]) (cells := cells) PO.pts PO.dos h1 h2
    obtain ⟨k2, k3⟩ := k1 _ e1
    have hc := PO.c2
    have hsg : signs[pos]? = some signs[pos] := List.getElem?_eq_getElem h6
    have hpos : 0 ≤ (pos : Int) + r.2.1 ∧ ((pos : Int) + r.2.1).toNat < signs.length := by
      rcases e6 with ⟨z, ng⟩ | ⟨z, ng⟩ | z
      · have := M.last pos _ hsg ng
        rw [z]
        omega
      · have hp0 : pos ≠ 0 := fun z0 => ng (by
          have h0 := M.first
          subst z0
          rw [hsg] at h0
          exact Option.some.inj h0)
        rw [z]
        omega
      · rw [z]
        omega
    have hb := B.ctl
    unfold nextCF
    dsimp only
    have hg : (ctlOf ((body, i) :: rest)).length ≤ 10 ∧ cells.length ≤ 10 := ⟨Nat.le_trans hb (by decide), by omega⟩
    rw [if_pos hg, hsg, Option.bind_some, if_pos (M.ok _ (List.getElem_mem h6)), e1, Option.bind_some, if_pos ⟨hpos.1, e5⟩]
    exact ⟨_, rfl, k2, k3, e2, e3, e4, hpos.2⟩
/-- it ends, or it comes back -/
theorem ProgOk.ends (PO : ProgOk sy ms ps ma nm rows) (hne : NeRows rows) (M : Marked signs) : ∀ (m : Nat) (seen : List Cf) (out : List (Str × Nat)) (c : Sft × Nat), Met ms ps nm signs c → seen.Nodup → (∀ s ∈ seen, Box ((tabOf ps nm).map (·.1)) ms.length signs.length s) → seen.length + m = 148176 * signs.length + 1 → ∃ res, runF (ptsOf ps) (ms.map (·.2)) signs m seen out c = some res := by
  have hl : ((tabOf ps nm).map (·.1)).length ≤ 20 := by
    rw [List.length_map]
    exact PO.tabLen
  intro m
  induction m with
  | zero =>
    intro seen out c G hN hb hm
    have := box_len hN hb (fun x y bx by_ e => enc_inj hl PO.c2 bx by_ e) (fun x bx => enc_lt hl PO.c2 bx)
    omega
  | succ m ih =>
    intro seen out c G hN hb hm
    unfold runF
    by_cases e0 : (told c).1.1 = []
    · rw [if_pos e0]
      exact ⟨_, rfl⟩
    · rw [if_neg e0]
      by_cases hs : told c ∈ seen
      · rw [if_pos hs]
        exact ⟨_, rfl⟩
      · rw [if_neg hs]
        obtain ⟨r, e1, G'⟩ := G.next PO hne M e0
        rw [e1, Option.bind_some]
        refine ih _ _ _ G' (List.nodup_append.mpr ⟨hN, by simp, fun x hx y hy e => hs (by
          have := List.mem_singleton.mp hy
          rw [← this, ← e]
          exact hx)⟩) (fun s h => ?_) (by rw [List.length_append]; show _ + 1 + m = _; omega)
        rcases List.mem_append.mp h with h | h
        · exact hb s h
        · rw [List.mem_singleton.mp h]
          exact G.box PO
end
end Fv
set_option Elab.async false
set_option linter.all false
set_option maxRecDepth 100000
set_option maxHeartbeats 4000000
namespace Fv
open PySem L2 TL
theorem alpha_ok : ∀ g ∈ tl alpha, PyData.strOk (sgS g) = true ∧ g ≠ 60 ∧ g ≠ 62 := by
  rw [tl_alpha]
  have h : ((List.range 26).map (· + 97)).all (fun g => PyData.strOk (sgS g) && (decide (g ≠ 60) && decide (g ≠ 62))) = true := by decide +kernel
  intro g hg
  have := List.all_eq_true.mp h g hg
  rw [Bool.and_eq_true, Bool.and_eq_true] at this
  exact ⟨this.1, of_decide_eq_true this.2.1, of_decide_eq_true this.2.2⟩
theorem marked_of {t : Str} (h : ∀ c ∈ tl t, c ∈ tl alpha) : Marked (tl (ordOf t)) := by
  rw [tl_ord]
  refine ⟨rfl, fun i g hg ne => ?_, fun g hg => ?_⟩
  · have hi := (List.getElem?_eq_some_iff.mp hg).1
    rw [List.length_cons, List.length_append] at hi ⊢
    have h1 : ([62] : List Nat).length = 1 := rfl
    by_cases e : i + 1 < (tl t).length + [62].length + 1
    · exact e
    · exfalso
      have hi2 : i = (tl t).length + 1 := by omega
      subst hi2
      rw [List.getElem?_cons_succ, List.getElem?_append_right (Nat.le_refl _), Nat.sub_self] at hg
      exact ne (Option.some.inj hg).symm
  · rcases List.mem_cons.mp hg with hg | hg
    · rw [hg]
      decide +kernel
    · rcases List.mem_append.mp hg with hg | hg
      · exact (alpha_ok g (h g hg)).1
      · rw [List.mem_singleton.mp hg]
        decide +kernel
theorem good_ne {rows : List Row} (h : ∀ r ∈ rows, GoodWs r.2) : NeRows rows := fun r hr z hz e => by
  have := (h r hr).w z hz
  rw [e] at this
  exact this.1 (by decide +kernel)
section
variable {sy : Str} {ms : NV} {ps : List PartR} {ma : List Row} {nm : Nat × List Tr} {rows : List Row}
/-- where a run begins -/
def startF (ms : NV) (nm : Nat × List Tr) : Sft × Nat := (([(nm.2, 0)], List.replicate ms.length 0), 0)
theorem ProgOk.start_met (PO : ProgOk sy ms ps ma nm rows) {signs : List Nat} (M : Marked signs) : Met ms ps nm signs (startF ms nm) ∧ told (startF ms nm) = (([(prefRows sy ms ps).length + 2], List.replicate ms.length 0), 0) := by
  obtain ⟨h1, h2⟩ := PO.main_in
  obtain ⟨s0, hs0, hl0⟩ := first_ln (e := 0) h2
  have hlt := (List.getElem?_eq_some_iff.mp hs0).1
  refine ⟨⟨⟨h1, trivial, fun g r e => by cases e⟩, fun b j r e => by cases e; exact hlt, ⟨⟨ps.length, Nat.le_refl _, ?_, by show 0 + ps.length ≤ _; omega⟩, trivial⟩, List.length_replicate, fun x hx => by rw [List.eq_of_mem_replicate hx]; exact Nat.zero_le _, ?_⟩, ?_⟩
  · rw [List.take_length]
    refine PO.mbod.fit fun q hq => good_ne PO.good q ?_
    rw [PO.eq]
    exact List.mem_append_right _ (List.mem_cons_of_mem _ hq)
  · have := (List.getElem?_eq_some_iff.mp M.first).1
    exact this
  · unfold told startF
    dsimp only
    rw [ctl_cons hs0, ← hl0, nxt_tree PO.mbod]
    rfl
/-- a run of a valid program on a text of its letters: told by frames and by lines alike -/
theorem ProgOk.run_any (PO : ProgOk sy ms ps ma nm rows) {t : Str} (ht : ∀ c ∈ tl t, c ∈ tl alpha) (hlen : t.length ≤ 18) : ∃ (n : Nat) (res : Res), n ≤ 3000000 ∧ runF (ptsOf ps) (ms.map (·.2)) (tl (ordOf t)) n [] [] (startF ms nm) = some res ∧
    runL (tabOf ps nm) (ms.map (·.2)) (tl (ordOf t)) n [] [] (([(prefRows sy ms ps).length + 2], List.replicate ms.length 0), 0) = some res := by
  have M := marked_of ht
  obtain ⟨G, e⟩ := PO.start_met M
  obtain ⟨res, hres⟩ := PO.ends (good_ne PO.good) M (148176 * (tl (ordOf t)).length + 1) [] [] _ G List.nodup_nil (fun s h => by cases h) (by simp)
  have hl : (tl (ordOf t)).length = t.length + 2 := by
    rw [tl_ord, List.length_cons, List.length_append, ← len_tl]
    rfl
  refine ⟨_, res, by rw [hl]; omega, hres, ?_⟩
  rw [← hres, runF_eq PO.pts PO.dos _ _ _ _ G.ok G.at_, e]
/-- rows of a valid program's table -/
theorem ProgOk.nds (PO : ProgOk sy ms ps ma nm rows) (hw : ∀ q ∈ tabOf ps nm, NdOk q.2) : ∀ n nd, rowAt (tabOf ps nm) n = some nd → NdOk nd := fun n nd h => by
  obtain ⟨q, hq, rfl⟩ := Option.map_eq_some_iff.mp h
  exact hw q (List.mem_of_find?_eq_some hq)
end
end Fv
set_option Elab.async false
set_option linter.all false
set_option maxRecDepth 100000
set_option maxHeartbeats 4000000
namespace Fv
open PySem L2 TL
theorem core_len {sy : Str} {ms : NV} {ws : List Str} {pl : Str} {i v : Nat} (h : Core sy ms ws pl i v) : pl.length ≤ 1000 := by
  cases h with
  | at_ x h1 _ => omega
  | eq c i v most h => decide +kernel
theorem giv_nd {sy : Str} {ms ss : NV} {x : Str} {r : List Str} {gv : Gv} (h : Giv sy ms ss (x :: r) gv) {li lo fo : Nat} : NdOk ⟨x, gv, li, lo, fo⟩ := by
  refine ⟨giv_ok h, fun wt pl i v e => ?_⟩
  have e' : gv = .cond wt pl i v := e
  subst e'
  have key : ∀ {ws : List Str}, CondOk sy ms ws wt pl i v → pl.length ≤ 1000 := fun h => by
    rcases h with ⟨_, h⟩ | ⟨_, r, _, h⟩
    · exact core_len h
    · exact core_len h
  cases h with
  | if_ _ _ _ _ _ h1 => exact key h1
  | while_ _ _ _ _ _ h1 => exact key h1
mutual
theorem Stm.nd {sy : Str} {ms ss : NV} : ∀ {d k : Nat} {seg : List Row} {n : Nat} {t : Tr}, Stm sy ms ss d k seg n t → ∀ f, ∀ q ∈ ndT t f, NdOk q.2
  | _, _, _, _, _, .plain d k x r gv h1 h2 h3 h4, f, q, hq => by
    simp only [ndT, nds, List.append_nil] at hq
    rw [List.mem_singleton.mp hq]
    exact giv_nd h1
  | _, _, _, _, _, .loop d k r gv b n ts h1 h2 h3, f, q, hq => by
    simp only [ndT, nds, List.append_nil] at hq
    rcases List.mem_cons.mp hq with hq | hq
    · rw [hq]
      exact giv_nd h1
    · exact Bod.nd h3 _ q hq
  | _, _, _, _, _, .cond d k r gv b n ts h1 h2 h3, f, q, hq => by
    simp only [ndT, nds, List.append_nil] at hq
    rcases List.mem_cons.mp hq with hq | hq
    · rw [hq]
      exact giv_nd h1
    · exact Bod.nd h3 _ q hq
  | _, _, _, _, _, .both d k r gv b c n m ts us h1 h2 h3 h4, f, q, hq => by
    simp only [ndT] at hq
    rcases List.mem_cons.mp hq with hq | hq
    · rw [hq]
      exact giv_nd h1
    · rcases List.mem_append.mp hq with hq | hq
      · exact Bod.nd h3 _ q hq
      · exact Bod.nd h4 _ q hq
theorem Bod.nd {sy : Str} {ms ss : NV} : ∀ {d k : Nat} {seg : List Row} {n : Nat} {ts : List Tr}, Bod sy ms ss d k seg n ts → ∀ f, ∀ q ∈ nds ts f, NdOk q.2
  | _, _, _, _, _, .one d k s n t h, f, q, hq => by
    simp only [nds, List.append_nil] at hq
    exact Stm.nd h _ q hq
  | _, _, _, _, _, .more d k s t n m u us h1 h2, f, q, hq => by
    simp only [nds] at hq
    rcases List.mem_append.mp hq with hq | hq
    · exact Stm.nd h1 _ q hq
    · exact Bod.nd h2 _ q hq
end
section
variable {sy : Str} {ms : NV} {ps : List PartR} {ma : List Row} {nm : Nat × List Tr} {rows : List Row}
theorem ProgOk.tab_ok (PO : ProgOk sy ms ps ma nm rows) : ∀ n nd, rowAt (tabOf ps nm) n = some nd → NdOk nd := PO.nds fun q hq => by
  rcases List.mem_append.mp hq with hq | hq
  · obtain ⟨l, hl, hql⟩ := List.mem_flatten.mp hq
    obtain ⟨p, hp, rfl⟩ := List.mem_map.mp hl
    obtain ⟨a, b, e⟩ := List.append_of_mem hp
    exact (PO.bod a p b e).nd 0 q hql
  · exact PO.mbod.nd 0 q hq
end
/-! ### a run of a program that stands there -/
section
variable {P : Program} {w : World} {K : PySem.W.Frag} {mg : Str → Option Value} {base : Heap}
/-- run(program, text): what the frames tell -/
def spRunV (CP CS : Addr) : Sp := fun vs H Q _ => ∃ (a : Addr) (t z sy : Str) (ms : NV) (ps : List PartR) (ma : List Row) (nm : Nat × List Tr) (rows : List Row), vs = [.ref a, .str t] ∧ ProgAt CP CS H a z sy ms ps nm ∧ ProgOk sy ms ps ma nm rows ∧ (∀ c ∈ tl t, c ∈ tl sy) ∧ (∀ c ∈ tl t, c ∈ tl alpha) ∧ t.length ≤ 18 ∧
  ∀ (n : Nat) (res : Res) (p : Addr) (H' : Hp), n ≤ 3000000 → runF (ptsOf ps) (ms.map (·.2)) (tl (ordOf t)) n [] [] (startF ms nm) = some res → Same H H' → ResAt H' p res → Q (.ref p) H'
theorem run_valid {f CP CS : Addr} {fd : FuncData} (F : FnOk P w K mg base CX0 5 f fd ["machine", "text"] (spRunX CP CS)) : FnOk P w K mg base CX0 5 f fd ["machine", "text"] (spRunV CP CS) :=
  F.imp fun vs H Q E ⟨a, t, z, sy, ms, ps, ma, nm, rows, e, PA, PO, h1, h2, hl, q⟩ => by
    obtain ⟨n, res, hn, r1, r2⟩ := PO.run_any h2 hl
    exact ⟨a, t, sy, tabOf ps nm, ms, _, n, res, e, PA.sym, h1, PA.run PO, PO.c2, by omega, PO.tab_ok, hn, r2, fun p H' s h => q n res p H' hn r1 s h⟩
end
end Fv
set_option Elab.async false
set_option linter.all false
set_option maxRecDepth 100000
set_option maxHeartbeats 4000000
namespace Fv
open PySem L2 TL KWd
/-! ### words of a line, and what stands in front of them -/
theorem sp32 : Unicode.isSpace 32 = true := by decide +kernel
def noSp (x : Str) : Bool := (tl x).all fun c => !Unicode.isSpace c
/-- words without a blank of any kind -/
structure GoodSp (ws : List Str) : Prop where
  g : GoodWs ws
  sp : ∀ x ∈ ws, noSp x = true
theorem noSp_mem {x : Str} (h : noSp x = true) {c : Nat} (hc : c ∈ tl x) : Unicode.isSpace c = false := by
  have := List.all_eq_true.mp h c hc
  simpa using this
theorem fold_blanks (acc : List Str) : ∀ n : Nat, (List.replicate n 32).foldl KWd.step (acc, Str.empty) = (acc, Str.empty)
  | 0 => rfl
  | n + 1 => by
    show (List.replicate n 32).foldl KWd.step (KWd.step (acc, Str.empty) 32) = _
    have e : KWd.step (acc, Str.empty) 32 = (acc, Str.empty) := by
      unfold KWd.step
      rw [if_pos sp32]
      rfl
    rw [e]
    exact fold_blanks acc n
theorem fold_word (acc : List Str) : ∀ (l : List Nat) (u : Str), (∀ c ∈ l, Unicode.isSpace c = false) → l.foldl KWd.step (acc, u) = (acc, u ++ (⟨l.toArray⟩ : Str))
  | [], u, _ => by
    have e : u ++ (⟨([] : List Nat).toArray⟩ : Str) = u := ext_tl (by rw [tl_append]; show tl u ++ [] = tl u; rw [List.append_nil])
    rw [e]
    rfl
  | c :: l, u, h => by
    show l.foldl KWd.step (KWd.step (acc, u) c) = _
    have e : KWd.step (acc, u) c = (acc, u ++ ⟨#[c]⟩) := by
      unfold KWd.step
      rw [if_neg (by rw [h c List.mem_cons_self]; exact Bool.false_ne_true)]
    rw [e, fold_word acc l _ fun y hy => h y (List.mem_cons_of_mem _ hy)]
    congr 1
    exact ext_tl (by rw [tl_append, tl_append, tl_append]; show (tl u ++ [c]) ++ l = tl u ++ (c :: l); rw [List.append_assoc]; rfl)
theorem word_self (x : Str) : (Str.empty ++ (⟨(tl x).toArray⟩ : Str)) = x := ext_tl (by rw [tl_append]; rfl)
theorem fold_words : ∀ (ws : List Str) (acc : List Str), (∀ x ∈ ws, tl x ≠ [] ∧ noSp x = true) → ws ≠ [] → ∃ rn : Str, (joinL [32] (ws.map tl)).foldl KWd.step (acc, Str.empty) = (acc ++ ws.dropLast, rn) ∧ ws.getLast? = some rn
  | [], _, _, h => absurd rfl h
  | [x], acc, h, _ => by
    refine ⟨x, ?_, rfl⟩
    show (tl x).foldl KWd.step (acc, Str.empty) = (acc ++ [], x)
    rw [fold_word acc _ _ fun c hc => noSp_mem (h x List.mem_cons_self).2 hc, word_self, List.append_nil]
  | x :: y :: r, acc, h, _ => by
    obtain ⟨rn, h1, h2⟩ := fold_words (y :: r) (acc ++ [x]) (fun z hz => h z (List.mem_cons_of_mem _ hz)) (by simp)
    refine ⟨rn, ?_, by rw [List.getLast?_cons_cons]; exact h2⟩
    show ((tl x ++ ([32] ++ joinL [32] ((y :: r).map tl)))).foldl KWd.step (acc, Str.empty) = _
    rw [List.foldl_append, fold_word acc _ _ fun c hc => noSp_mem (h x List.mem_cons_self).2 hc, word_self, List.foldl_append]
    have e : [32].foldl KWd.step (acc, x) = (acc ++ [x], Str.empty) := by
      show KWd.step (acc, x) 32 = _
      unfold KWd.step
      rw [if_pos sp32, if_neg]
      show ¬ x.length = 0
      rw [len_tl]
      intro z
      exact (h x List.mem_cons_self).1 (List.eq_nil_of_length_eq_zero z)
    rw [e, h1, List.dropLast_cons₂, List.append_assoc]
    rfl
theorem words_line {d : Nat} {ws : List Str} (g : GoodSp ws) : Txt.words (lineOf (d, ws)) = ws := by
  obtain ⟨rn, h1, h2⟩ := fold_words ws [] (fun x hx => ⟨(g.g.w x hx).1, g.sp x hx⟩) g.g.ne
  have e : scan (lineOf (d, ws)) = (ws.dropLast, rn) := by
    show (tl (lineOf (d, ws))).foldl KWd.step ([], Str.empty) = _
    rw [tl_line, List.foldl_append, fold_blanks, h1, List.nil_append]
  have hne : rn.length ≠ 0 := by
    have hm := List.mem_of_getLast? h2
    rw [len_tl]
    intro z
    exact (g.g.w rn hm).1 (List.eq_nil_of_length_eq_zero z)
  rw [words_of e, if_neg hne]
  have h3 := List.dropLast_concat_getLast g.g.ne
  rw [List.getLast?_eq_some_getLast g.g.ne] at h2
  rw [Option.some.inj h2] at h3
  exact h3
theorem lstrip_line {d : Nat} {ws : List Str} (g : GoodSp ws) : (Txt.lstrip (lineOf (d, ws))).length + 2 * d = (lineOf (d, ws)).length := by
  have e : (tl (lineOf (d, ws))).takeWhile Unicode.isSpace = List.replicate (2 * d) 32 := by
    rw [tl_line]
    obtain ⟨c, r, ej, hc⟩ := joinL_head g.g
    have hcs : Unicode.isSpace c = false := by
      cases ws with
      | nil => exact absurd rfl g.g.ne
      | cons x t =>
        have hx := g.sp x List.mem_cons_self
        have hx1 := (g.g.w x List.mem_cons_self).1
        cases ex : tl x with
        | nil => exact absurd ex hx1
        | cons c' r' =>
          have e2 : c' = c := by
            cases t with
            | nil =>
              have e3 : tl x = c :: r := ej
              rw [ex] at e3
              injection e3
            | cons y u =>
              have e3 : tl x ++ ([32] ++ joinL [32] ((y :: u).map tl)) = c :: r := ej
              rw [ex] at e3
              injection e3
          rw [← e2]
          exact noSp_mem hx (by rw [ex]; exact List.mem_cons_self)
    show (List.replicate (2 * d) 32 ++ joinL [32] (ws.map tl)).takeWhile _ = _
    rw [ej, List.takeWhile_append_of_pos (fun y hy => by rw [(List.mem_replicate.mp hy).2]; exact sp32), List.takeWhile_cons_of_neg (by rw [hcs]; exact Bool.false_ne_true), List.append_nil]
  have el : stripLo Unicode.isSpace true (lineOf (d, ws)) = 2 * d := by
    show ((tl (lineOf (d, ws))).takeWhile Unicode.isSpace).length = _
    rw [e, List.length_replicate]
  unfold Txt.lstrip
  rw [PyProof.Rows.stripBy_eq, el]
  show (Builtin.Str.strSub _ (2 * d) (lineOf (d, ws)).length).length + 2 * d = _
  rw [sub_len' _ (Nat.le_refl _)]
  have : 2 * d ≤ (lineOf (d, ws)).length := by
    rw [len_tl, tl_line, List.length_append, List.length_replicate]
    omega
  omega
end Fv
set_option Elab.async false
set_option linter.all false
set_option maxRecDepth 100000
set_option maxHeartbeats 2000000
namespace Fv
open PySem PySem.Spec PyProof.Rows L2
/-! ### promises that hold where no repr is under way -/
structure FnOkG (P : Program) (w : World) (K : PySem.W.Frag) (mg : Str → Option Value)
    (base : Heap) (k : Nat) (f : Addr) (fd : FuncData) (ps : List Str) (sp : Sp) : Prop where
  size : ∀ vs H Q E, sp vs H Q E → vs.length = ps.length
  runs : ∀ (A : Around) (outer : List Env) (s : Shared) (H : Hp) (args : Args) (us : List Value) (vs : List V)
    (Q : VK) (E : XK), A.guards = some [] → Room k A → Env0 P w K mg base A outer s H →
    BindsTo s fd args (ps.zip us) → Vals vs us → sp vs H Q E →
    codeAny (model P w) A (.call (.ref f) args) (CR CX0 outer P w H s Q E) s
theorem Fun.okG {P : Program} {w : World} {K : PySem.W.Frag} {mg : Str → Option Value} {base : Heap}
    {x qual : Str} {st : Stmt} {f : Addr} {fd : FuncData} {N ps : List Str} {k : Nat} {sp : Sp}
    (F : Fun K x qual st f fd) (S : FnScope N ps (defScope st)) (size : ∀ vs H Q E, sp vs H Q E → vs.length = ps.length)
    (body : ∀ (cdv : Value) (A : Around) (outer : List Env) (s : Shared) (H : Hp) (vs : List V) (Q : VK) (E : XK),
      A.guards = some [] → Room k (A.deeper (envOfC qual (defScope st) s.heap.objs.size f cdv)) → sp vs H Q E →
      ∃ t, PSs (cxOf CX0 P w K mg base N qual (defScope st) f cdv A outer s H E).nox (defBody st) t ∧
        t { nx := fun _ H' => Q .non H', rt := Q } (start N vs) H) :
    FnOkG P w K mg base (k + 1) f fd ps sp := by
  obtain ⟨oc, od, kV, doc, pm, an, cdv, ct, osl, rfl, inK, hcd⟩ := F.ex
  refine ⟨size, fun A outer s H args us vs Q E hgu hr e0 hb rv hsp => ?_⟩
  have lenV := size _ _ _ _ hsp
  have KX : K.In s.heap := e0.mod.kin.keeps fun b o e =>
    (e0.bs b o e).1
  have lims : s.heap.NoLimit := e0.mod.nolimit.keeps fun b o e =>
    (e0.bs b o e).1
  refine codeAny_call_function hr.depth (KX _ _ inK) rfl S.co S.gen rfl
    (PySem.W.codeRec_of KX hcd) (hb _ _ _ _ ?_)
  refine wpAny_newFunctionEnv_cells S.kind (fun y hy => ?_) fun env he s1 call => ?_
  · rcases S.par y.1 (List.of_mem_zip (show (y.1, y.2) ∈ ps.zip us from hy)).1 with q | q
    · exact .inl q
    · exact .inr ⟨q, PySem.W.cellsFrom_some _ _ _ (.inl q)⟩
  · subst he
    refine ⟨lims.keeps call.toInCall.keep, codeAny_func ?_⟩
    obtain ⟨t, ht, hq⟩ := body cdv A outer s H vs Q E hgu (hr.deeper _) hsp
    refine wpAny_mono (ht.nox.run [] s1 (start N vs) H _ (inv_start S hr.hd e0 lenV rv call) hq) (fun fl s' ends => ?_)
      fun e s' ends => ends
    match fl, ends with
    | .ret u, ⟨v, σ', H', J, rel, q⟩ => exact ⟨v, H', J.os, J.bare, J.base, J.hok, rel, q⟩
    | .next, ⟨σ', H', J, q⟩ => exact ⟨.non, H', J.os, J.bare, J.base, J.hok, rfl, q⟩
    | .brk, ⟨_, _, _, q⟩ => exact q.elim
    | .cont, ⟨_, _, _, q⟩ => exact q.elim
section
variable {X : Cx}
/-- f(e, ..) of such a def -/
theorem pe_callG {f : Addr} {fd : FuncData} {ps : List Str} {sp : Sp} {k : Nat} {x : Str} {p pos : Pos} {e : Expr} {es : List Expr} {t : TA}
    (F : FnOkG X.prog X.w X.K X.mg X.base k f fd ps sp) (hgu : X.A.guards = some []) (hr : Room k X.A) (hg : Gl X x)
    (hm : X.mg x = some (.ref f)) (hk : PySem.W.keepIn X.K (.ref f) = true) (hb : Binds X.K fd ps [])
    (ha : PA X (e :: es) t) (hdb : (x == ("__debug__" : Str)) = false := by decide)
    (he : starEach (e :: es) X.env = (false, eval e X.env) :: starEach es X.env := by rfl)
    (hpl : (backTo pos (starEach es X.env)).any (·.1) = false := by rfl) :
    PE X (.Call (.Name x p) (e :: es) [] pos) (tCall sp [] (fun _ _ _ => False) t) := by
  refine ⟨fun pins s σ H Q I h => wpAny_Call_Name_kw (ld_glob I hg hm ?_ hdb)⟩
  refine PySem.W.callWith_K (h₀ := X.base) I.ok.mod.kin hk
    (thn (ha.run pos pins s σ H _ I h) fun us s1 ⟨vs, H1, I1, rv, q⟩ => ⟨I1.kIn, ?_⟩) he hpl
  have q' : sp (vs ++ []) H1 Q (fun _ _ _ => False) := q
  rw [List.append_nil] at q'
  have lenU : us.length = ps.length := by
    rw [← rv.length]
    exact F.size _ _ _ _ q'
  have bind := hb s1 us I1.kIn (by simpa using lenU)
  rw [List.append_nil] at bind
  refine wpAny_call (codeAny_mono (F.runs X.A X.stack s1 H1 ⟨us, []⟩ us vs Q _ hgu hr I1.env0 bind rv q') fun r s' ends => ?_)
  match r, ends with
  | .error e, ends => exact ends.elim
  | .ok (.ret u), ends => exact I1.after ends
  | .ok .next, ends => exact ends.elim
  | .ok .brk, ends => exact ends.elim
  | .ok .cont, ends => exact ends.elim
end
/-! ### a call with keywords alone -/
section
variable {X : Cx} {CX : CXT} {k : Nat} {f : Addr} {fd : FuncData} {ps ks : List Str} {sp : Sp} {E : XK} {x : Str} {p pos : PySem.Pos} {kws : List Keyword} {tk : TA} {g : List Value → List Value → List Value} {gV : List V → List V → List V}
theorem pe_callK0 (F : FnOk X.prog X.w X.K X.mg X.base CX k f fd ps sp) (hr : Room k X.A) (hg : Gl X x) (hm : X.mg x = some (.ref f)) (hk : PySem.W.keepIn X.K (.ref f) = true) (hb : KBinds X.K fd ps ks g gV) (hx : Passes CX X E)
    (hkw : PK X kws tk) (hall : (backToKw pos (keywordEach kws X.env)).all (·.1.isSome) = true := by rfl) (hks : (backToKw pos (keywordEach kws X.env)).filterMap (·.1) = ks := by rfl)
    (hdb : (x == ("__debug__" : Str)) = false := by decide)
    (hpl : ((backTo pos (starEach [] X.env)).any (·.1) || (backToKw pos (keywordEach kws X.env)).any (·.1.isNone)) = false := by rfl) :
    PE X (.Call (.Name x p) [] kws pos) (tCallK sp gV E tNil tk) := by
  refine ⟨fun pins s σ H Q I h => ?_⟩
  refine wpAny_Call_Name_kw (ld_glob I hg hm ?_ hdb)
  refine PySem.W.callWith_KW0 (h₀ := X.base) I.ok.mod.kin hk hall ?_ hpl
  refine thn (hkw.run pos pins s σ H _ I h) fun ws s2 ⟨zs, H2, I2, rz, q2⟩ => ⟨I2.kIn, ?_⟩
  rw [hks]
  exact run_fnk (us := []) (vs := []) F hr hb hx I2 .nil rz q2
end
end Fv
set_option Elab.async false
set_option linter.all false
set_option maxRecDepth 100000
set_option maxHeartbeats 4000000
namespace Fv
open PySem PySem.Spec PyProof.Rows L2
/-! ### the head of a law whose promise holds where no repr is under way -/
/-- how the law's call has to end -/
def LawEnds (s : Shared) : Result → Shared → Prop := fun r s' =>
  r = .ok (.ret (.bool true)) ∧ OldK s.heap s'.heap ∧ s'.os = s.os ∧ AllBare s'.gens
section
variable {P : Program} {w : World} {K : PySem.W.Frag} {mg mb : Str → Option Value} {k : Nat} {fa a : Addr}
  {fd : FuncData} {x : Str} {sp : Sp} {s : Shared} {vs : List Value} {ns : List Int}
/-- from a heap in which at most the script is tracked -/
theorem call_from (H : Hp) (KX : K.In s.heap) (hns : s.heap.Ns mainGlobals mg) (hb : s.heap.Ns builtinsNs mb)
    (hbb : ∀ x : Str, x ≠ "__name__" → mb x = bootBuiltins x) (hlim : s.heap.NoLimit) (hg : s.gens = #[])
    (ha : s.heap.get? a = some { cls := .type "list", data := .seq vs.toArray }) (hr : Room k callerA)
    (F : ∀ base : Heap, K.In base → base.Ns mainGlobals mg → FnOkG P w K mg base k fa fd [x] sp)
    (hbind : ∀ (s : Shared) (u : Value), BindsTo s fd ⟨[u], []⟩ [(x, u)]) (only : Only H) (hok : HOk P w H s.heap)
    (one : ∀ b, H b ≠ none → b = a) (notK : H a ≠ none → K.lookup a = none)
    (hsp : sp [.ref a] H (fun v _ => v = .bl true) fun _ _ _ => False) :
    codeAny (model P w) callerA (.call (.ref fa) ⟨[.ref a], []⟩) (LawEnds s) s := by
  have stays : ∀ {b : Addr} {o : Obj}, s.heap.get? b = some o → (b = a → False) → (hidT s.heap H).get? b = some o :=
    fun {b o} e n => hidT_get e (Classical.byContradiction fun z => n (one b z))
  have dicts : ∀ {b : Addr} {m : Str → Option Value}, s.heap.Ns b m → (hidT s.heap H).Ns b m := fun {b m} n => by
    obtain ⟨o, es, ep, e, d, r⟩ := n
    refine ⟨o, es, ep, stays e fun z => ?_, d, r⟩
    rw [z, ha] at e
    cases e
    cases (show Data.seq vs.toArray _ = Data.dict es ep from d)
  have inK : K.In (hidT s.heap H) := fun b o e => hidT_get (KX b o e) (Classical.byContradiction fun z => by
    have eb := one b z
    subst eb
    rw [notK z] at e
    cases e)
  have hM : Mod K mg (hidT s.heap H) := by
    obtain ⟨mc, h1, h2⟩ := hlim
    exact ⟨inK, dicts hns, ⟨mb, dicts hb, hbb⟩, ⟨mc, dicts h1, h2⟩⟩
  have e0 : Env0 P w K mg (hidT s.heap H) callerA [] s H := by
    refine ⟨rfl, hM, fun b o e => of_hidT e, ?_, trivial, fun b hb => ?_, hok, .of_eq hg⟩
    · exact Nat.le_of_eq (hidT_size _ _)
    · cases (show b ∈ ([] : List Addr) from hb)
  have run := (F _ inK (dicts hns)).runs callerA [] s H ⟨[.ref a], []⟩ [.ref a] [.ref a] _ _ rfl hr e0
    (hbind s (.ref a)) (.cons rfl .nil) hsp
  refine codeAny_mono run fun r s' ends => ?_
  match r, ends with
  | .error e, ends => exact ends.elim
  | .ok .next, ends => exact ends.elim
  | .ok .brk, ends => exact ends.elim
  | .ok .cont, ends => exact ends.elim
  | .ok (.ret u), ⟨v, H', os, bare, un, hok', rel, ev⟩ =>
    have ev : v = .bl true := ev
    subst ev
    have eu : u = Value.bool true := rel
    subst eu
    refine ⟨rfl, OldK.of_keep fun b o e => ?_, os, bare⟩
    rcases only b with z | ⟨ob, xs, z⟩
    · refine un.keep b o e z (fun h => ?_) (by simp)
      cases (show b ∈ ([] : List Addr) from h)
    · have was := (hok b _ z).1
      have is := (hok' b _ (un.frzs b ob _ z)).1
      rw [e] at was
      cases was
      exact is
theorem law_callG (KX : K.In s.heap) (hns : s.heap.Ns mainGlobals mg) (hb : s.heap.Ns builtinsNs mb)
    (hbb : ∀ x : Str, x ≠ "__name__" → mb x = bootBuiltins x) (hlim : s.heap.NoLimit) (hg : s.gens = #[])
    (ha : s.heap.get? a = some { cls := .type "list", data := .seq vs.toArray }) (hi : IntsAre vs ns) (hl : ns.length ≤ sizeLine) (hr : Room k callerA)
    (F : ∀ base : Heap, K.In base → base.Ns mainGlobals mg → FnOkG P w K mg base k fa fd [x] sp)
    (hbind : ∀ (s : Shared) (u : Value), BindsTo s fd ⟨[u], []⟩ [(x, u)])
    (hsp : ∀ H : Hp, Only H → SqL K H a (ns.map V.int) → sp [.ref a] H (fun v _ => v = .bl true) fun _ _ _ => False) :
    codeAny (model P w) callerA (.call (.ref fa) ⟨[.ref a], []⟩) (LawEnds s) s := by
  have rv := vals_ints hi
  have lenV := hi.length
  by_cases hk : K.lookup a = none
  · have atA : ∀ b, (if b = a then some (HO.frz { cls := .type "list", data := .seq vs.toArray } (.lst (ns.map V.int))) else none) ≠ none → b = a :=
      fun b z => Classical.byContradiction fun n => z (if_neg n)
    refine call_from (fun b => if b = a then some (.frz { cls := .type "list", data := .seq vs.toArray } (.lst (ns.map V.int))) else none)
      KX hns hb hbb hlim hg ha hr F hbind (fun b => ?_) (fun b u z => ?_) atA (fun _ => hk) (hsp _ (fun b => ?_) (.inl (.inr ⟨_, if_pos rfl⟩)))
    · by_cases e : b = a
      · exact .inr ⟨_, _, if_pos e⟩
      · exact .inl (if_neg e)
    · have e : b = a := atA b fun y => by (have z := z.symm.trans y; cases z)
      subst e
      have z := (if_pos rfl).symm.trans z
      cases z
      exact ⟨ha, by rw [List.length_map]; exact hl, vs, _, rv, ha⟩
    · by_cases e : b = a
      · exact .inr ⟨_, _, if_pos e⟩
      · exact .inl (if_neg e)
  · obtain ⟨o, ho⟩ := Option.ne_none_iff_exists'.mp hk
    have same := KX a o ho
    rw [ha] at same
    cases same
    have none_ : ∀ b : Addr, (fun _ => none : Hp) b = none := fun _ => rfl
    refine call_from (fun _ => none) KX hns hb hbb hlim hg ha hr F hbind (fun b => .inl rfl) (fun b u z => by cases z) (fun b z => absurd rfl z) (fun z => absurd rfl z)
      (hsp _ (fun b => .inl rfl) (.inr ⟨_, vs.toArray, _, ho, rfl, rfl, rfl, ?_, by simpa using rv⟩))
    rw [List.size_toArray, lenV]
    exact hl
end
/-- the goal that the head leaves, from the law's promise -/
theorem walk_G {l : PySem.W.OpenLaw} {n k : Nat} {q : Program} {loose : List Str} {XP : (Str → Option Value) → Heap → Prop}
    {YP : World → Heap → Prop} {d : DefRec} {K : Params → PySem.W.Frag} {sp : PySem.W.Frag → Sp} {x : Str}
    (hn : l.most = some n) (hn2 : n ≤ sizeLine) (hdf : d.params.defaults = []) (hr : Room k callerA) (hY : ∀ (w : World) (h : Heap), YP w h → (K w.params).In h)
    (F : ∀ (w : World) (mg : Str → Option Value) (fa : Addr) (h : Heap), (K w.params).In h → h.Ns mainGlobals mg → mg d.name = some (.ref fa) → ∃ fd : FuncData,
      (∀ (s : Shared) (u : Value), BindsTo s fd ⟨[u], []⟩ [(x, u)]) ∧ ∀ base : Heap, (K w.params).In base → base.Ns mainGlobals mg → FnOkG l.prog w (K w.params) mg base k fa fd [x] (sp (K w.params)))
    (hsp : ∀ (K : PySem.W.Frag) (H : Hp) (a : Addr) (ns : List Int), ns.length ≤ n → Only H → SqL K H a (ns.map V.int) → sp K [.ref a] H (fun v _ => v = .bl true) fun _ _ _ => False) :
    PySem.W.WalkO q loose XP YP l.row.toRowW d [] (fun f vs => PySem.call f vs) := by
  refine Att.attach_call hn hdf fun w s₀ s₁ mg mb fa o pm cd doc a vs ns G Y ho hd hcd hmg hobj hints hlen hg => ?_
  have KX := hY w _ Y
  obtain ⟨fd, hbind, hF⟩ := F w mg fa _ KX G.T.g hmg
  exact law_callG KX G.T.g G.T.b G.T.builtins G.T.nolimit hg hobj hints (Nat.le_trans hlen hn2) hr hF hbind fun H only sq => hsp _ H a ns hlen only sq
end Fv
set_option Elab.async false
set_option linter.all false
set_option maxRecDepth 100000
set_option maxHeartbeats 2000000
namespace Fv
open PySem PySem.Spec PyProof.Rows L2
/-! ### a caught exception that is kept as a value -/
def ExD (cls : Value) (d : Option Addr) (a : Addr) : HO := .ext fun h => ∃ (oe : Obj) (vs : Array Value), h.get? a = some oe ∧ Zc cls d oe ∧ oe.data = .fields vs
theorem exD_ok {P : Program} {w : World} {H : Hp} {h : Heap} {a : Addr} {cls : Value} {d : Option Addr} {oe : Obj} {vs : Array Value} (e : h.get? a = some oe) (z : Zc cls d oe) (q : oe.data = .fields vs) : ObjOk P w H h a (ExD cls d a) :=
  ⟨⟨oe, vs, e, z, q⟩, ⟨oe, e⟩, fun _ _ ⟨o, v, e1, z1⟩ k => ⟨o, v, k o e1, z1⟩⟩
section
variable {X : Cx} {pins : List (Addr × Obj)} {σ : L2.St} {H : Hp} {s : Shared}
/-- what stands at a already, new since the def was entered, is tracked from now on -/
theorem hold {a : Addr} {o : HO} (I : Inv X pins σ H s) (n0 : X.s_0.heap.get? a = none) (na : H a = none) (nL : a ≠ X.env.locals) (nC : ∀ x c, X.env.cells.lookup x = some c → c ≠ a) (nP : ∀ p ∈ X.pn ++ pins, p.1 ≠ a)
    (new : ObjOk X.prog X.w (upd H a o) s.heap a o) : Inv X pins σ (upd H a o) s := by
  have neB : ∀ {b : Addr} {u : Obj}, X.s_0.heap.get? b = some u → b ≠ a := fun {b u} e z => by
    rw [z, n0] at e
    cases e
  refine ⟨I.ok, I.os, I.bare, ⟨I.base.keep, I.base.slot, fun b u e n q => ?_, I.base.there, fun b xs e => ?_, fun b u xs e => ?_, fun b ps e => ?_⟩, I.loc, I.cell, ?_, fun x c e => ?_, fun p hp => ?_, I.hok.laidN (fun _ _ e => e) na new, I.len⟩
  · rw [upd_ne (neB e)]
    exact I.base.free b u e n q
  · have z := I.base.tups b xs e
    rw [upd_ne (ne_of_none z na)]
    exact z
  · have z := I.base.frzs b u xs e
    rw [upd_ne (ne_of_none z na)]
    exact z
  · obtain ⟨m, z⟩ := I.base.tbls b ps e
    exact ⟨m, by rw [upd_ne (ne_of_none z na)]; exact z⟩
  · rw [upd_ne (Ne.symm nL)]
    exact I.free
  · rw [upd_ne (nC x c e)]
    exact I.freeC x c e
  · obtain ⟨e, n, r⟩ := I.pin p hp
    exact ⟨e, by rw [upd_ne (nP p hp)]; exact n, r⟩
end
/-- what «except x as n: suite» wishes of what its body raises, the exception being kept behind it -/
def wKept (K : PySem.W.Frag) (c : Value) (i : Nat) (ts : Addr → Value → Option Addr → TS) (Wout : WX) (D : Ends) : WX := fun cls d σ H =>
  ∃ b, PySem.W.exmOne K cls c = some b ∧
    (b = true → ∀ a, H a = none → ts a cls d { nx := fun σ' H' => H' a = none → D.nx (σ'.set i none) (upd H' a (ExD cls d a)), rt := fun v H' => H' a = none → D.rt v (upd H' a (ExD cls d a)), bk := fun _ _ => False, ct := fun _ _ => False } (σ.set i (some (.ref a))) H) ∧
    (b = false → Wout cls d σ H)
section
variable {X : Cx} {x n : Str} {c : Value} {i : Nat} {body suite : List Stmt} {b1 : Stmt} {np p1 p2 : Pos} {tb : WX → TS} {ts : Addr → Value → Option Addr → TS} {Wout : WX}
theorem ps_try_kept (hs : X.stack = X.env :: X.outer) (hf : X.env.frame = some X.env.locals) (hx : X.ex = []) (hN : X.N.Nodup) (hi : X.N[i]? = some n) (hl : X.env.kindOf n = some .local) (hc : Names X x c) (tk : Takes X Wout)
    (hb : ∀ (W : WX) (pn : List (Addr × Obj)) (xe : Value → Shared → Prop), Takes (X.tr pn xe) W → PassesOwn (model X.prog X.w) X.A X.env xe → PSs (X.tr pn xe) body (tb W))
    (hsu : ∀ (a : Addr) (oe : Obj) (cls : Value) (d : Option Addr) (pn : List (Addr × Obj)), Zc cls d oe → (∃ vs, oe.data = .fields vs) → PSs (X.suite a ((a, oe) :: pn)) (b1 :: suite) (ts a cls d)) :
    PS X (.Try body [.ExceptHandler (some (.Name x np)) (some n) (b1 :: suite) p1] [] [] p2) (fun D σ H => tb (wKept X.K c i ts Wout D) D σ H) := by
  refine ⟨fun pins s σ H D I h => wpAny_Try_except ?_⟩
  have frX : X.A.frames = some (X.env :: X.outer) := I.ok.frames.trans (congrArg some hs)
  refine wpAny_mono ((hb (wKept X.K c i ts Wout D) (X.pn ++ pins) _ (fun u s' air => ?air) PassesOwn.looking).run [] s σ H D (I.toTry _) h) (fun f s1 q => ?fin) fun e s1 q => q
  case fin =>
    cases f with
    | next =>
      obtain ⟨σ1, H1, J, q⟩ := q
      exact wpAny_execs_nil ⟨σ1, H1, J.ofTry I.ok, q⟩
    | brk =>
      obtain ⟨σ1, H1, J, q⟩ := q
      exact ⟨σ1, H1, J.ofTry I.ok, q⟩
    | cont =>
      obtain ⟨σ1, H1, J, q⟩ := q
      exact ⟨σ1, H1, J.ofTry I.ok, q⟩
    | ret u =>
      obtain ⟨v, σ1, H1, J, r, q⟩ := q
      exact ⟨v, σ1, H1, J.ofTry I.ok, r, q⟩
  case air =>
    obtain ⟨a, B, sI, pins1, σ1, H1, cls, d, rfl, JT, nb, up, sky, na, os, ag, b, hb1, yes, no⟩ := air
    have J : Inv X pins σ1 H1 sI := JT.ofTry I.ok
    refine Sky.land Zc.steady frX hf (show Sky B (X.env :: X.outer) a (Zc cls d) X.env.locals s'.heap from hs ▸ sky) fun h3 fl3 up3 => ?_
    have J3 : Inv X pins σ1 H1 { s' with heap := h3 } := J.landed nb fl3.1 (up.trans up3) os ag
    obtain ⟨oe3, vs3, he3, hz3, hd3⟩ := fl3.there
    have nst : a ∉ frs (X.env :: X.outer) := fun hm => by
      obtain ⟨_, o1, e1, hnf⟩ := fl3.2.2.1.mem hm
      rw [he3] at e1
      cases e1
      exact hnf _ hd3
    have nL : a ≠ X.env.locals := fun z => nst (List.mem_filterMap.mpr ⟨X.env, List.mem_cons_self, hf.trans (congrArg some z.symm)⟩)
    have nF : a ∉ X.fs := fun hm => by
      obtain ⟨e, he, q⟩ := List.mem_filterMap.mp hm
      exact nst (List.mem_filterMap.mpr ⟨e, List.mem_cons_of_mem _ he, q⟩)
    have gone : ∀ o, sI.heap.get? a ≠ some o := fun o e => by
      have z := nb a o e (by rw [hs]; exact nst)
      rw [fl3.2.1] at z
      cases z
    have n0 : X.s_0.heap.get? a = none := by
      cases e : X.s_0.heap.get? a with
      | none => rfl
      | some o =>
        obtain ⟨o1, z⟩ := J.base.there a o e (by rw [hx]; exact fun z => nomatch z)
        exact absurd z (gone o1)
    have nC : ∀ y c1, X.env.cells.lookup y = some c1 → c1 ≠ a := fun y c1 e z => by
      obtain ⟨v, o, ho, _⟩ := J.cell y c1 e
      rw [z] at ho
      exact gone o ho
    have nP : ∀ p ∈ X.pn ++ pins, p.1 ≠ a := fun p hp z => by
      have e := (J.pin p hp).1
      rw [z] at e
      exact gone _ e
    have S3 := J3.suite he3 hd3 na nL nF
    refine wpAny_handleBy_cons (codeAny_handlers_test ?_) nofun
    have LT : PySem.W.Looks (model X.prog X.w) h3 (typeOf (.ref a)) cls := fun A Q E s1 k q => wpAny_typeOf_ref (k a _ he3) (hz3.1.symm ▸ q)
    have LM := PySem.W.exm_one (M := model X.prog X.w) J3.kIn LT hb1
    have ask : ∀ {Q : Value → Shared → Prop} {E : Value → Shared → Prop}, Q c { s' with heap := h3 } → wpAny (model X.prog X.w) (X.A.mark (some (.ref a))) (eval (.Name x np) X.env) Q E { s' with heap := h3 } := fun {Q E} q => by
      obtain ⟨g1, g2, g3 | ⟨g3, g4, g5⟩⟩ := hc
      · exact ld_glob (X := X.suite a ((a, oe3) :: (X.pn ++ pins))) S3 g1 g3 q g2
      · exact ld_blt (X := X.suite a ((a, oe3) :: (X.pn ++ pins))) S3 g1 g3 g4 q g5 g2
    refine ask (LM.here ?_)
    cases b with
    | true =>
      refine codeAny_handlers_suite_as (HandSPX.lands_againZ fl3 fun h4 fl4 up4 => ?_)
      have J4 : Inv X pins σ1 H1 { s' with heap := h4 } := J.landed nb fl4.1 ((up.trans up3).trans up4) os ag
      obtain ⟨oe4, vs4, he4, hz4, hd4⟩ := fl4.there
      refine store_ok (X := X.suite a ((a, oe4) :: (X.pn ++ pins))) (v := .ref a) (J4.suite he4 hd4 na nL nF) hN hi (.inl hl) rfl (fun s5 S5 => ?_) (.inr hl)
      refine wpAny_mono ((hsu a oe4 cls d (X.pn ++ pins) hz4 ⟨vs4, hd4⟩).run [] s5 _ H1 _ S5 (yes rfl a na)) (fun f s6 q => ?_) fun _ _ z => False.elim z
      cases f with
      | next =>
        obtain ⟨σ6, H6, S6, q6⟩ := q
        obtain ⟨e6, n6, _⟩ := S6.pin (a, oe4) (List.mem_append_left _ List.mem_cons_self)
        have U6 := S6.unsuite I.ok
        exact gone_ok (hold U6 n0 n6 nL nC nP (exD_ok e6 hz4 hd4)) hN hi hl fun s7 J7 => ⟨_, _, J7, q6 n6⟩
      | brk =>
        obtain ⟨_, _, _, z⟩ := q
        exact False.elim z
      | cont =>
        obtain ⟨_, _, _, z⟩ := q
        exact False.elim z
      | ret u =>
        obtain ⟨v6, σ6, H6, S6, r6, q6⟩ := q
        obtain ⟨e6, n6, _⟩ := S6.pin (a, oe4) (List.mem_append_left _ List.mem_cons_self)
        have U6 := S6.unsuite I.ok
        exact gone_ok (hold U6 n0 n6 nL nC nP (exD_ok e6 hz4 hd4)) hN hi hl fun s7 J7 => ⟨v6, _, _, J7, r6, q6 n6⟩
    | false =>
      refine wpAny_handleBy_nil ?_
      obtain ⟨_, _, _, oe, vs, T, oT, ts1, he, hz, hd, h1, hr⟩ := id fl3
      unfold PySem.passOn
      refine wpAny_bind (wpAny_field he hd h1 ?_)
      rw [if_neg (by simp)]
      have fly : wpAny (model X.prog X.w) X.A (setFlight (.ref a) X.env.frame) (fun _ s4 => wpAny (model X.prog X.w) X.A (throw (.ref a) : Sem Flow) (SP X pins D) X.xe s4) X.xe { s' with heap := h3 } := by
        rw [hf]
        refine HandSPX.setFlight_upZ fl3 fun h4 hh up4 => wpAny_throw (tk _ _ ⟨a, B, sI, pins, σ1, H1, cls, d, rfl, J, nb, (up.trans up3).trans up4, .inr (.inr (by rw [hs]; exact hh)), na, os, ag, no rfl⟩)
      first
        | exact wpAny_bind (wpAny_pure (wpAny_bind fly))
        | exact wpAny_bind fly
end
end Fv
set_option Elab.async false
set_option linter.all false
set_option maxRecDepth 100000
set_option maxHeartbeats 4000000
namespace PySem.W
open PySem PySem.Spec PySem.Calls PyProof.Rows
/-- what a class of exceptions says of itself -/
structure FrC (K : Frag) (D : Addr) : Prop where
  hg : findIn K (.ref D) "__getattribute__" = some (some (.builtin "BaseException.__getattribute__"))
  hk : findIn K (.ref D) "__getattr__" = some none
  hs : subIn K (.ref D) (.type "BaseException") = some true
  hd : hasDictIn K D = true
  ha : findIn K (.ref D) "__class__" = some (some (.builtin "object.__class__"))
  hn : specialIn K (.builtin "object.__class__") "__get__" = some (some (.builtin "getset_descriptor.__get__"))
  ht : takesIn K (.builtin "object.__class__") = some true
  hm : mroIn K D (.type "object") = some true
section
variable {prog : Program} {w : World} {A : Around} {E : Value → Shared → Prop} {K : Frag} {x D : Addr} {ox od : Obj}
theorem fr_class {s : Shared} {Q : Option Value → Shared → Prop} (C : FrC K D) (X : K.In s.heap) (I : InstAt s.heap x ox D (some od)) (h : Q (some (.ref D)) { s with toks := s.toks + 1 }) : wpAny (model prog w) A (getAttr? (.ref x) "__class__") Q E s := by
  have found : findObj K D (some od) "__class__" = some (.bind (.builtin "getset_descriptor.__get__") (.builtin "object.__class__")) :=
    findObj_data (by obtain ⟨cd, hc, _⟩ := any_some C.hd; rw [hc]; rfl) C.ha C.hn C.ht
  obtain ⟨hp, g, d, t, os⟩ := s
  have l0 := I.type (M := model prog w)
  have l1 := looks_findIn (M := model prog w) X C.hg
  have l2 := looks_findIn (M := model prog w) X C.hk
  have l3 := looks_find (M := model prog w) X I found
  have isExc : Looks (model prog w) hp (isInstance (.ref x) (.type "BaseException")) true := l0.andThen (looks_subIn X C.hs)
  have unlike : (Value.builtin "BaseException.__getattribute__" == Value.builtin "object.__getattribute__") = false := by decide +kernel
  have c1 : (onTheHeap (Value.ref D) && Value.builtin "BaseException.__getattribute__" == Value.builtin "object.__getattribute__") = false := (congrArg (onTheHeap (Value.ref D) && ·) unlike).trans (Bool.and_false _)
  have c0 : (false && onTheHeap (Value.builtin "BaseException.__getattribute__")) = false := Bool.false_and _
  unfold getAttr? getAttrBy? getAttrBy
  refine wpAny_bind (wpAny_mkText (wpAny_bind (wpAny_attempt (wpAny_holding (wpAny_bind (l0.at (wpAny_bind (l1.at ?_))))))))
  show wpAny (model prog w) A (if (onTheHeap (Value.ref D) && Value.builtin "BaseException.__getattribute__" == Value.builtin "object.__getattribute__") = true then _ else _) _ _ _
  rw [c1, if_neg Bool.false_ne_true]
  unfold getAttrByItsOwn hookBefore
  refine wpAny_bind ?_
  rw [if_pos (c := onTheHeap (Value.ref D) = true) rfl]
  refine l2.at ?_
  refine wpAny_bind (wpAny_attempt (wpAny_holding ?_))
  unfold callGetattribute
  rw [c0, if_neg Bool.false_ne_true]
  unfold boundAndCalled
  rw [PySem.F.excAttr_ValueError.ga.bind (.ref x)]
  refine wpAny_bind (wpAny_pure ?_)
  show wpAny (model prog w) A (call (.builtin "BaseException.__getattribute__") [.ref x, .str "__class__" t]) _ _ _
  refine wpAny_call (codeAny_call_builtin PySem.F.excAttr_ValueError.ga.plain PySem.F.entry_bexc_ga ?_)
  refine @check_slot (model prog w) _ _ ⟨hp, g, d, t + 1, os⟩ "BaseException.__getattribute__" "BaseException" "__getattribute__" (.ref x) [.str "__class__" t] [] _ (by decide +kernel) (by decide +kernel) isExc (PySem.F.args_bexc_ga (.ref x) (.str "__class__" t)) ?_
  unfold Builtin.«object.__getattribute__»
  have sa : slotArgs "__getattribute__" 1 { pos := [Value.ref x, Value.str "__class__" t] } = pure ((Value.ref x : Value), [Value.str "__class__" t]) := by first | rfl | (simp only [slotArgs]; rfl)
  refine wpAny_bind (wpAny_of_eq sa ?_)
  refine wpAny_bind (wpAny_pure (wpAny_bind (l0.at (wpAny_bind (l3.at ?_)))))
  show wpAny (model prog w) _ (holding [Value.builtin "object.__class__"] (call (.builtin "getset_descriptor.__get__") [.builtin "object.__class__", .ref x, .ref D]) >>= ret) _ _ _
  refine wpAny_bind (wpAny_holding (wpAny_call (class_get (s := ⟨hp, g, d, t + 1, os⟩) (ox := ox) (od := some od) X I C.hm ?_)))
  refine wpAny_pure ?_
  show wpAny (model prog w) _ (handedOut (.ref D)) _ _ _
  rw [handedOut_of (v := .ref D) rfl]
  first
    | exact wpAny_pure (wpAny_pure h)
    | exact wpAny_pure h
    | exact wpAny_pure (wpAny_bind (wpAny_pure (wpAny_pure h)))
theorem fr_kit (C : FrC K D) : KitX K (.ref x) (.ref D) (fun h => ∃ od, InstAt h x ox D (some od)) where
  ty := fun _ _ _ ⟨_, I⟩ => I.type
  it := fun _ _ X _ => by
    obtain ⟨cd, hc, _⟩ := any_some C.hd
    unfold clsIn at hc
    split at hc
    · rename_i o1 o2 o3 o4 ho
      exact fun {A' Q' E' s'} k q => by
        unfold isType loadHead
        exact wpAny_bind (wpAny_loadPart (k _ _ (X _ _ ho)) (wpAny_pure q))
    · cases hc
  ne := fun h tp dd its n sl X htp => by
    obtain ⟨cd, hc, _⟩ := any_some C.hd
    unfold clsIn at hc
    split at hc
    · rename_i o1 o2 o3 o4 ho
      refine Bool.eq_false_iff.mpr fun q => ?_
      obtain rfl : D = tp := Value.ref.inj (beq_iff_eq.mp q)
      cases (X _ _ ho).symm.trans htp
    · cases hc
  ca := fun X ⟨_, I⟩ k => fr_class C X I k
end
end PySem.W
namespace Fv
open PySem PySem.Spec PyProof.Rows L2
section
variable {X : Cx}
theorem exd_get {pins : List (Addr × Obj)} {σ : L2.St} {H : Hp} {s : Shared} {a dd D : Addr} {fs : List (Str × V)} (I : Inv X pins σ H s) (e : H a = some (ExD (.ref D) (some dd) a)) (ed : H dd = some (.xd fs)) :
    ∃ (oe od : Obj) (mA : Str → Option Value), PySem.W.InstAt s.heap a oe D (some od) ∧ (∀ f, PySem.W.lookIn f od = some (mA f)) ∧ ∀ f, RelO (fs.lookup f) (mA f) := by
  obtain ⟨⟨oe, vs, ho, hz, hv⟩, _, _⟩ := (show ObjOk X.prog X.w H s.heap a (ExD (.ref D) (some dd) a) from I.hok a _ e)
  obtain ⟨mA, hns, hr⟩ := (show ObjOk X.prog X.w H s.heap dd (.xd fs) from I.hok dd _ ed)
  obtain ⟨od, hd, hl⟩ := lookIn_ns hns
  exact ⟨oe, od, mA, ⟨ho, hz.1, by unfold PySem.W.notCls; rw [hv] <;> rfl, by rw [hz.2]; exact hd⟩, hl, hr⟩
/-- isinstance of a kept exception -/
theorem call_isK : CallR X (.builtin "isinstance") (fun xs H Q => ∃ (a D dd : Addr) (fs : List (Str × V)) (c : V) (u : Value) (b : Bool), xs = [.ref a, c] ∧ H a = some (ExD (.ref D) (some dd) a) ∧ H dd = some (.xd fs) ∧ PySem.W.FrC X.K D ∧ ClsV c u ∧ PySem.W.kitOne X.K (.ref D) u = some b ∧ Q (.bl b) H) := by
  intro pins s σ H xs us Q I r h
  obtain ⟨a, D, dd, fs, c, u, b, rfl, e, ed, C, k, hb, q⟩ := h
  obtain ⟨u1, u2, rfl, r1, r2⟩ := vals2 r
  have e2 := k.eq r2
  subst e2
  cases r1
  obtain ⟨oe, od, mA, J, _, _⟩ := exd_get I e ed
  exact PySem.W.kia_one (PySem.W.fr_kit (ox := oe) C) I.kIn ⟨od, J⟩ hb nofun fun tk => ⟨.bl b, H, I.tok tk, rfl, q⟩
/-- e.f, e a kept exception -/
def tKept (K : PySem.W.Frag) (f : Str) (te : TE) : TE := fun σ H Q => te σ H fun x H1 => ∃ (a D dd : Addr) (fs : List (Str × V)) (v : V), x = .ref a ∧ H1 a = some (ExD (.ref D) (some dd) a) ∧ H1 dd = some (.xd fs) ∧ PySem.W.FrC K D ∧ PySem.W.findIn K (.ref D) f = some none ∧ fs.lookup f = some v ∧ Q v H1
theorem pe_kept {e : Expr} {te : TE} {pos : Pos} {f : Str} (he : PE X e te) (hb : attributeBase e f X.env (eval e X.env) = eval e X.env := by rfl) : PE X (.Attribute e f pos) (tKept X.K f te) := by
  refine ⟨fun pins s σ H Q I h => attr_of hb (thn (he.run pins s σ H _ I h) fun u s1 hh => ?_)⟩
  obtain ⟨x, H1, I1, rx, a, D, dd, fs, v, rfl, ea, ed, C, hno, hl, q⟩ := hh
  obtain rfl : u = Value.ref a := rx
  obtain ⟨oe, od, mA, J, hlk, hr⟩ := exd_get I1 ea ed
  obtain ⟨u, hu, ru⟩ := RelO.some_of (v := v) (o := mA f) (by rw [← hl]; exact hr f)
  exact HandSPX.exc_get I1.kIn J C.hg C.hk C.hs (PySem.W.findObj_own C.hd hno rfl (by rw [hlk, hu])) (handed_of ru) ⟨v, H1, I1.tok _, ru, q⟩
end
end Fv
set_option Elab.async false
set_option linter.all false
set_option maxRecDepth 100000
set_option maxHeartbeats 2000000
namespace Fv
open PySem PySem.Spec PyProof.Rows L2 LamX NdefX
/-! ### lambdas without parameters that outlive the def that made them -/
structure LF where
  qual : Str
  params : Arguments
  body : Expr
  scope : Scope
  cl : List (Str × Addr)
  c : Addr
abbrev LF.fd (F : LF) (pm ctv : Value) : FuncData := PySem.W.kla_fn "<lambda>" F.qual F.params F.body F.scope F.cl pm (.ref F.c) ctv
abbrev LF.nf (F : LF) : NF := ⟨"<lambda>", F.qual, F.params, [], F.scope, F.cl, F.c⟩
abbrev LF.cs (F : LF) : List Addr := F.cl.map (·.2)
/-- the object at f is the lambda F -/
def LamO (f : Addr) (F : LF) : HO := .ext fun h => ∃ (od : Option Addr) (sl : Array (Option Value)) (pm ctv : Value), h.get? f = some (⟨.type "function", od, .func (F.fd pm ctv), sl⟩ : Obj)
/-- the object at c is the cell o -/
def CellX (c : Addr) (o : Obj) : HO := .ext fun h => h.get? c = some o
theorem lamO_ok {P : Program} {w : World} {H : Hp} {h : Heap} {f : Addr} {F : LF} {od : Option Addr} {sl : Array (Option Value)} {pm ctv : Value} (e : h.get? f = some (⟨.type "function", od, .func (F.fd pm ctv), sl⟩ : Obj)) : ObjOk P w H h f (LamO f F) :=
  ⟨⟨od, sl, pm, ctv, e⟩, ⟨_, e⟩, fun _ _ ⟨a, b, c, d, z⟩ st => ⟨a, b, c, d, st _ z⟩⟩
theorem lamO_at {P : Program} {w : World} {H : Hp} {h : Heap} {f : Addr} {F : LF} (hok : HOk P w H h) (e : H f = some (LamO f F)) : ∃ (od : Option Addr) (sl : Array (Option Value)) (pm ctv : Value), h.get? f = some (⟨.type "function", od, .func (F.fd pm ctv), sl⟩ : Obj) := (hok f _ e).1
theorem cellX_ok {P : Program} {w : World} {H : Hp} {h : Heap} {c : Addr} {o : Obj} (e : h.get? c = some o) : ObjOk P w H h c (CellX c o) := ⟨e, ⟨_, e⟩, fun _ _ z st => st _ z⟩
theorem cellX_at {P : Program} {w : World} {H : Hp} {h : Heap} {c : Addr} {o : Obj} (hok : HOk P w H h) (e : H c = some (CellX c o)) : h.get? c = some o := (hok c _ e).1
/-- what a call of the lambda F at f does: sp, from the heap in which its cells are not tracked -/
structure LOk (P : Program) (w : World) (K : PySem.W.Frag) (mg : Str → Option Value) (base : Heap) (CX : CXT) (k : Nat) (f : Addr) (F : LF) (fr : List Str) (ws : List (Option V)) (sp : Hp → VK → XK → Prop) : Prop where
  run : ∀ (A : Around) (outer : List Env) (s : Shared) (H : Hp) (Q : VK) (E : XK), A.guards = some [] → Room k A → Env0 P w K mg base A outer s H →
    (∃ (od : Option Addr) (sl : Array (Option Value)) (pm ctv : Value), s.heap.get? f = some (⟨.type "function", od, .func (F.fd pm ctv), sl⟩ : Obj)) → s.heap.CodeRec (.ref F.c) F.qual →
    CellsAt F.cl fr ws s.heap H → sp H Q E → codeAny (model P w) A (.call (.ref f) ⟨[], []⟩) (CR CX outer P w H s Q E) s
section
variable {CX : CXT} {P : Program} {w : World} {K : PySem.W.Frag} {mg : Str → Option Value} {base : Heap} {N fr : List Str} {F : LF} {f : Addr} {k : Nat} {ws : List (Option V)} {sp : Hp → VK → XK → Prop}
theorem lok_of (S : NScope N [] fr F.scope) (hb : ∀ pm ctv : Value, bindArgs (F.fd pm ctv) ⟨[], []⟩ = pure [])
    (hbody : ∀ (A : Around) (outer : List Env) (s : Shared) (H : Hp) (Q : VK) (E : XK), A.guards = some [] → Room k (A.deeper (envF F.nf f s.heap.objs.size)) → sp H Q E →
      ∃ t, PE (ncx CX P w K mg base N F.nf f A outer s H E) F.body t ∧ t (NdefX.startF N [] ws) H Q) :
    LOk P w K mg base CX (k + 1) f F fr ws sp := by
  refine ⟨fun A outer s H Q E hgu hr e0 hf hc C hsp => ?_⟩
  have lim : s.heap.NoLimit := e0.mod.nolimit.keeps fun b o e => (e0.bs b o e).1
  obtain ⟨od, sl, pm, ctv, ho⟩ := hf
  refine PySem.W.kla_callFunE hr.depth ho rfl S.co S.gen rfl hc ?_
  rw [hb pm ctv]
  refine wpAny_pure (wpAny_newFunctionEnv S.nocell (fun y hy => absurd hy (by simp)) (fun h₁ hns hsb => ⟨lim.fresh _ hsb, ?_⟩) S.kind)
  show codeAny _ _ (.expr F.body (envF F.nf f s.heap.objs.size)) _ _
  have kp : ∀ b o, s.heap.get? b = some o → h₁.get? b = some o := fun b o e => hsb.extBut b o (Nat.ne_of_lt (Heap.lt_size e)) (Heap.get?_push_of_some _ e)
  obtain ⟨t, ht, hq⟩ := hbody A outer s H Q E hgu (hr.deeper _) hsp
  have I : L2.Inv (ncx CX P w K mg base N F.nf f A outer s H E) [] (NdefX.startF N [] ws) H { s with heap := h₁, toks := s.toks + ([] : List (Str × Value)).length } := inv_startN (F := F.nf) (ps := []) (us := []) S hr.hd e0 rfl .nil C hns kp
  refine PySem.W.kla_codeExpr (wpAny_mono (ht.run [] _ (NdefX.startF N [] ws) H Q I hq) (fun v s' z => ?_) fun e s' z => z)
  obtain ⟨x, H', J, rv, q⟩ := z
  exact ⟨x, H', J.os, J.bare, J.base, J.hok, rv, q⟩
end
/-! ### heaps without its cells -/
def hideC (cs : List Addr) (H : Hp) : Hp := fun b => if b ∈ cs then none else H b
def putC (cs : List Addr) (H H' : Hp) : Hp := fun b => if b ∈ cs then H b else H' b
theorem hideC_in {cs : List Addr} {H : Hp} {b : Addr} (h : b ∈ cs) : hideC cs H b = none := if_pos h
theorem hideC_out {cs : List Addr} {H : Hp} {b : Addr} (h : b ∉ cs) : hideC cs H b = H b := if_neg h
theorem putC_in {cs : List Addr} {H H' : Hp} {b : Addr} (h : b ∈ cs) : putC cs H H' b = H b := if_pos h
theorem putC_out {cs : List Addr} {H H' : Hp} {b : Addr} (h : b ∉ cs) : putC cs H H' b = H' b := if_neg h
theorem hideC_none {cs : List Addr} {H : Hp} {b : Addr} (h : H b = none) : hideC cs H b = none := by
  unfold hideC
  split
  · rfl
  · exact h
theorem hideC_some {cs : List Addr} {H : Hp} {b : Addr} {o : HO} (h : hideC cs H b = some o) : b ∉ cs ∧ H b = some o := by
  unfold hideC at h
  split at h
  · cases h
  · rename_i n
    exact ⟨n, h⟩
/-- all at cs are tracked cells -/
def Cells (cs : List Addr) (H : Hp) : Prop := ∀ c ∈ cs, ∃ o v, H c = some (CellX c o) ∧ o.data = .cell v
theorem Cells.out {cs : List Addr} {H : Hp} {b : Addr} {u : HO} (C : Cells cs H) (h : H b = some u) (n : ∀ o, u ≠ CellX b o) : b ∉ cs := fun z => by
  obtain ⟨o, v, e, _⟩ := C b z
  rw [e] at h
  exact n o (Option.some.inj h).symm
theorem Cells.none {cs : List Addr} {H : Hp} {b : Addr} (C : Cells cs H) (h : H b = none) : b ∉ cs := fun z => by
  obtain ⟨o, v, e, _⟩ := C b z
  rw [e] at h
  cases h
theorem ne_own (b x : Addr) (o : Obj) : (HO.own x) ≠ CellX b o := fun z => by unfold CellX at z; cases z
theorem ne_tup (b : Addr) (xs : List V) (o : Obj) : (HO.tup xs) ≠ CellX b o := fun z => by unfold CellX at z; cases z
theorem ne_frz (b : Addr) (a : Obj) (u : HO) (o : Obj) : (HO.frz a u) ≠ CellX b o := fun z => by unfold CellX at z; cases z
theorem ne_tbl (b : Addr) (ps : Array Value) (o : Obj) : (HO.tbl ps) ≠ CellX b o := fun z => by unfold CellX at z; cases z
section
variable {P : Program} {w : World} {K : PySem.W.Frag} {mg : Str → Option Value} {base : Heap} {cs : List Addr} {H H' : Hp} {A : Around} {outer : List Env} {s s' : Shared}
theorem hok_hide {h : Heap} (C : Cells cs H) (hok : HOk P w H h) : HOk P w (hideC cs H) h := fun a o e => by
  obtain ⟨n, e⟩ := hideC_some e
  refine (hok a o e).stay (fun _ _ _ z => z) (fun b z => ?_) fun b xs z => ?_
  · rw [hideC_out (C.out z (ne_own b a))]
    exact z
  · rw [hideC_out (C.out z (ne_tup b xs))]
    exact z
theorem env0_hide (C : Cells cs H) (e0 : Env0 P w K mg base A outer s H) : Env0 P w K mg base A outer s (hideC cs H) :=
  ⟨e0.frames, e0.mod, fun b o e => ⟨(e0.bs b o e).1, hideC_none (e0.bs b o e).2⟩, e0.bsz, e0.funs, fun b hb => hideC_none (e0.frf b hb), hok_hide C e0.hok, e0.bare⟩
/-- behind the call the cells stand as they stood -/
theorem hok_put {B h : Heap} (C : Cells cs H) (hok : HOk P w H h) (hok' : HOk P w H' B) (keep : ∀ b o, h.get? b = some o → b ∈ cs → B.get? b = some o) (free : ∀ b o, h.get? b = some o → hideC cs H b = none → H' b = none) : HOk P w (putC cs H H') B := fun a o e => by
  by_cases ha : a ∈ cs
  · rw [putC_in ha] at e
    obtain ⟨oc, v, ec, _⟩ := C a ha
    rw [ec] at e
    cases e
    exact cellX_ok (keep a oc (cellX_at hok ec) ha)
  · rw [putC_out ha] at e
    have out : ∀ b u, H' b = some u → b ∉ cs := fun b u z hb => by
      obtain ⟨oc, v, ec, _⟩ := C b hb
      rw [free b oc (cellX_at hok ec) (hideC_in hb)] at z
      cases z
    refine (hok' a o e).stay (fun _ _ _ z => z) (fun b z => ?_) fun b xs z => ?_
    · rw [putC_out (out b _ z)]
      exact z
    · rw [putC_out (out b _ z)]
      exact z
theorem cells_frs (C : Cells cs H) (e0 : Env0 P w K mg base A outer s H) : ∀ b ∈ cs, b ∉ frs outer := fun b hb z => C.none (e0.frf b z) hb
theorem ce_put {Q : VK} {u : Value} (C : Cells cs H) (e0 : Env0 P w K mg base A outer s H) (h : CE outer P w (hideC cs H) s (fun v H' => (∀ c ∈ cs, H' c = none) → Q v (putC cs H H')) u s') : CE outer P w H s Q u s' := by
  obtain ⟨v, H', os, bare, un, hok, r, q⟩ := h
  refine ⟨v, putC cs H H', os, bare, ⟨fun b o e n f x => un.keep b o e (hideC_none n) f x, fun b o e n f x => un.slot b o e (hideC_none n) f x, fun b o e n x => ?_, un.there, fun b xs e => ?_, fun b o u e => ?_, fun b ps e => ?_⟩, hok_put C e0.hok hok (fun b o e hb => un.keep b o e (hideC_in hb) (cells_frs C e0 b hb) (by simp)) (fun b o e n => un.free b o e n (by simp)), r, q fun c hc => ?_⟩
  · rw [putC_out (C.none n)]
    exact un.free b o e (hideC_none n) x
  · have n := C.out e (ne_tup b xs)
    rw [putC_out n]
    exact un.tups b xs (by rw [hideC_out n]; exact e)
  · have n := C.out e (ne_frz b o u)
    rw [putC_out n]
    exact un.frzs b o u (by rw [hideC_out n]; exact e)
  · have n := C.out e (ne_tbl b ps)
    rw [putC_out n]
    exact un.tbls b ps (by rw [hideC_out n]; exact e)
  · obtain ⟨oc, v', ec, _⟩ := C c hc
    exact un.free c oc (cellX_at e0.hok ec) (hideC_in hc) (by simp)
theorem cx_put {E : XK} {u : Value} (C : Cells cs H) (e0 : Env0 P w K mg base A outer s H) (h : L2.CX P w outer (hideC cs H) s (fun cls d H' => (∀ c ∈ cs, H' c = none) → E cls d (putC cs H H')) u s') : L2.CX P w outer H s E u s' := by
  obtain ⟨a, B, H', cls, d, c1, c2, c3, un, c5, c6, c7, q⟩ := h
  have kc : ∀ b o, s.heap.get? b = some o → b ∈ cs → B.get? b = some o := fun b o e hb => un.keep b o e (hideC_in hb) (cells_frs C e0 b hb)
  have na : a ∉ cs := fun ha => by
    obtain ⟨oc, v, ec, _⟩ := C a ha
    have z := kc a oc (cellX_at e0.hok ec) ha
    rw [c2.2.1] at z
    cases z
  refine ⟨a, B, putC cs H H', cls, d, c1, c2, hok_put C e0.hok c3 kc (fun b o e n => un.free b o e n), ⟨fun b o e n f => un.keep b o e (hideC_none n) f, un.slot, fun b o e n => ?_, un.there, fun b xs e => ?_, fun b o u e => ?_, fun b ps e => ?_⟩, by rw [putC_out na]; exact c5, c6, c7, q fun c hc => ?_⟩
  · rw [putC_out (C.none n)]
    exact un.free b o e (hideC_none n)
  · have n := C.out e (ne_tup b xs)
    rw [putC_out n]
    exact un.tups b xs (by rw [hideC_out n]; exact e)
  · have n := C.out e (ne_frz b o u)
    rw [putC_out n]
    exact un.frzs b o u (by rw [hideC_out n]; exact e)
  · have n := C.out e (ne_tbl b ps)
    rw [putC_out n]
    exact un.tbls b ps (by rw [hideC_out n]; exact e)
  · obtain ⟨oc, v', ec, _⟩ := C c hc
    exact un.free c oc (cellX_at e0.hok ec) (hideC_in hc)
end
/-- the captured names fr hold ws, in tracked cells -/
structure Held (H : Hp) (cl : List (Str × Addr)) (fr : List Str) (ws : List V) : Prop where
  len : ws.length = fr.length
  all : Cells (cl.map (·.2)) H
  inj : ∀ x y c, cl.lookup x = some c → cl.lookup y = some c → x = y
  has : ∀ (i : Nat) (y : Str), fr[i]? = some y → ∃ c, cl.lookup y = some c ∧ ∀ v, ws[i]? = some v → ∃ o u, RelV v u ∧ H c = some (CellX c o) ∧ o.data = .cell (some u)
theorem Held.same {H H' : Hp} {cl : List (Str × Addr)} {fr : List Str} {ws : List V} (h : Held H cl fr ws) (s : Same H H') : Held H' cl fr ws :=
  ⟨h.len, fun c hc => (h.all c hc).elim fun o ⟨v, e, d⟩ => ⟨o, v, s _ _ e, d⟩, h.inj, fun i y e => (h.has i y e).elim fun c ⟨e1, r⟩ => ⟨c, e1, fun v ev => (r v ev).elim fun o ⟨u, a, b, d⟩ => ⟨o, u, a, s _ _ b, d⟩⟩⟩
theorem mem_snd {cl : List (Str × Addr)} {y : Str} {c : Addr} (h : cl.lookup y = some c) : c ∈ cl.map (·.2) := List.mem_map.mpr ⟨(y, c), PySem.mem_of_lookup h, rfl⟩
theorem Held.cells {P : Program} {w : World} {H : Hp} {h : Heap} {cl : List (Str × Addr)} {fr : List Str} {ws : List V} (D : Held H cl fr ws) (hok : HOk P w H h) : CellsAt cl fr (ws.map some) h (hideC (cl.map (·.2)) H) := by
  refine ⟨by rw [List.length_map]; exact D.len, fun y c e => ⟨hideC_in (mem_snd e), ?_⟩, D.inj, fun i y e => ?_⟩
  · obtain ⟨o, v, e1, e2⟩ := D.all c (mem_snd e)
    exact ⟨v, o, cellX_at hok e1, e2⟩
  · obtain ⟨c, e1, r⟩ := D.has i y e
    refine ⟨c, e1, fun v ev => ?_⟩
    rw [List.getElem?_map] at ev
    obtain ⟨v', e2, e3⟩ := Option.map_eq_some_iff.mp ev
    cases e3
    obtain ⟨o, u, a, b, d⟩ := r v e2
    exact ⟨u, a, o, cellX_at hok b, d⟩
/-! ### x(), x a name that holds such a lambda -/
def tEsc (P : Program) (w : World) (K : PySem.W.Frag) (mg : Str → Option Value) (base : Heap) (k i : Nat) (E : L2.St → XK) : TE := fun σ H Q => ∃ (f : Addr) (F : LF) (fr : List Str) (ws : List V) (sp : Hp → VK → XK → Prop), σ[i]? = some (some (.ref f)) ∧
  H f = some (LamO f F) ∧ H F.c = some (CodeO F.c F.qual) ∧ Held H F.cl fr ws ∧ LOk P w K mg base (L2.CX P w) k f F fr (ws.map some) sp ∧ sp (hideC F.cs H) (fun v H' => (∀ c ∈ F.cs, H' c = none) → Q v (putC F.cs H H')) (fun cls d H' => (∀ c ∈ F.cs, H' c = none) → E σ cls d (putC F.cs H H'))
section
variable {X : Cx} {k j i : Nat} {x : Str} {E : L2.St → XK} {p pos : Pos}
theorem pe_esc (hgu : X.A.guards = some []) (hr : Room j X.A) (hk : k ≤ j) (hx : ∀ σ, PassesAt (L2.CX X.prog X.w) X σ (E σ)) (hN : X.N[i]? = some x) (hv : Vis X.env.scope x)
    (hd : (x == ("__debug__" : Str)) = false := by decide) (hcd : (x == ("__classdict__" : Str)) = false := by decide) : PE X (.Call (.Name x p) [] [] pos) (tEsc X.prog X.w X.K X.mg X.base k i E) := by
  refine ⟨fun pins s σ H Q I h => ?_⟩
  obtain ⟨f, F, fr, ws, sp, hs, hf, hc, D, L, q⟩ := h
  refine wpAny_Call_Name_kw (thn ((pe_var (pos := p) hN hv hd hcd).run pins s σ H (fun v H1 => v = .ref f ∧ H1 = H) I ⟨.ref f, hs, rfl, rfl⟩) fun u s1 ⟨v, H1, I1, r1, q1⟩ => ?_)
  obtain ⟨ev, eH⟩ := q1
  subst ev
  rw [eH] at I1
  obtain rfl : u = Value.ref f := r1
  have ho := lamO_at I1.hok hf
  have fnAt : PySem.W.FnAt f s1.heap := by
    obtain ⟨od, sl, pm, ctv, ho⟩ := ho
    exact ⟨_, od, _, sl, ho⟩
  refine PySem.W.callWith_F0 (first := []) fnAt ?_
  show wpAny _ _ (call (.ref f) []) _ _ _
  have e0 := I1.env0
  refine wpAny_call (codeAny_mono (L.run X.A X.stack s1 _ _ _ hgu (hr.mono hk) (env0_hide D.all e0) ho (codeO_at I1.hok hc) (D.cells I1.hok) q) fun r s' hq => ?_)
  cases r with
  | error e => exact hx σ pins H s1 e s' I1 (cx_put D.all e0 hq)
  | ok fl =>
    cases fl with
    | ret u => exact I1.after (ce_put D.all e0 hq)
    | next => exact False.elim hq
    | brk => exact False.elim hq
    | cont => exact False.elim hq
end
end Fv
set_option Elab.async false
set_option linter.all false
set_option maxRecDepth 100000
set_option maxHeartbeats 2000000
namespace Fv
open PySem PySem.Spec PyProof.Rows L2 LamX NdefX
/-! ### a lambda made -/
section
variable {X : Cx} {pins : List (Addr × Obj)} {σ : L2.St} {H : Hp} {s : Shared}
theorem inv_lam {F : LF} {o : Obj} {t' : Nat} {pm ctv : Value} (I : L2.Inv X pins σ H s) (ho : o = { cls := .type "function", data := .func (F.fd pm ctv) }) :
    L2.Inv X pins σ (upd H s.heap.objs.size (LamO s.heap.objs.size F)) { s with heap := s.heap.push o, toks := t' } := by
  subst ho
  refine I.laid (a := s.heap.objs.size) (fun b u e => Heap.get?_push_of_some _ e) (Nat.le_refl _) ?_
  have e : (s.heap.push ({ cls := .type "function", data := .func (F.fd pm ctv) } : Obj)).get? s.heap.objs.size = some ({ cls := .type "function", data := .func (F.fd pm ctv) } : Obj) := Heap.get?_push_size _ rfl
  exact lamO_ok e
/-- the table at P tells one code object more -/
theorem tabs_more {T : List (Addr × Str)} {G : Hp} {P d : Addr} {q : Str} {at_ : Pos} {tb : Array Value} (all : Tabs T G) (hp : G P = some (.tbl tb)) (good : TriplesOk tb.toList)
    (told : ∀ (p : Pos) (cv : Value), codeAmong p tb.toList = some cv → ∃ e, cv = .ref e ∧ G e = some (CodeO e q)) (one : ∀ p ∈ T, p.1 = P → p.2 = q) (new : G d = none) :
    But P G (upd (upd G P (.tbl (tb ++ #[rawInt at_.line, rawInt at_.col, .ref d]))) d (CodeO d q)) ∧ Tabs T (upd (upd G P (.tbl (tb ++ #[rawInt at_.line, rawInt at_.col, .ref d]))) d (CodeO d q)) := by
  have ext : But P G (upd (upd G P (.tbl (tb ++ #[rawInt at_.line, rawInt at_.col, .ref d]))) d (CodeO d q)) := by
    intro b u eb n2
    rw [upd_ne (ne_of_none eb new), upd_ne n2]
    exact eb
  have codeP : ∀ {e : Addr} {q' : Str}, G e = some (CodeO e q') → e ≠ P := fun {e q'} he z => by
    rw [z, hp] at he
    exact codeO_ne tb (Option.some.inj he).symm
  have list : (tb ++ #[rawInt at_.line, rawInt at_.col, .ref d]).toList = tb.toList ++ [rawInt at_.line, rawInt at_.col, .ref d] := by simp
  refine ⟨ext, fun p hp' => ?_⟩
  by_cases same : p.1 = P
  · rw [one p hp' same, same]
    refine ⟨tb ++ #[rawInt at_.line, rawInt at_.col, .ref d], ?_, ?_, fun at' cv among => ?_⟩
    · rw [upd_ne (ne_of_none hp new)]
      exact upd_same
    · rw [list]
      exact PySem.TriplesOk_snoc _ _ _ _ good
    · rw [list] at among
      cases among_app _ good among with
      | inl old =>
        obtain ⟨e, he, hce⟩ := told at' cv old
        exact ⟨e, he, ext e _ hce (codeP hce)⟩
      | inr is => exact ⟨d, is, upd_same⟩
  · obtain ⟨tb', g1, g2, g3⟩ := all p hp'
    refine ⟨tb', ?_, g2, fun at' cv among => ?_⟩
    · rw [upd_ne (ne_of_none g1 new), upd_ne same]
      exact g1
    · obtain ⟨e, he, hce⟩ := g3 at' cv among
      exact ⟨e, he, ext e _ hce (codeP hce)⟩
/-- what is wished for of a lambda made from the heap G -/
def LamWish (X : Cx) (pins : List (Addr × Obj)) (σ : L2.St) (T : List (Addr × Str)) (P : Addr) (G : Hp) (mk : Addr → LF) (Q : Value → Shared → Prop) : Prop :=
  ∀ (f c' : Addr) (H1 : Hp) (s' : Shared), L2.Inv X pins σ H1 s' → But P G H1 → Tabs T H1 → G f = none → H1 f = some (LamO f (mk c')) → H1 c' = some (CodeO c' (mk c').qual) → Q (.ref f) s'
theorem lam_end {T : List (Addr × Str)} {P : Addr} {G G1 : Hp} {mk : Addr → LF} {Q : Value → Shared → Prop} {d : Addr} {pm ctv : Value} {tk : Tok} {s1 : Shared} (wish : LamWish X pins σ T P G mk Q) (J : L2.Inv X pins σ G1 s1) (ext : But P G G1) (all : Tabs T G1)
    (free : G s1.heap.objs.size = none) (code : G1 d = some (CodeO d (mk d).qual)) : Q (.ref s1.heap.objs.size) { s1 with heap := s1.heap.push { cls := .type "function", data := .func ((mk d).fd pm ctv) }, toks := tk } := by
  have none1 : G1 s1.heap.objs.size = none := J.hok.fresh (Nat.le_refl _)
  have stay : ∀ {b : Addr} {u : HO}, G1 b = some u → upd G1 s1.heap.objs.size (LamO s1.heap.objs.size (mk d)) b = some u := fun {b u} e => by
    rw [upd_ne (ne_of_none e none1)]
    exact e
  exact wish _ d _ _ (inv_lam J rfl) (fun b u e nt => stay (ext b u e nt)) (all.ext fun b u e => stay e) free upd_same (stay code)
theorem lam_makeT {T : List (Addr × Str)} {c P : Addr} {params : Arguments} {body : Expr} {scope : Scope} {at_ : Pos} {E Q : Value → Shared → Prop} (I : L2.Inv X pins σ H s) (TB : TabB X.base X.mg c P) (isC : X.env.code = .ref c)
    (inT : (P, X.env.qual ++ "<lambda>") ∈ T) (one : ∀ p ∈ T, p.1 = P → p.2 = X.env.qual ++ "<lambda>") (all : Tabs T H) (hdef : defaultsOf params X.env = ([], [])) (cells : ∀ y ∈ scope.names, y.2 = .free → ∃ c, X.env.cells.lookup y.1 = some c)
    (wish : LamWish X pins σ T P H (fun c' => ⟨X.env.qual ++ "<lambda>", params, body, scope, cloFrom X.env.cells scope.names [], c'⟩) Q) :
    wpAny (model X.prog X.w) X.A (eval (.Lambda params body scope at_) X.env) Q E s := by
  obtain ⟨tb, hp, good, told⟩ := all _ inT
  have stands : s.heap.get? P = some { cls := .none, data := .fields tb } := I.hok P _ hp
  have glob := I.mod.glob.keeps I.bk
  have head := TB.code.keeps I.bk
  have blt := TB.bm.keeps I.bk
  apply PySem.W.kla_eval hdef
  cases is : codeAmong at_ tb.toList with
  | some cv =>
    obtain ⟨d, rfl, hd⟩ := told at_ cv is
    refine PySem.W.kla_makeFunctionHit (mg := X.mg) (c := c) (P := P) (ps := tb) (closure_ok cells) I.ok.glob glob isC head stands good is blt fun ctv h' tk kept grown => ?_
    exact lam_end (s1 := { s with heap := h', toks := tk }) wish (I.kept kept) (But.refl P H) all (I.hok.fresh grown) hd
  | none =>
    refine PySem.W.kla_makeFunction (mg := X.mg) (c := c) (P := P) (ps := tb) (closure_ok cells) I.ok.glob glob isC head stands good is TB.gP blt fun d ctv h' tk kept above below rec_ tab => ?_
    obtain ⟨d2, od, fs, t, ed, hod, hdat, hq⟩ := rec_
    cases ed
    have new : H d = none := I.hok.fresh above
    obtain ⟨ext, all'⟩ := tabs_more (at_ := at_) all hp good told one new
    exact lam_end (s1 := { s with heap := h', toks := tk }) wish (inv_table (t' := tk) (more := #[rawInt at_.line, rawInt at_.col, .ref d]) (h' := h') I hp (fun b o hb => kept b o hb) tab above ⟨od, fs, t, hod, hdat, hq⟩) ext all' (I.hok.fresh (Nat.le_trans above (Nat.le_of_lt below))) upd_same
end
def tLamE (T : List (Addr × Str)) (P : Addr) (mk : Addr → LF) : TE := fun σ H Q => Tabs T H ∧ ∀ (f c' : Addr) (H1 : Hp), But P H H1 → Tabs T H1 → H f = none → H1 f = some (LamO f (mk c')) → H1 c' = some (CodeO c' (mk c').qual) → Q (.ref f) H1
section
variable {X : Cx}
theorem pe_lamE {T : List (Addr × Str)} {c P : Addr} {params : Arguments} {body : Expr} {scope : Scope} {pos : Pos} (TB : TabB X.base X.mg c P) (hcode : X.env.code = .ref c) (hm : (P, X.env.qual ++ "<lambda>") ∈ T) (hu : ∀ p ∈ T, p.1 = P → p.2 = X.env.qual ++ "<lambda>") (L : LamS X.env.scope scope) (hdef : defaultsOf params X.env = ([], [])) :
    PE X (.Lambda params body scope pos) (tLamE T P fun c' => ⟨X.env.qual ++ "<lambda>", params, body, scope, cloFrom X.env.cells scope.names [], c'⟩) := by
  refine ⟨fun pins s σ H Q I h => ?_⟩
  obtain ⟨hT, h⟩ := h
  exact lam_makeT I TB hcode hm hu hT hdef (L.has I.ok) fun f c' H1 s' I1 eN T1 f0 f1 c1 => ⟨.ref f, H1, I1, rfl, h f c' H1 eN T1 f0 f1 c1⟩
end
/-! ### a def whose cells are told when it ends -/
def trackC : List (Addr × Obj) → Hp → Hp
  | [], H => H
  | (c, o) :: r, H => upd (trackC r H) c (CellX c o)
/-- the cells of the names at the slots -/
def KeptC (X : Cx) (σ : L2.St) : List Nat → List (Addr × Obj) → Prop
  | [], l => l = []
  | j :: js, l => ∃ (y : Str) (c : Addr) (o : Obj) (v : V) (u : Value) (r : List (Addr × Obj)), l = (c, o) :: r ∧ X.N[j]? = some y ∧ X.env.cells.lookup y = some c ∧ σ[j]? = some (some v) ∧ RelV v u ∧ o.data = .cell (some u) ∧ KeptC X σ js r
section
variable {X : Cx} {pins : List (Addr × Obj)} {σ : L2.St} {H : Hp} {s : Shared}
theorem kept_ex (I : L2.Inv X pins σ H s) : ∀ {js : List Nat}, (∀ j ∈ js, ∃ y v, X.N[j]? = some y ∧ X.env.scope.names.lookup y = some .cell ∧ σ[j]? = some (some v)) → ∃ l, KeptC X σ js l ∧ ∀ p ∈ l, s.heap.get? p.1 = some p.2
  | [], _ => ⟨[], rfl, fun p h => (by cases h)⟩
  | j :: js, hj => by
    obtain ⟨y, v, e1, e2, e3⟩ := hj j List.mem_cons_self
    obtain ⟨r, kr, hr⟩ := kept_ex I fun j h => hj j (List.mem_cons_of_mem _ h)
    obtain ⟨m, hn, hl⟩ := I.loc
    obtain ⟨u, ru, q⟩ := hl j y v e1 e3 (.inr (.inl e2))
    rcases q with ⟨z, _⟩ | ⟨_, c, hc, o, ho, hd⟩
    · have z' : X.env.scope.names.lookup y = some .local := z
      rw [e2] at z'
      cases z'
    · refine ⟨(c, o) :: r, ⟨y, c, o, v, u, r, rfl, e1, hc, e3, ru, hd, kr⟩, fun p hp => ?_⟩
      rcases List.mem_cons.mp hp with rfl | hp
      · exact ho
      · exact hr p hp
theorem kept_in {js : List Nat} : ∀ {l : List (Addr × Obj)}, KeptC X σ js l → ∀ p ∈ l, ∃ j ∈ js, ∃ y, X.N[j]? = some y ∧ X.env.cells.lookup y = some p.1 ∧ ∃ v, p.2.data = .cell v := by
  induction js with
  | nil =>
    intro l h p hp
    have h : l = [] := h
    rw [h] at hp
    cases hp
  | cons j js ih =>
    intro l h p hp
    obtain ⟨y, c, o, v, u, r, rfl, e1, e2, e3, ru, hd, kr⟩ := h
    rcases List.mem_cons.mp hp with rfl | hp
    · exact ⟨j, List.mem_cons_self, y, e1, e2, _, hd⟩
    · obtain ⟨j', hj', q⟩ := ih kr p hp
      exact ⟨j', List.mem_cons_of_mem _ hj', q⟩
theorem trackC_out {l : List (Addr × Obj)} {H : Hp} {b : Addr} (h : ∀ p ∈ l, p.1 ≠ b) : trackC l H b = H b := by
  induction l with
  | nil => rfl
  | cons p l ih =>
    obtain ⟨c, o⟩ := p
    show upd _ _ _ b = _
    rw [upd_ne (Ne.symm (h (c, o) List.mem_cons_self))]
    exact ih fun p hp => h p (List.mem_cons_of_mem _ hp)
theorem hok_track {P : Program} {w : World} {h : Heap} (hok : HOk P w H h) : ∀ {l : List (Addr × Obj)}, (∀ p ∈ l, h.get? p.1 = some p.2 ∧ H p.1 = none) → (l.map (·.1)).Nodup → HOk P w (trackC l H) h
  | [], _, _ => hok
  | (c, o) :: r, hl, nd => by
    obtain ⟨e, n⟩ := hl (c, o) List.mem_cons_self
    rw [List.map_cons] at nd
    have nr := (List.nodup_cons.mp nd).1
    refine (hok_track hok (fun p hp => hl p (List.mem_cons_of_mem _ hp)) (List.nodup_cons.mp nd).2).laidN (fun _ _ e => e) ?_ (cellX_ok e)
    rw [trackC_out fun p hp z => nr (List.mem_map.mpr ⟨p, hp, z⟩)]
    exact n
theorem kept_nodup (ok : X.Ok) (hN : X.N.Nodup) : ∀ {js : List Nat} {l : List (Addr × Obj)}, js.Nodup → KeptC X σ js l → (l.map (·.1)).Nodup
  | [], l, _, h => by
    have h : l = [] := h
    rw [h]
    exact List.Pairwise.nil
  | j :: js, l, nd, h => by
    obtain ⟨y, c, o, v, u, r, rfl, e1, e2, e3, ru, hd, kr⟩ := h
    rw [List.map_cons]
    refine List.nodup_cons.mpr ⟨fun hm => ?_, kept_nodup ok hN (List.nodup_cons.mp nd).2 kr⟩
    obtain ⟨p, hp, ep⟩ := List.mem_map.mp hm
    obtain ⟨j', hj', y', f1, f2, _⟩ := kept_in kr p hp
    have ey : y = y' := ok.inj y y' c e2 (by rw [f2]; exact congrArg some ep)
    subst ey
    have ej := nodup_ix hN e1 f1
    subst ej
    exact (List.nodup_cons.mp nd).1 hj'
end
/-- the end of a body, told with the slots as they stand -/
structure Ended (X : Cx) (body : List Stmt) (t : (L2.St → V → Hp → Prop) → L2.St → Hp → Prop) : Prop where
  run : ∀ (pins : List (Addr × Obj)) (s : Shared) (σ : L2.St) (H : Hp) (R : L2.St → V → Hp → Prop), L2.Inv X pins σ H s → t R σ H →
    wpAny (model X.prog X.w) X.A (execs body X.env) (fun fl s' => match fl with | .ret u => ∃ v σ' H', L2.Inv X pins σ' H' s' ∧ RelV v u ∧ R σ' v H' | _ => False) X.xe s
section
variable {X : Cx} {st : Stmt} {rest : List Stmt} {t1 : TS} {u : (L2.St → V → Hp → Prop) → L2.St → Hp → Prop} {e : Expr} {te : TE} {pos : Pos}
theorem ended_cons (h1 : PS X st t1) (h2 : Ended X rest u) : Ended X (st :: rest) (fun R σ H => t1 { nx := fun σ' H' => u R σ' H', rt := fun _ _ => False, bk := fun _ _ => False, ct := fun _ _ => False } σ H) := by
  refine ⟨fun pins s σ H R I h => ?_⟩
  refine wpAny_execs_cons (thn (h1.run pins s σ H _ I h) fun f s1 q => ?_)
  cases f with
  | next =>
    obtain ⟨σ', H', I', q⟩ := q
    exact h2.run pins s1 σ' H' R I' q
  | ret v =>
    obtain ⟨_, _, _, _, _, z⟩ := q
    exact False.elim z
  | brk =>
    obtain ⟨_, _, _, z⟩ := q
    exact False.elim z
  | cont =>
    obtain ⟨_, _, _, z⟩ := q
    exact False.elim z
theorem ended_ret (he : PE X e te) : Ended X [.Return (some e) pos] (fun R σ H => te σ H fun v H' => R σ v H') := by
  refine ⟨fun pins s σ H R I h => wpAny_execs_cons ?_⟩
  exact wpAny_Return_some (thn (he.run pins s σ H _ I h) fun v s1 ⟨x, H1, I1, r1, q1⟩ => ⟨x, σ, H1, I1, r1, q1⟩)
end
/-- a def whose code object is known -/
structure FunC (K : PySem.W.Frag) (x qual : Str) (st : Stmt) (f : Addr) (fd : FuncData) (c : Addr) : Prop where
  ex : ∃ (oc : Value) (od : Option Addr) (kV doc pm : Value) (an : Option Addr) (ct : Value) (osl : Array (Option Value)), fd = PySem.W.fnOf x qual (defArgs st) (defBody st) (defScope st) .none kV doc pm an (.ref c) ct ∧
    K.lookup f = some ⟨oc, od, .func fd, osl⟩ ∧ PySem.W.codeIn K (.ref c) qual = true
section
variable {P : Program} {w : World} {K : PySem.W.Frag} {mg : Str → Option Value} {base : Heap} {x qual : Str} {st : Stmt} {f c : Addr} {fd : FuncData} {N ps : List Str} {k : Nat} {sp : Sp} {js : List Nat}
theorem FunC.run (F : FunC K x qual st f fd c) (S : FnScope N ps (defScope st)) {A : Around} {outer : List Env} {s : Shared} {H : Hp} {args : Args} {us : List Value} {vs : List V} {R : Result → Shared → Prop}
    (hr : Room (k + 1) A) (e0 : Env0 P w K mg base A outer s H) (hb : BindsTo s fd args (ps.zip us)) (rv : Vals vs us) (hl : vs.length = ps.length)
    (body : ∀ s1, L2.Inv (cxOf CX0 P w K mg base N qual (defScope st) f (.ref c) A outer s H (fun _ _ _ => False)).nox [] (L2.start N vs) H s1 →
      codeAny (model P w) A (.func (defBody st) (envOfC qual (defScope st) s.heap.objs.size f (.ref c))) R s1) : codeAny (model P w) A (.call (.ref f) args) R s := by
  obtain ⟨oc, od, kV, doc, pm, an, ct, osl, rfl, inK, hcd⟩ := F.ex
  have KX : K.In s.heap := e0.mod.kin.keeps fun b o e =>
    (e0.bs b o e).1
  have lims : s.heap.NoLimit := e0.mod.nolimit.keeps fun b o e =>
    (e0.bs b o e).1
  refine codeAny_call_function hr.depth (KX _ _ inK) rfl S.co S.gen rfl (PySem.W.codeRec_of KX hcd) (hb _ _ _ _ ?_)
  refine wpAny_newFunctionEnv_cells S.kind (fun y hy => ?_) fun env he s1 call => ?_
  · rcases S.par y.1 (List.of_mem_zip (show (y.1, y.2) ∈ ps.zip us from hy)).1 with q | q
    · exact .inl q
    · exact .inr ⟨q, PySem.W.cellsFrom_some _ _ _ (.inl q)⟩
  · subst he
    exact ⟨lims.keeps call.toInCall.keep, body s1 ((inv_start (CX := CX0) (E := fun _ _ _ => False) S hr.hd e0 hl rv call).wish _)⟩
theorem FunC.okG (F : FunC K x qual st f fd c) (S : FnScope N ps (defScope st)) (size : ∀ vs H Q E, sp vs H Q E → vs.length = ps.length)
    (body : ∀ (A : Around) (outer : List Env) (s : Shared) (H : Hp) (vs : List V) (Q : VK) (E : XK), A.guards = some [] → Room k (A.deeper (envOfC qual (defScope st) s.heap.objs.size f (.ref c))) → sp vs H Q E →
      ∃ t, PSs (cxOf CX0 P w K mg base N qual (defScope st) f (.ref c) A outer s H (fun _ _ _ => False)).nox (defBody st) t ∧ t { nx := fun _ H' => Q .non H', rt := Q } (L2.start N vs) H) :
    FnOkG P w K mg base (k + 1) f fd ps sp := by
  refine ⟨size, fun A outer s H args us vs Q E hgu hr e0 hb rv hsp => ?_⟩
  have lenV := size _ _ _ _ hsp
  obtain ⟨t, ht, hq⟩ := body A outer s H vs Q E hgu (hr.deeper _) hsp
  refine F.run S hr e0 hb rv lenV fun s1 I0 => codeAny_func ?_
  refine wpAny_mono (ht.run [] s1 (L2.start N vs) H _ I0 hq) (fun fl s' ends => ?_) fun e s' ends => ends.elim
  match fl, ends with
  | .ret u, ⟨v, σ', H', J, rel, q⟩ => exact ⟨v, H', J.os, J.bare, J.base, J.hok, rel, q⟩
  | .next, ⟨σ', H', J, q⟩ => exact ⟨.non, H', J.os, J.bare, J.base, J.hok, rfl, q⟩
  | .brk, ⟨_, _, _, q⟩ => exact q.elim
  | .cont, ⟨_, _, _, q⟩ => exact q.elim
theorem FunC.okC (F : FunC K x qual st f fd c) (S : FnScope N ps (defScope st)) (size : ∀ vs H Q E, sp vs H Q E → vs.length = ps.length) (hjs : js.Nodup)
    (hcell : ∀ j ∈ js, ∃ y, N[j]? = some y ∧ (defScope st).names.lookup y = some .cell)
    (body : ∀ (A : Around) (outer : List Env) (s : Shared) (H : Hp) (vs : List V) (Q : VK) (E : XK), A.guards = some [] → Room k (A.deeper (envOfC qual (defScope st) s.heap.objs.size f (.ref c))) → sp vs H Q E →
      ∃ t, Ended (cxOf CX0 P w K mg base N qual (defScope st) f (.ref c) A outer s H (fun _ _ _ => False)).nox (defBody st) t ∧
        t (fun σ v H' => (∀ j ∈ js, ∃ v, σ[j]? = some (some v)) ∧ ∀ l, KeptC (cxOf CX0 P w K mg base N qual (defScope st) f (.ref c) A outer s H (fun _ _ _ => False)).nox σ js l → (l.map (·.1)).Nodup → (∀ p ∈ l, H p.1 = none ∧ H' p.1 = none) →
          (∀ x y d, (cxOf CX0 P w K mg base N qual (defScope st) f (.ref c) A outer s H (fun _ _ _ => False)).nox.env.cells.lookup x = some d → (cxOf CX0 P w K mg base N qual (defScope st) f (.ref c) A outer s H (fun _ _ _ => False)).nox.env.cells.lookup y = some d → x = y) → Q v (trackC l H')) (L2.start N vs) H) :
    FnOkG P w K mg base (k + 1) f fd ps sp := by
  refine ⟨size, fun A outer s H args us vs Q E hgu hr e0 hb rv hsp => ?_⟩
  have lenV := size _ _ _ _ hsp
  obtain ⟨t, ht, hq⟩ := body A outer s H vs Q E hgu (hr.deeper _) hsp
  refine F.run S hr e0 hb rv lenV fun s1 I0 => codeAny_func ?_
  refine wpAny_mono (ht.run [] s1 (L2.start N vs) H _ I0 hq) (fun fl s' ends => ?_) fun e s' ends => ends.elim
  cases fl with
  | next => exact ends.elim
  | brk => exact ends.elim
  | cont => exact ends.elim
  | ret u =>
    obtain ⟨v, σ', H', J, rel, hv, q⟩ := ends
    obtain ⟨l, kl, hl⟩ := kept_ex J fun j hj => by
      obtain ⟨y, e1, e2⟩ := hcell j hj
      obtain ⟨v', e3⟩ := hv j hj
      exact ⟨y, v', e1, e2, e3⟩
    have nd := kept_nodup J.ok S.nd hjs kl
    have up : ∀ p ∈ l, s.heap.objs.size ≤ p.1 ∧ H' p.1 = none := fun p hp => by
      obtain ⟨j, _, y, _, e2, _⟩ := kept_in kl p hp
      exact ⟨J.ok.cab y p.1 rfl e2, J.freeC y p.1 e2⟩
    have old : ∀ {b : Addr} {o : Obj}, s.heap.get? b = some o → trackC l H' b = H' b := fun {b o} e => trackC_out fun p hp z => by
      have h1 := (up p hp).1
      rw [z] at h1
      exact Nat.lt_irrefl _ (Nat.lt_of_lt_of_le (Heap.lt_size e) h1)
    have kn : ∀ {b : Addr} {u : HO}, H' b = some u → trackC l H' b = some u := fun {b u} e => by
      rw [trackC_out fun p hp z => by
        have h1 := (up p hp).2
        rw [z, e] at h1
        cases h1]
      exact e
    have un := J.base
    refine ⟨v, trackC l H', J.os, J.bare, ⟨un.keep, un.slot, fun b o e n x => ?_, un.there, fun b xs e => kn (un.tups b xs e), fun b o u e => kn (un.frzs b o u e), fun b ps e => ?_⟩, hok_track J.hok (fun p hp => ⟨hl p hp, (up p hp).2⟩) nd, rel,
      q l kl nd (fun p hp => ⟨e0.hok.fresh (up p hp).1, (up p hp).2⟩) J.ok.inj⟩
    · rw [old e]
      exact un.free b o e n x
    · obtain ⟨more, z⟩ := un.tbls b ps e
      exact ⟨more, kn z⟩
end
/-! ### a call with a lambda over a cell of the running def: the cell is told while the call runs -/
def tCallLive (X : Cx) (y : Str) (j : Nat) (sp : Sp) (t : TA) : TE := fun σ H Q => t σ H fun vs H1 => (∃ v, σ[j]? = some (some v)) ∧ ∀ (c : Addr) (o : Obj) (v : V) (u : Value), X.env.cells.lookup y = some c → σ[j]? = some (some v) → RelV v u → o.data = .cell (some u) → H1 c = none →
  sp vs (upd H1 c (CellX c o)) (fun v' H' => H' c = some (CellX c o) ∧ Q v' (hideC [c] H')) fun _ _ _ => False
section
variable {X : Cx} {f : Addr} {fd : FuncData} {ps : List Str} {sp : Sp} {k j : Nat} {x y : Str} {p pos : Pos} {e : Expr} {es : List Expr} {t : TA}
theorem pe_callLive (F : FnOkG X.prog X.w X.K X.mg X.base k f fd ps sp) (hgu : X.A.guards = some []) (hr : Room k X.A) (hg : Gl X x)
    (hm : X.mg x = some (.ref f)) (hk : PySem.W.keepIn X.K (.ref f) = true) (hb : Binds X.K fd ps []) (hfn : X.fn y = true) (hN : X.N[j]? = some y) (hc : X.env.scope.names.lookup y = some .cell)
    (ha : PA X (e :: es) t) (hdb : (x == ("__debug__" : Str)) = false := by decide)
    (he : starEach (e :: es) X.env = (false, eval e X.env) :: starEach es X.env := by rfl)
    (hpl : (backTo pos (starEach es X.env)).any (·.1) = false := by rfl) :
    PE X (.Call (.Name x p) (e :: es) [] pos) (tCallLive X y j sp t) := by
  refine ⟨fun pins s σ H Q I h => wpAny_Call_Name_kw (ld_glob I hg hm ?_ hdb)⟩
  refine PySem.W.callWith_K (h₀ := X.base) I.ok.mod.kin hk
    (thn (ha.run pos pins s σ H _ I h) fun us s1 ⟨vs, H1, I1, rv, ⟨v, ev⟩, q⟩ => ⟨I1.kIn, ?_⟩) he hpl
  obtain ⟨c, hcl⟩ := I1.ok.has y (.inl hc)
  obtain ⟨m, hn, hl⟩ := I1.loc
  obtain ⟨u, ru, lk⟩ := hl j y v hN ev (.inr (.inl hc))
  obtain ⟨o, ho, hd⟩ : ∃ o, s1.heap.get? c = some o ∧ o.data = .cell (some u) := by
    rcases lk with ⟨z, _⟩ | ⟨_, c', e', o, ho, hd⟩
    · have z' : X.env.scope.names.lookup y = some .local := z
      rw [hc] at z'
      cases z'
    · rw [hcl] at e'
      cases e'
      exact ⟨o, ho, hd⟩
  have nc := I1.freeC y c hcl
  have q := q c o v u hcl ev ru hd nc
  have e0 := I1.env0
  have nfr : ∀ b ∈ frs X.stack, b ≠ c := fun b hb z => by
    subst z
    rcases List.mem_cons.mp (I1.stkSub b hb) with z | z
    · exact I1.cne y b hcl z
    · obtain ⟨_, o', ho', _⟩ := I1.ok.funs.mem z
      exact Nat.lt_irrefl _ (Nat.lt_of_lt_of_le (Heap.lt_size ho') (I1.ok.cab y b hfn hcl))
  have eP : Env0 X.prog X.w X.K X.mg X.base X.A X.stack s1 (upd H1 c (CellX c o)) := by
    refine ⟨e0.frames, e0.mod, fun b ob eb => ⟨(e0.bs b ob eb).1, ?_⟩, e0.bsz, e0.funs, fun b hb => ?_, I1.hok.laidN (fun _ _ e => e) nc (cellX_ok ho), e0.bare⟩
    · rw [upd_ne fun z => ?_]
      · exact (e0.bs b ob eb).2
      · subst z
        exact Nat.lt_irrefl _ (Nat.lt_of_lt_of_le (Heap.lt_size eb) (Nat.le_trans I1.ok.bsz (I1.ok.cab y b hfn hcl)))
    · rw [upd_ne (nfr b hb)]
      exact e0.frf b hb
  have lenU : us.length = ps.length := by
    rw [← rv.length]
    exact F.size _ _ _ _ q
  have bind := hb s1 us I1.kIn (by simpa using lenU)
  rw [List.append_nil] at bind
  refine wpAny_call (codeAny_mono (F.runs X.A X.stack s1 _ ⟨us, []⟩ us vs _ _ hgu hr eP bind rv q) fun r s' ends => ?_)
  match r, ends with
  | .error e, ends => exact ends.elim
  | .ok .next, ends => exact ends.elim
  | .ok .brk, ends => exact ends.elim
  | .ok .cont, ends => exact ends.elim
  | .ok (.ret u'), ends =>
    obtain ⟨v', H', os, bare, un, hok, r', hc', q'⟩ := ends
    have oc : s'.heap.get? c = some o := cellX_at hok hc'
    have out : ∀ {b : Addr} {u : HO}, H1 b = some u → b ∉ [c] := fun {b u} e z => by
      rw [List.mem_singleton.mp z, nc] at e
      cases e
    have neq : ∀ {b : Addr} {u : HO}, H1 b = some u → b ≠ c := fun {b u} e => ne_of_none e nc
    refine I1.after ⟨v', hideC [c] H', os, bare, ⟨fun b ob eb n hf hx => ?_, fun b ob eb n hf hx => ?_, fun b ob eb n hx => ?_, fun b ob eb hx => un.there b ob eb hx, fun b xs eb => ?_, fun b ob u eb => ?_, fun b ps eb => ?_⟩, fun a oa ea => ?_, r', q'⟩
    · by_cases hbc : b = c
      · subst hbc
        rw [ho] at eb
        cases eb
        exact oc
      · exact un.keep b ob eb (by rw [upd_ne hbc]; exact n) hf hx
    · exact un.slot b ob eb (by rw [upd_ne (nfr b hf)]; exact n) hf hx
    · by_cases hbc : b = c
      · exact hideC_in (by rw [hbc]; exact List.mem_singleton_self c)
      · rw [hideC_out (fun z => hbc (List.mem_singleton.mp z))]
        exact un.free b ob eb (by rw [upd_ne hbc]; exact n) hx
    · rw [hideC_out (out eb)]
      exact un.tups b xs (by rw [upd_ne (neq eb)]; exact eb)
    · rw [hideC_out (out eb)]
      exact un.frzs b ob u (by rw [upd_ne (neq eb)]; exact eb)
    · rw [hideC_out (out eb)]
      exact un.tbls b ps (by rw [upd_ne (neq eb)]; exact eb)
    · have C1 : Cells [c] H' := fun b hb => by
        rw [List.mem_singleton.mp hb]
        exact ⟨o, _, hc', hd⟩
      exact hok_hide C1 hok a oa ea
end
end Fv
set_option Elab.async false
set_option linter.all false
set_option maxRecDepth 100000
set_option maxHeartbeats 4000000
namespace Fv
open PySem PySem.Spec PyProof.Rows L2 LamX
/-! ### the head of a law that makes lambdas: the tables of the code objects in cs are tracked -/
section
variable {P : Program} {w : World} {K : PySem.W.Frag} {mg mb : Str → Option Value} {k : Nat} {fa a : Addr} {cs : List (Addr × Addr)}
  {fd : FuncData} {x : Str} {sp : Sp} {s : Shared} {vs : List Value} {ns : List Int}
theorem call_fromT (H : Hp) (KX : K.In s.heap) (hns : s.heap.Ns mainGlobals mg) (hb : s.heap.Ns builtinsNs mb)
    (hbb : ∀ x : Str, x ≠ "__name__" → mb x = bootBuiltins x) (hlim : s.heap.NoLimit) (hg : s.gens = #[])
    (tabs : ∀ q ∈ cs, PySem.W.CodeHd s.heap q.1 q.2 ∧ s.heap.get? q.2 = some { cls := .none, data := .fields #[] }) (notT : ∀ q ∈ cs, K.lookup q.2 = none)
    (blt : ∃ (bm : Addr) (ob : Obj), mg "__builtins__" = some (.ref bm) ∧ bm ≠ builtinsNs ∧ s.heap.get? bm = some ob ∧ ob.cls = .type "module" ∧ ob.dict = some builtinsNs ∧ ob.data = .plain)
    (ha : s.heap.get? a = some { cls := .type "list", data := .seq vs.toArray }) (hr : Room k callerA)
    (F : ∀ base : Heap, K.In base → base.Ns mainGlobals mg → (∀ q ∈ cs, TabB base mg q.1 q.2) → FnOkG P w K mg base k fa fd [x] sp)
    (hbind : ∀ (s : Shared) (u : Value), BindsTo s fd ⟨[u], []⟩ [(x, u)]) (hok : HOk P w H s.heap)
    (isT : ∀ q ∈ cs, H q.2 = some (.tbl #[])) (shape : ∀ b, H b = none ∨ (∃ q ∈ cs, q.2 = b) ∨ ∃ o xs, H b = some (.frz o (.lst xs)))
    (one : ∀ b, H b ≠ none → b = a ∨ ∃ q ∈ cs, q.2 = b) (notK : H a ≠ none → K.lookup a = none)
    (hsp : sp [.ref a] H (fun v _ => v = .bl true) fun _ _ _ => False) :
    codeAny (model P w) callerA (.call (.ref fa) ⟨[.ref a], []⟩) (LawEnds s) s := by
  have stays : ∀ {b : Addr} {o : Obj}, s.heap.get? b = some o → (∀ its n, o.data ≠ .seq its n) → o.data ≠ .fields #[] → (hidT s.heap H).get? b = some o := fun {b o} e n1 n2 => by
    refine hidT_get e (Classical.byContradiction fun z => ?_)
    cases one b z with
    | inl eb =>
      rw [eb, ha] at e
      cases e
      exact n1 _ _ rfl
    | inr q =>
      obtain ⟨q, hq, eb⟩ := q
      rw [← eb, (tabs q hq).2] at e
      cases e
      exact n2 rfl
  have dicts : ∀ {b : Addr} {m : Str → Option Value}, s.heap.Ns b m → (hidT s.heap H).Ns b m := fun {b m} n => by
    obtain ⟨o, es, ep, e, d, r⟩ := n
    refine ⟨o, es, ep, stays e (fun its n z => ?_) (fun z => ?_), d, r⟩ <;> rw [d] at z <;> cases z
  have inK : K.In (hidT s.heap H) := fun b o e => hidT_get (KX b o e) (Classical.byContradiction fun z => by
    cases one b z with
    | inl eb =>
      subst eb
      rw [notK z] at e
      cases e
    | inr q =>
      obtain ⟨q, hq, eb⟩ := q
      rw [← eb, notT q hq] at e
      cases e)
  have hM : Mod K mg (hidT s.heap H) := by
    obtain ⟨mc, h1, h2⟩ := hlim
    exact ⟨inK, dicts hns, ⟨mb, dicts hb, hbb⟩, ⟨mc, dicts h1, h2⟩⟩
  have TB : ∀ q ∈ cs, TabB (hidT s.heap H) mg q.1 q.2 := fun q hq => by
    obtain ⟨hc, ht⟩ := tabs q hq
    have apart : ∀ {b : Addr} {o : Obj}, s.heap.get? b = some o → o.data ≠ .fields #[] → b ≠ q.2 := fun {b o} e n z => by
      rw [z, ht] at e
      cases e
      exact n rfl
    obtain ⟨og, eg, epg, hog, dg, _⟩ := id hns
    refine ⟨?_, ?_, (apart hog fun z => by rw [dg] at z; cases z)⟩
    · obtain ⟨o, us, file, tf, flags, tg, inF, text, tt, e1, r1, r2, r3, r⟩ := hc
      refine ⟨o, us, file, tf, flags, tg, inF, text, tt, stays e1 (fun its n z => ?_) (fun z => ?_), r1, r2, r3, r⟩
      · rw [r2] at z
        cases z
      · rw [r2] at z
        cases z
        cases r3
    · obtain ⟨bm, ob, b1, b2, b3, b4, b5, b6⟩ := blt
      have nf : ob.data ≠ .fields #[] := fun z => by rw [b6] at z; cases z
      refine ⟨bm, ob, b1, b2, fun z => ?_, apart b3 nf, stays b3 (fun its n z => by rw [b6] at z; cases z) nf, b4, b5, b6⟩
      rw [z, hog] at b3
      cases b3
      rw [dg] at b6
      cases b6
  have e0 : Env0 P w K mg (hidT s.heap H) callerA [] s H := by
    refine ⟨rfl, hM, fun b o e => of_hidT e, Nat.le_of_eq (hidT_size _ _), trivial, fun b hb => ?_, hok, .of_eq hg⟩
    cases (show b ∈ ([] : List Addr) from hb)
  have run := (F _ inK (dicts hns) TB).runs callerA [] s H ⟨[.ref a], []⟩ [.ref a] [.ref a] _ _ rfl hr e0 (hbind s (.ref a)) (.cons rfl .nil) hsp
  refine codeAny_mono run fun r s' ends => ?_
  match r, ends with
  | .error e, ends => exact ends.elim
  | .ok .next, ends => exact ends.elim
  | .ok .brk, ends => exact ends.elim
  | .ok .cont, ends => exact ends.elim
  | .ok (.ret u), ⟨v, H', os, bare, un, hok', rel, ev⟩ =>
    have ev : v = .bl true := ev
    subst ev
    have eu : u = Value.bool true := rel
    subst eu
    have key : ∀ b o, s.heap.get? b = some o → s'.heap.get? b = some o ∨ ∃ q ∈ cs, q.2 = b := fun b o e => by
      rcases shape b with z | z | ⟨ob, xs, z⟩
      · refine .inl (un.keep b o e z (fun h => ?_) (by simp))
        cases (show b ∈ ([] : List Addr) from h)
      · exact .inr z
      · have was := (hok b _ z).1
        have is := (hok' b _ (un.frzs b ob _ z)).1
        rw [e] at was
        cases was
        exact .inl is
    have grown : ∀ q ∈ cs, ∃ more : Array Value, s'.heap.get? q.2 = some { cls := .none, data := .fields more } := fun q hq => by
      obtain ⟨more, z⟩ := un.tbls q.2 #[] (isT q hq)
      exact ⟨_, hok' q.2 _ z⟩
    refine ⟨rfl, ⟨fun b o e => ?_, fun b o e => ?_⟩, os, bare⟩
    · rcases key b o e with z | ⟨q, hq, rfl⟩
      · exact .inl z
      · obtain ⟨hc, ht⟩ := tabs q hq
        obtain ⟨more, hm⟩ := grown q hq
        rw [ht] at e
        cases e
        exact .inr (.inl ⟨(hc.tab ht).isCodeTable, rfl, #[], more, rfl, by rw [Array.empty_append]; exact hm⟩)
    · rcases key b o e with z | ⟨q, hq, rfl⟩
      · exact ⟨o, z⟩
      · obtain ⟨more, hm⟩ := grown q hq
        exact ⟨_, hm⟩
theorem law_callTG (KX : K.In s.heap) (hns : s.heap.Ns mainGlobals mg) (hb : s.heap.Ns builtinsNs mb)
    (hbb : ∀ x : Str, x ≠ "__name__" → mb x = bootBuiltins x) (hlim : s.heap.NoLimit) (hg : s.gens = #[])
    (tabs : ∀ q ∈ cs, PySem.W.CodeHd s.heap q.1 q.2 ∧ s.heap.get? q.2 = some { cls := .none, data := .fields #[] }) (notT : ∀ q ∈ cs, K.lookup q.2 = none)
    (blt : ∃ (bm : Addr) (ob : Obj), mg "__builtins__" = some (.ref bm) ∧ bm ≠ builtinsNs ∧ s.heap.get? bm = some ob ∧ ob.cls = .type "module" ∧ ob.dict = some builtinsNs ∧ ob.data = .plain)
    (ha : s.heap.get? a = some { cls := .type "list", data := .seq vs.toArray }) (hi : IntsAre vs ns) (hl : ns.length ≤ sizeLine) (hr : Room k callerA)
    (F : ∀ base : Heap, K.In base → base.Ns mainGlobals mg → (∀ q ∈ cs, TabB base mg q.1 q.2) → FnOkG P w K mg base k fa fd [x] sp)
    (hbind : ∀ (s : Shared) (u : Value), BindsTo s fd ⟨[u], []⟩ [(x, u)])
    (hsp : ∀ H : Hp, (∀ q ∈ cs, H q.2 = some (.tbl #[])) → SqL K H a (ns.map V.int) → sp [.ref a] H (fun v _ => v = .bl true) fun _ _ _ => False) :
    codeAny (model P w) callerA (.call (.ref fa) ⟨[.ref a], []⟩) (LawEnds s) s := by
  classical
  have rv := vals_ints hi
  have lenV := hi.length
  have aT : ¬ ∃ q ∈ cs, q.2 = a := fun ⟨q, hq, e⟩ => by
    have z := (tabs q hq).2
    rw [e, ha] at z
    cases (show Data.seq vs.toArray _ = Data.fields #[] from congrArg Obj.data (Option.some.inj z))
  let tb : Hp := fun b => if (∃ q ∈ cs, q.2 = b) then some (.tbl #[]) else none
  have tbT : ∀ q ∈ cs, tb q.2 = some (.tbl #[]) := fun q hq => if_pos ⟨q, hq, rfl⟩
  have tbO : ∀ {b u}, tb b = some u → (∃ q ∈ cs, q.2 = b) ∧ u = .tbl #[] := fun {b u} z => by
    by_cases hb : ∃ q ∈ cs, q.2 = b
    · refine ⟨hb, ?_⟩
      have z := (if_pos hb).symm.trans z
      exact (Option.some.inj z).symm
    · have z := (if_neg hb).symm.trans z
      cases z
  have tbN : ∀ {b}, ¬ (∃ q ∈ cs, q.2 = b) → tb b = none := fun {b} h => if_neg h
  have tbOk : ∀ {b}, (∃ q ∈ cs, q.2 = b) → s.heap.get? b = some { cls := .none, data := .fields #[] } := fun {b} ⟨q, hq, e⟩ => by
    rw [← e]
    exact (tabs q hq).2
  by_cases hk : K.lookup a = none
  · let H : Hp := upd tb a (.frz { cls := .type "list", data := .seq vs.toArray } (.lst (ns.map V.int)))
    have Ha : H a = some (.frz { cls := .type "list", data := .seq vs.toArray } (.lst (ns.map V.int))) := upd_same
    have Hn : ∀ {b}, b ≠ a → H b = tb b := fun h => upd_ne h
    have HT : ∀ q ∈ cs, H q.2 = some (.tbl #[]) := fun q hq => by
      rw [Hn fun z => aT ⟨q, hq, z⟩]
      exact tbT q hq
    refine call_fromT H KX hns hb hbb hlim hg tabs notT blt ha hr F hbind (fun b u z => ?_) HT (fun b => ?_) (fun b z => ?_) (fun _ => hk) (hsp H HT (.inl (.inr ⟨_, Ha⟩)))
    · by_cases e : b = a
      · subst e
        rw [Ha] at z
        cases z
        exact ⟨ha, by rw [List.length_map]; exact hl, vs, _, rv, ha⟩
      · rw [Hn e] at z
        obtain ⟨h1, rfl⟩ := tbO z
        exact tbOk h1
    · by_cases e : b = a
      · subst e
        exact .inr (.inr ⟨_, _, Ha⟩)
      · by_cases hb : ∃ q ∈ cs, q.2 = b
        · exact .inr (.inl hb)
        · exact .inl ((Hn e).trans (tbN hb))
    · by_cases e : b = a
      · exact .inl e
      · by_cases hb : ∃ q ∈ cs, q.2 = b
        · exact .inr hb
        · exact absurd ((Hn e).trans (tbN hb)) z
  · obtain ⟨o, ho⟩ := Option.ne_none_iff_exists'.mp hk
    have same := KX a o ho
    rw [ha] at same
    cases same
    refine call_fromT tb KX hns hb hbb hlim hg tabs notT blt ha hr F hbind (fun b u z => ?_) tbT (fun b => ?_) (fun b z => ?_) (fun z => absurd (tbN aT) z) (hsp tb tbT (.inr ⟨_, vs.toArray, _, ho, rfl, rfl, rfl, ?_, by simpa using rv⟩))
    · obtain ⟨h1, rfl⟩ := tbO z
      exact tbOk h1
    · by_cases hb : ∃ q ∈ cs, q.2 = b
      · exact .inr (.inl hb)
      · exact .inl (tbN hb)
    · by_cases hb : ∃ q ∈ cs, q.2 = b
      · exact .inr hb
      · exact absurd (tbN hb) z
    · rw [List.size_toArray, lenV]
      exact hl
end
/-- the goal that the head leaves, from the law's promise; xs: the defs that make lambdas -/
theorem walk_TG {l : PySem.W.OpenLaw} {n k : Nat} {q : Program} {loose : List Str} {XP : (Str → Option Value) → Heap → Prop}
    {YP : World → Heap → Prop} {d : DefRec} {K : Params → PySem.W.Frag} {sp : List (Addr × Addr) → PySem.W.Frag → Sp} {x : Str}
    (hn : l.most = some n) (hn2 : n ≤ sizeLine) (hdf : d.params.defaults = []) (hr : Room k callerA) (hY : ∀ (w : World) (h : Heap), YP w h → (K w.params).In h)
    (xs : List Str) (cs : List (Addr × Addr)) (hrec : ∀ x ∈ xs, ((recsOf q).find? fun e => e.name == x).isSome = true)
    (F : ∀ (w : World) (mg : Str → Option Value) (fa : Addr) (h : Heap), (K w.params).In h → h.Ns mainGlobals mg → mg d.name = some (.ref fa) → PySem.W.noTabs (K w.params) = true ∧ (∀ p ∈ cs, ∃ x ∈ xs, PySem.W.tabIn (K w.params) x = some p) ∧ ∃ fd : FuncData,
      (∀ (s : Shared) (u : Value), BindsTo s fd ⟨[u], []⟩ [(x, u)]) ∧ ∀ base : Heap, (K w.params).In base → base.Ns mainGlobals mg → (∀ q ∈ cs, TabB base mg q.1 q.2) → FnOkG l.prog w (K w.params) mg base k fa fd [x] (sp cs (K w.params)))
    (hsp : ∀ (K : PySem.W.Frag) (H : Hp) (a : Addr) (ns : List Int), ns.length ≤ n → (∀ q ∈ cs, H q.2 = some (.tbl #[])) → SqL K H a (ns.map V.int) → sp cs K [.ref a] H (fun v _ => v = .bl true) fun _ _ _ => False) :
    PySem.W.WalkO q loose XP YP l.row.toRowW d [] (fun f vs => PySem.call f vs) := by
  refine Att.attach_call hn hdf fun w s₀ s₁ mg mb fa o pm cd doc a vs ns G Y ho hd hcd hmg hobj hints hlen hg => ?_
  have KX := hY w _ Y
  obtain ⟨nt, hin, fd, hbind, hF⟩ := F w mg fa _ KX G.T.g hmg
  have tabs : ∀ q ∈ cs, PySem.W.CodeHd s₁.heap q.1 q.2 ∧ s₁.heap.get? q.2 = some { cls := .none, data := .fields #[] } := fun p hp => by
    obtain ⟨y, hy, e⟩ := hin p hp
    obtain ⟨r, er⟩ := Option.isSome_iff_exists.mp (hrec y hy)
    exact PySem.W.tab_of G.T KX er e
  refine law_callTG KX G.T.g G.T.b G.T.builtins G.T.nolimit hg tabs (fun p hp => ?_) G.T.bmain hobj hints (Nat.le_trans hlen hn2) hr hF hbind fun H isT sq => hsp _ H a ns hlen isT sq
  cases e : (K w.params).lookup p.2 with
  | none => rfl
  | some ob =>
    have h1 := KX _ _ e
    rw [(tabs p hp).2] at h1
    cases h1
    have h2 := List.all_eq_true.mp nt (p.2, _) (PySem.W.mem_of_lookupK e)
    exact absurd (show false = true from h2) Bool.false_ne_true
end Fv
set_option Elab.async false
set_option linter.all false
set_option maxRecDepth 100000
set_option maxHeartbeats 4000000
namespace Fv
open PySem L2 TL
/-! ### the eight programs -/
def four6 : List Str := ["ab", "abc", "mz", "pqrs"]
def six6 : List Str := ["n", "k", "cells", "mainly", "abcdefgh", "iff"]
abbrev Prg := NV × List PartR × List Row × (Nat × List Tr)
def sgA (sy : Str) (i : Nat) : Str := sgS ((tl sy).getD i 0)
def prog6 (sy a b : Str) (most step goal : Nat) : Nat → Prg
  | 0 => ([(a, most)], [(b, [(1, ["add", a, numS step])], 1, [.node 4 "add" (.pair 0 step) [] []])], [(1, ["while", "not", "at", ">"]), (2, ["right"]), (2, ["do", b]), (2, ["if", a, "=", numS goal]), (3, ["copy"])],
    (5, [.node 6 "while" (.cond false ">" 0 0) [.node 7 "right" .non [] [], .node 8 "do" (.part 4) [] [], .node 9 "if" (.cond true "" 0 goal) [.node 10 "copy" .non [] []] []] []]))
  | 1 => ([(a, 1)], [], [(1, ["while", "not", "at", ">"]), (2, ["right"]), (2, ["if", "at", sgA sy 0]), (3, ["add", a, numS 1]), (2, ["if", a, "=", numS 1]), (3, ["write", "x"])],
    (6, [.node 4 "while" (.cond false ">" 0 0) [.node 5 "right" .non [] [], .node 6 "if" (.cond true (sgA sy 0) 0 0) [.node 7 "add" (.pair 0 1) [] []] [], .node 8 "if" (.cond true "" 0 1) [.node 9 "write" (.letter "x") [] []] []] []]))
  | 2 => ([], [(a, [(1, ["write", "x"])], 1, [.node 3 "write" (.letter "x") [] []]), (b, [(1, ["do", a]), (1, ["write", "y"]), (1, ["do", a])], 3, [.node 5 "do" (.part 3) [] [], .node 6 "write" (.letter "y") [] [], .node 7 "do" (.part 3) [] []])], [(1, ["do", b]), (1, ["right"]), (1, ["do", b])],
    (3, [.node 9 "do" (.part 5) [] [], .node 10 "right" .non [] [], .node 11 "do" (.part 5) [] []]))
  | 3 => ([], [(a, [(1, ["if", "at", sgA sy 1]), (2, ["stop"])], 2, [.node 3 "if" (.cond true (sgA sy 1) 0 0) [.node 4 "stop" .non [] []] []])], [(1, ["while", "not", "at", ">"]), (2, ["right"]), (2, ["do", a]), (2, ["copy"])],
    (4, [.node 6 "while" (.cond false ">" 0 0) [.node 7 "right" .non [] [], .node 8 "do" (.part 3) [] [], .node 9 "copy" .non [] []] []]))
  | 4 => ([(a, 2), (b, 1)], [], [(1, ["while", "not", "at", ">"]), (2, ["right"]), (2, ["if", "at", sgA sy 0]), (3, ["add", a, numS 1]), (2, ["else"]), (3, ["add", b, numS 1]), (2, ["if", a, "=", numS 0]), (3, ["if", "not", b, "=", numS 0]), (4, ["write", "z"])],
    (8, [.node 5 "while" (.cond false ">" 0 0) [.node 6 "right" .non [] [], .node 7 "if" (.cond true (sgA sy 0) 0 0) [.node 8 "add" (.pair 0 1) [] []] [.node 10 "add" (.pair 1 1) [] []], .node 11 "if" (.cond true "" 0 0) [.node 12 "if" (.cond false "" 1 0) [.node 13 "write" (.letter "z") [] []] []] []] []]))
  | 5 => ([(a, 1)], [], [(1, ["while", "not", "at", ">"]), (2, ["right"]), (1, ["left"]), (1, ["if", "at", sgA sy 0]), (2, ["set", a, numS 1]), (1, ["while", "not", "at", "<"]), (2, ["left"]), (1, ["if", a, "=", numS 1]), (2, ["write", "y"]), (1, ["else"]), (2, ["write", "x"])],
    (10, [.node 4 "while" (.cond false ">" 0 0) [.node 5 "right" .non [] []] [], .node 6 "left" .non [] [], .node 7 "if" (.cond true (sgA sy 0) 0 0) [.node 8 "set" (.pair 0 1) [] []] [], .node 9 "while" (.cond false "<" 0 0) [.node 10 "left" .non [] []] [], .node 11 "if" (.cond true "" 0 1) [.node 12 "write" (.letter "y") [] []] [.node 14 "write" (.letter "x") [] []]]))
  | 6 => ([], [], [(1, ["write", "x"]), (1, ["left"]), (1, ["write", "y"])], (3, [.node 3 "write" (.letter "x") [] [], .node 4 "left" .non [] [], .node 5 "write" (.letter "y") [] []]))
  | _ => ([], [], [(1, ["while", "at", (("<" : Str) ++ sy) ++ (">" : Str)]), (2, ["copy"]), (2, ["right"])], (3, [.node 3 "while" (.cond true ((("<" : Str) ++ sy) ++ (">" : Str)) 0 0) [.node 4 "copy" .non [] [], .node 5 "right" .non [] []] []]))
def rows6 (sy : Str) (h : Prg) : List Row := headRows sy h.1 h.2.1 ++ mainRow :: h.2.2.1
theorem four6_ok : ∀ sy ∈ four6, 2 ≤ sy.length ∧ sy.length ≤ 4 ∧ (places sy alpha).Pairwise (· < ·) ∧ (∀ x ∈ places sy alpha, 0 ≤ x) ∧ (∀ c ∈ tl sy, c ∈ tl alpha) := by decide +kernel
theorem at_four6 : ∀ sy ∈ four6, ∀ z ∈ [("<" : Str), ">", (("<" : Str) ++ sy) ++ (">" : Str), sgA sy 0, sgA sy 1], z.length < 60 ∧ (places z (ordOf sy)).Pairwise (· < ·) ∧ ∀ x ∈ places z (ordOf sy), 0 ≤ x := by decide +kernel
theorem six6_ok : ∀ a ∈ six6, a ≠ "not" ∧ PyData.strOk a = true ∧ a.length ≤ 8 ∧ ofLetters a = true ∧ a ∉ reserved := by decide +kernel
section
variable {sy : Str} {ms ss : NV} {d k : Nat}
theorem sR (hd : d ≤ 4) : Stm sy ms ss d k [(d, ["right"])] 1 (.node (k + 1) "right" .non [] []) := .plain d k "right" [] _ .right (by decide +kernel) (by decide +kernel) hd
theorem sL (hd : d ≤ 4) : Stm sy ms ss d k [(d, ["left"])] 1 (.node (k + 1) "left" .non [] []) := .plain d k "left" [] _ .left (by decide +kernel) (by decide +kernel) hd
theorem sCopy (hd : d ≤ 4) : Stm sy ms ss d k [(d, ["copy"])] 1 (.node (k + 1) "copy" .non [] []) := .plain d k "copy" [] _ .copy (by decide +kernel) (by decide +kernel) hd
theorem sStop (hd : d ≤ 4) : Stm sy ms ss d k [(d, ["stop"])] 1 (.node (k + 1) "stop" .non [] []) := .plain d k "stop" [] _ .stop (by decide +kernel) (by decide +kernel) hd
theorem sWr {z : Str} (h1 : z.length = 1) (h2 : ofLetters z = true) (hd : d ≤ 4) : Stm sy ms ss d k [(d, ["write", z])] 1 (.node (k + 1) "write" (.letter z) [] []) := .plain d k "write" [z] _ (.write z h1 h2) (by decide +kernel) (by decide +kernel) hd
theorem sDo {x : Str} {i n : Nat} (h : ss[i]? = some (x, n)) (hd : d ≤ 4) : Stm sy ms ss d k [(d, ["do", x])] 1 (.node (k + 1) "do" (.part n) [] []) := .plain d k "do" [x] _ (.do_ x i n h) (by decide +kernel) (by decide +kernel) hd
theorem sAdd {c : Str} {i v most : Nat} (h : ms[i]? = some (c, most)) (h1 : 1 ≤ v) (h2 : v ≤ 2) (hd : d ≤ 4) : Stm sy ms ss d k [(d, ["add", c, numS v])] 1 (.node (k + 1) "add" (.pair i v) [] []) := .plain d k "add" [c, numS v] _ (.add c i v most h h1 h2) (by decide +kernel) (by decide +kernel) hd
theorem sSet {c : Str} {i v most : Nat} (h : ms[i]? = some (c, most)) (h1 : v ≤ most) (h2 : most ≤ 2) (hd : d ≤ 4) : Stm sy ms ss d k [(d, ["set", c, numS v])] 1 (.node (k + 1) "set" (.pair i v) [] []) := .plain d k "set" [c, numS v] _ (.set c i v most h h1 h2) (by decide +kernel) (by decide +kernel) hd
theorem cAt {z : Str} (h : z.length < 60 ∧ (places z (ordOf sy)).Pairwise (· < ·) ∧ ∀ x ∈ places z (ordOf sy), 0 ≤ x) : CondOk sy ms ["at", z] true z 0 0 := .inl ⟨rfl, .at_ z h.1 ⟨h.2.1, h.2.2⟩⟩
theorem cNat {z : Str} (h : z.length < 60 ∧ (places z (ordOf sy)).Pairwise (· < ·) ∧ ∀ x ∈ places z (ordOf sy), 0 ≤ x) : CondOk sy ms ["not", "at", z] false z 0 0 := .inr ⟨rfl, _, rfl, .at_ z h.1 ⟨h.2.1, h.2.2⟩⟩
theorem cEq {c : Str} {i v most : Nat} (h : ms[i]? = some (c, most)) (h1 : v ≤ most) (h2 : most ≤ 2) (n : c ∈ six6) : CondOk sy ms [c, "=", numS v] true "" i v := .inl ⟨rfl, .eq c i v most h h1 h2 (six6_ok c n).1 (six6_ok c n).2.1⟩
theorem cNe {c : Str} {i v most : Nat} (h : ms[i]? = some (c, most)) (h1 : v ≤ most) (h2 : most ≤ 2) (n : c ∈ six6) : CondOk sy ms ["not", c, "=", numS v] false "" i v := .inr ⟨rfl, _, rfl, .eq c i v most h h1 h2 (six6_ok c n).1 (six6_ok c n).2.1⟩
end
abbrev eight : List Nat := [0, 1, 2, 3, 4, 5, 6, 7]
theorem main6 {sy a b : Str} (h : sy ∈ four6) (ha : a ∈ six6) (hb : b ∈ six6) {most step goal : Nat} (hm : 1 ≤ most ∧ most ≤ 2) (hs : 1 ≤ step ∧ step ≤ 2) (hg : goal ≤ most) : ∀ j ∈ eight,
    Bod sy (prog6 sy a b most step goal j).1 (startsOf (prog6 sy a b most step goal j).1 (prog6 sy a b most step goal j).2.1) 1 ((prefRows sy (prog6 sy a b most step goal j).1 (prog6 sy a b most step goal j).2.1).length + 1) (prog6 sy a b most step goal j).2.2.1 (prog6 sy a b most step goal j).2.2.2.1 (prog6 sy a b most step goal j).2.2.2.2 := by
  have hL := at_four6 sy h "<" (by simp)
  have hG := at_four6 sy h ">" (by simp)
  have hA := at_four6 sy h ((("<" : Str) ++ sy) ++ (">" : Str)) (by simp)
  have h0 := at_four6 sy h (sgA sy 0) (by simp)
  have h1 := at_four6 sy h (sgA sy 1) (by simp)
  have wx : ("x" : Str).length = 1 ∧ ofLetters "x" = true := by decide +kernel
  have wy : ("y" : Str).length = 1 ∧ ofLetters "y" = true := by decide +kernel
  have wz : ("z" : Str).length = 1 ∧ ofLetters "z" = true := by decide +kernel
  intro j hj
  simp only [eight, List.mem_cons, List.not_mem_nil, or_false] at hj
  rcases hj with rfl | rfl | rfl | rfl | rfl | rfl | rfl | rfl
  · exact .one _ _ _ _ _ (.loop 1 5 _ _ _ 4 _ (.while_ _ _ _ _ _ (cNat hG)) (by decide) (.more 2 6 [(2, ["right"])] _ 1 3 _ _ (sR (by decide)) (.more 2 7 [(2, ["do", b])] _ 1 2 _ _ (sDo (i := 0) rfl (by decide)) (.one _ _ _ _ _ (.cond 2 8 _ _ _ 1 _ (.if_ _ _ _ _ _ (cEq (i := 0) (most := most) rfl hg hm.2 ha)) (by decide) (.one _ _ _ _ _ (sCopy (by decide))))))))
  · exact .one _ _ _ _ _ (.loop 1 3 _ _ _ 5 _ (.while_ _ _ _ _ _ (cNat hG)) (by decide) (.more 2 4 [(2, ["right"])] _ 1 4 _ _ (sR (by decide)) (.more 2 5 [(2, ["if", "at", sgA sy 0]), (3, ["add", a, numS 1])] _ 2 2 _ _ (.cond 2 5 _ _ _ 1 _ (.if_ _ _ _ _ _ (cAt h0)) (by decide) (.one _ _ _ _ _ (sAdd (i := 0) (most := 1) rfl (by decide) (by decide) (by decide)))) (.one _ _ _ _ _ (.cond 2 7 _ _ _ 1 _ (.if_ _ _ _ _ _ (cEq (i := 0) (most := 1) rfl (by decide) (by decide) ha)) (by decide) (.one _ _ _ _ _ (sWr wx.1 wx.2 (by decide))))))))
  · exact .more 1 8 [(1, ["do", b])] _ 1 2 _ _ (sDo (i := 1) rfl (by decide)) (.more 1 9 [(1, ["right"])] _ 1 1 _ _ (sR (by decide)) (.one _ _ _ _ _ (sDo (i := 1) rfl (by decide))))
  · exact .one _ _ _ _ _ (.loop 1 5 _ _ _ 3 _ (.while_ _ _ _ _ _ (cNat hG)) (by decide) (.more 2 6 [(2, ["right"])] _ 1 2 _ _ (sR (by decide)) (.more 2 7 [(2, ["do", a])] _ 1 1 _ _ (sDo (i := 0) rfl (by decide)) (.one _ _ _ _ _ (sCopy (by decide))))))
  · exact .one _ _ _ _ _ (.loop 1 4 _ _ _ 7 _ (.while_ _ _ _ _ _ (cNat hG)) (by decide) (.more 2 5 [(2, ["right"])] _ 1 6 _ _ (sR (by decide)) (.more 2 6 [(2, ["if", "at", sgA sy 0]), (3, ["add", a, numS 1]), (2, ["else"]), (3, ["add", b, numS 1])] _ 3 3 _ _ (.both 2 6 _ _ [(3, ["add", a, numS 1])] [(3, ["add", b, numS 1])] 1 1 _ _ (.if_ _ _ _ _ _ (cAt h0)) (by decide) (.one _ _ _ _ _ (sAdd (i := 0) (most := 2) rfl (by decide) (by decide) (by decide))) (.one _ _ _ _ _ (sAdd (i := 1) (most := 1) rfl (by decide) (by decide) (by decide))))
      (.one _ _ _ _ _ (.cond 2 10 _ _ _ 2 _ (.if_ _ _ _ _ _ (cEq (i := 0) (most := 2) rfl (by decide) (by decide) ha)) (by decide) (.one _ _ _ _ _ (.cond 3 11 _ _ _ 1 _ (.if_ _ _ _ _ _ (cNe (i := 1) (most := 1) rfl (by decide) (by decide) hb)) (by decide) (.one _ _ _ _ _ (sWr wz.1 wz.2 (by decide))))))))))
  · exact .more 1 3 [(1, ["while", "not", "at", ">"]), (2, ["right"])] _ 2 8 _ _ (.loop 1 3 _ _ _ 1 _ (.while_ _ _ _ _ _ (cNat hG)) (by decide) (.one _ _ _ _ _ (sR (by decide)))) (.more 1 5 [(1, ["left"])] _ 1 7 _ _ (sL (by decide)) (.more 1 6 [(1, ["if", "at", sgA sy 0]), (2, ["set", a, numS 1])] _ 2 5 _ _ (.cond 1 6 _ _ _ 1 _ (.if_ _ _ _ _ _ (cAt h0)) (by decide) (.one _ _ _ _ _ (sSet (i := 0) (most := 1) rfl (by decide) (by decide) (by decide))))
      (.more 1 8 [(1, ["while", "not", "at", "<"]), (2, ["left"])] _ 2 3 _ _ (.loop 1 8 _ _ _ 1 _ (.while_ _ _ _ _ _ (cNat hL)) (by decide) (.one _ _ _ _ _ (sL (by decide)))) (.one _ _ _ _ _ (.both 1 10 _ _ [(2, ["write", "y"])] [(2, ["write", "x"])] 1 1 _ _ (.if_ _ _ _ _ _ (cEq (i := 0) (most := 1) rfl (by decide) (by decide) ha)) (by decide) (.one _ _ _ _ _ (sWr wy.1 wy.2 (by decide))) (.one _ _ _ _ _ (sWr wx.1 wx.2 (by decide))))))))
  · exact .more 1 2 [(1, ["write", "x"])] _ 1 2 _ _ (sWr wx.1 wx.2 (by decide)) (.more 1 3 [(1, ["left"])] _ 1 1 _ _ (sL (by decide)) (.one _ _ _ _ _ (sWr wy.1 wy.2 (by decide))))
  · exact .one _ _ _ _ _ (.loop 1 2 _ _ _ 2 _ (.while_ _ _ _ _ _ (cAt hA)) (by decide) (.more 2 3 [(2, ["copy"])] _ 1 1 _ _ (sCopy (by decide)) (.one _ _ _ _ _ (sR (by decide)))))
end Fv
set_option Elab.async false
set_option linter.all false
set_option maxRecDepth 100000
set_option maxHeartbeats 4000000
namespace Fv
open PySem L2 TL
/-! ### a path of steps -/
section
variable {tab : List (Nat × Nd)} {mosts signs rel : List Nat}
def Walks (tab : List (Nat × Nd)) (mosts signs : List Nat) (c : Cf) (outs : List (Str × Nat)) (c' : Cf) : Prop := ∃ k, ∀ n o, runsN tab mosts signs n c' = some o → runsN tab mosts signs (n + k) c = some (outs ++ o)
theorem Walks.refl {c : Cf} : Walks tab mosts signs c [] c := ⟨0, fun _ _ h => h⟩
theorem Walks.trans {c c' c'' : Cf} {o o' : List (Str × Nat)} (h : Walks tab mosts signs c o c') (k : Walks tab mosts signs c' o' c'') : Walks tab mosts signs c (o ++ o') c'' := by
  obtain ⟨a, h⟩ := h
  obtain ⟨b, k⟩ := k
  refine ⟨b + a, fun n x e => ?_⟩
  rw [← Nat.add_assoc, List.append_assoc]
  exact h _ _ (k n x e)
theorem Walks.step {c : Cf} {r : Cf × Str} (hne : c.1.1 ≠ []) (h : nextC tab mosts signs c = some r) : Walks tab mosts signs c (if r.2 = "" then [] else [(r.2, c.2)]) r.1 := by
  refine ⟨1, fun n o e => ?_⟩
  show runsN tab mosts signs (n + 1) c = _
  unfold runsN
  rw [if_neg hne, h, Option.bind_some, e, Option.map_some]
  by_cases z : r.2 = ""
  · rw [if_pos z, if_pos z]
    rfl
  · rw [if_neg z, if_neg z]
    rfl
/-- steps on a stretch of the page, up to a stop -/
def walkB (tab : List (Nat × Nd)) (mosts rel : List Nat) (stop : List Nat → Bool) : Nat → Cf → Option (List (Str × Nat) × Cf)
  | 0, _ => none
  | n + 1, c => if c.1.1 = [] then none else (nextC tab mosts rel c).bind fun r => if stop r.1.1.1 then some ((if r.2 = "" then [] else [(r.2, c.2)]), r.1) else
      (walkB tab mosts rel stop n r.1).map fun q => ((if r.2 = "" then [] else [(r.2, c.2)]) ++ q.1, q.2)
theorem next_shift {i : Nat} (hs : ∀ p g, rel[p]? = some g → signs[i + p]? = some g) {c : Cf} {r : Cf × Str} (h : nextC tab mosts rel c = some r) : nextC tab mosts signs (c.1, i + c.2) = some ((r.1.1, i + r.1.2), r.2) := by
  unfold nextC at h ⊢
  dsimp only
  by_cases hg : c.1.1.length ≤ 10 ∧ c.1.2.length ≤ 10
  · rw [if_pos hg] at h ⊢
    obtain ⟨g, hgs, h1⟩ := Option.bind_eq_some_iff.mp h
    rw [hs _ _ hgs, Option.bind_some]
    by_cases hok : PyData.strOk (sgS g) = true
    · rw [if_pos hok] at h1 ⊢
      obtain ⟨st, hst, h1⟩ := Option.bind_eq_some_iff.mp h1
      rw [hst, Option.bind_some]
      by_cases hp : 0 ≤ (c.2 : Int) + st.2.1 ∧ st.2.2.length ≤ 10
      · rw [if_pos hp] at h1
        cases Option.some.inj h1
        rw [if_pos ⟨by have := hp.1; omega, hp.2⟩]
        have e : (((i + c.2 : Nat) : Int) + st.2.1).toNat = i + ((c.2 : Int) + st.2.1).toNat := by have := hp.1; omega
        rw [e]
      · rw [if_neg hp] at h1
        cases h1
    · rw [if_neg hok] at h1
      cases h1
  · rw [if_neg hg] at h
    cases h
theorem walkB_on {stop : List Nat → Bool} {i : Nat} (hs : ∀ p g, rel[p]? = some g → signs[i + p]? = some g) : ∀ {n : Nat} {c : Cf} {o : List (Str × Nat)} {c' : Cf}, walkB tab mosts rel stop n c = some (o, c') → Walks tab mosts signs (c.1, i + c.2) (o.map fun x => (x.1, i + x.2)) (c'.1, i + c'.2)
  | 0, _, _, _, h => by cases h
  | n + 1, c, o, c', h => by
    unfold walkB at h
    by_cases e : c.1.1 = []
    · rw [if_pos e] at h
      cases h
    · rw [if_neg e] at h
      obtain ⟨r, h1, h2⟩ := Option.bind_eq_some_iff.mp h
      have w1 := Walks.step (c := (c.1, i + c.2)) e (next_shift hs h1)
      have em : (if r.2 = "" then [] else [(r.2, i + c.2)]) = (if r.2 = "" then [] else [(r.2, c.2)]).map fun x : Str × Nat => (x.1, i + x.2) := by split <;> rfl
      have w1 : Walks tab mosts signs (c.1, i + c.2) ((if r.2 = "" then [] else [(r.2, c.2)]).map fun x : Str × Nat => (x.1, i + x.2)) (r.1.1, i + r.1.2) := em ▸ w1
      by_cases hst : stop r.1.1.1 = true
      · rw [if_pos hst] at h2
        cases Option.some.inj h2
        exact w1
      · rw [if_neg hst] at h2
        obtain ⟨q, h3, h4⟩ := Option.map_eq_some_iff.mp h2
        cases h4
        rw [List.map_append]
        exact w1.trans (walkB_on hs h3)
/-- a run that ends is told whole -/
theorem run_ends {m : Nat} {c : Cf} {outs : List (Str × Nat)} {cs : List Nat} {p : Nat} {r : Res} (h : Walks tab mosts signs c outs (([], cs), p)) (k : runL tab mosts signs m [] [] c = some r) : r = .done outs := by
  obtain ⟨b, h⟩ := h
  have h := h 0 [] rfl
  rw [List.append_nil] at h
  have gen : ∀ (m n : Nat) (seen : List Cf) (out outs : List (Str × Nat)) (c : Cf) (r : Res), runsN tab mosts signs n c = some outs → (∀ s ∈ seen, ∃ n' o', n < n' ∧ runsN tab mosts signs n' s = some o') → runL tab mosts signs m seen out c = some r → r = .done (out ++ outs) := by
    intro m
    induction m with
    | zero => intro n seen out outs c r _ _ k; cases k
    | succ m ih =>
      intro n seen out outs c r h hs k
      unfold runL at k
      by_cases e : c.1.1 = []
      · rw [if_pos e] at k
        cases n with
        | zero =>
          unfold runsN at h
          rw [if_pos e] at h
          cases h
          rw [List.append_nil]
          exact (Option.some.inj k).symm
        | succ n =>
          unfold runsN at h
          rw [if_pos e] at h
          cases h
      · rw [if_neg e] at k
        by_cases hm : c ∈ seen
        · obtain ⟨n', o', hn, h'⟩ := hs c hm
          have := runs_uniq h h'
          omega
        · rw [if_neg hm] at k
          cases n with
          | zero =>
            unfold runsN at h
            rw [if_neg e] at h
            cases h
          | succ n =>
            have h0 := h
            unfold runsN at h
            rw [if_neg e] at h
            obtain ⟨q, h1, h2⟩ := Option.bind_eq_some_iff.mp h
            obtain ⟨o1, h3, h4⟩ := Option.map_eq_some_iff.mp h2
            rw [h1, Option.bind_some] at k
            have z := ih n _ _ o1 q.1 r h3 (fun s hs' => by
              rcases List.mem_append.mp hs' with hs' | hs'
              · obtain ⟨n', o', hn, h'⟩ := hs s hs'
                exact ⟨n', o', by omega, h'⟩
              · rw [List.mem_singleton.mp hs']
                exact ⟨n + 1, _, by omega, h0⟩) k
            rw [z, ← h4]
            congr 1
            by_cases y : q.2 = ""
            · rw [if_pos y, if_pos y]
            · rw [if_neg y, if_neg y, List.append_assoc]
              rfl
  have z := gen m _ [] [] outs c r h (fun s hs => by cases hs) k
  exact z
/-! ### what is picked, turn by turn -/
def picks {α : Type} (f : Nat → Option α) : Nat → List α
  | 0 => []
  | n + 1 => picks f n ++ (f n).toList
theorem picks_congr {α : Type} {f g : Nat → Option α} : ∀ n, (∀ i, i < n → f i = g i) → picks f n = picks g n
  | 0, _ => rfl
  | n + 1, h => by
    show picks f n ++ _ = picks g n ++ _
    rw [picks_congr n fun i hi => h i (by omega), h n (by omega)]
theorem picks_none {α : Type} {f : Nat → Option α} : ∀ {n m : Nat}, (∀ i, n ≤ i → i < m → f i = none) → n ≤ m → picks f m = picks f n
  | n, 0, _, h => by rw [Nat.le_zero.mp h]
  | n, m + 1, h, hl => by
    by_cases e : n = m + 1
    · rw [e]
    · show picks f m ++ _ = _
      rw [h m (by omega) (by omega), picks_none (n := n) (m := m) (fun i a b => h i a (by omega)) (by omega)]
      exact List.append_nil _
/-- a scan to the right -/
theorem scan {h h2 : List Nat} {st : Nat → List Nat} {f : Nat → Option (Str × Nat)} {m : Nat} (hA : ∀ i, i < m → Walks tab mosts signs ((h, st i), i) [] ((h2, st i), i + 1)) (hB : ∀ i, i < m → Walks tab mosts signs ((h2, st i), i + 1) (f i).toList ((h, st (i + 1)), i + 1)) :
    ∀ i, i ≤ m → Walks tab mosts signs ((h, st 0), 0) (picks f i) ((h, st i), i)
  | 0, _ => .refl
  | i + 1, hi => (scan hA hB i (by omega)).trans ((hA i hi).trans (hB i hi))
theorem rel1 {g i : Nat} (h : signs[i]? = some g) : ∀ p x, [g][p]? = some x → signs[i + p]? = some x := fun p x e => by
  cases p with
  | zero => cases e; exact h
  | succ p => cases e
end
end Fv
set_option Elab.async false
set_option linter.all false
set_option maxRecDepth 100000
set_option maxHeartbeats 4000000
namespace Fv
open PySem L2 TL
/-! ### turns of the eight programs -/
def tab6 (sy : Str) (step goal : Nat) (j : Nat) : List (Nat × Nd) := tabOf (prog6 sy "n" "k" 0 step goal j).2.1 (prog6 sy "n" "k" 0 step goal j).2.2.2
def all6 : List Nat := [97, 98, 99, 109, 122, 112, 113, 114, 115]
def s6 (sy : Str) (i : Nat) : Nat := (tl sy).getD i 0
theorem in_all6 : ∀ sy ∈ four6, ∀ g ∈ tl sy, g ∈ all6 := by decide +kernel
theorem not_mark : ∀ g ∈ all6, g ≠ 60 ∧ g ≠ 62 := by decide +kernel
theorem all6_ok : ∀ g ∈ all6, PyData.strOk (sgS g) = true := by decide +kernel
def stopAt (h : List Nat) (c : List Nat) : Bool := decide (c = h) || decide (c = [])
theorem t0a : ∀ step ∈ [1, 2], ∀ goal ∈ [0, 1, 2], ∀ x ∈ [0, 1, 2], ∀ g ∈ 60 :: all6, ∀ most ∈ [1, 2], walkB (tab6 "ab" step goal 0) [most] [g] (stopAt [8]) 20 (([6], [x]), 0) = some ([], (([8], [x]), 1)) := by decide +kernel
theorem t0b : ∀ step ∈ [1, 2], ∀ goal ∈ [0, 1, 2], ∀ x ∈ [0, 1, 2], ∀ g ∈ 62 :: all6, ∀ most ∈ [1, 2], walkB (tab6 "ab" step goal 0) [most] [g] (stopAt [6]) 20 (([8], [x]), 0) = some (if (x + step) % (most + 1) = goal ∧ g ≠ 62 then [(sgS g, 0)] else [], (([6], [(x + step) % (most + 1)]), 0)) := by decide +kernel
theorem t0c : ∀ step ∈ [1, 2], ∀ goal ∈ [0, 1, 2], ∀ x ∈ [0, 1, 2], ∀ most ∈ [1, 2], walkB (tab6 "ab" step goal 0) [most] [62] (stopAt [6]) 20 (([6], [x]), 0) = some ([], (([], [x]), 0)) := by decide +kernel
theorem t1a : ∀ sy ∈ four6, ∀ x ∈ [0, 1], ∀ g ∈ 60 :: tl sy, walkB (tab6 sy 1 1 1) [1] [g] (stopAt [6]) 20 (([4], [x]), 0) = some ([], (([6], [x]), 1)) := by decide +kernel
theorem t1b : ∀ sy ∈ four6, ∀ x ∈ [0, 1], ∀ g ∈ 62 :: tl sy, walkB (tab6 sy 1 1 1) [1] [g] (stopAt [4]) 20 (([6], [x]), 0) = some (if (if g = s6 sy 0 then (x + 1) % 2 else x) = 1 then [(("x" : Str), 0)] else [], (([4], [if g = s6 sy 0 then (x + 1) % 2 else x]), 0)) := by decide +kernel
theorem t1c : ∀ sy ∈ four6, ∀ x ∈ [0, 1], walkB (tab6 sy 1 1 1) [1] [62] (stopAt [4]) 20 (([4], [x]), 0) = some ([], (([], [x]), 0)) := by decide +kernel
theorem t2 : ∀ g ∈ 62 :: all6, walkB (tab6 "ab" 1 1 2) [] [60, g] (stopAt []) 30 (([9], []), 0) = some ([(("x" : Str), 0), ("y", 0), ("x", 0), ("x", 1), ("y", 1), ("x", 1)], (([], []), 1)) := by decide +kernel
theorem t3a : ∀ sy ∈ four6, ∀ g ∈ 60 :: tl sy, walkB (tab6 sy 1 1 3) [] [g] (stopAt [8]) 20 (([6], []), 0) = some ([], (([8], []), 1)) := by decide +kernel
theorem t3b : ∀ sy ∈ four6, ∀ g ∈ 62 :: tl sy, walkB (tab6 sy 1 1 3) [] [g] (stopAt [6]) 20 (([8], []), 0) = some (if g = s6 sy 1 ∨ g = 62 then [] else [(sgS g, 0)], ((if g = s6 sy 1 then [] else [6], []), 0)) := by decide +kernel
theorem t3c : ∀ sy ∈ four6, walkB (tab6 sy 1 1 3) [] [62] (stopAt [6]) 20 (([6], []), 0) = some ([], (([], []), 0)) := by decide +kernel
theorem t4a : ∀ sy ∈ four6, ∀ x ∈ [0, 1, 2], ∀ y ∈ [0, 1], ∀ g ∈ 60 :: tl sy, walkB (tab6 sy 1 1 4) [2, 1] [g] (stopAt [7]) 20 (([5], [x, y]), 0) = some ([], (([7], [x, y]), 1)) := by decide +kernel
def st4 (s g x y : Nat) : List Nat := if g = s then [(x + 1) % 3, y] else [x, (y + 1) % 2]
theorem t4b : ∀ sy ∈ four6, ∀ x ∈ [0, 1, 2], ∀ y ∈ [0, 1], ∀ g ∈ 62 :: tl sy, walkB (tab6 sy 1 1 4) [2, 1] [g] (stopAt [5]) 20 (([7], [x, y]), 0) = some (if st4 (s6 sy 0) g x y = [0, 1] then [(("z" : Str), 0)] else [], (([5], st4 (s6 sy 0) g x y), 0)) := by decide +kernel
theorem t4c : ∀ sy ∈ four6, ∀ x ∈ [0, 1, 2], ∀ y ∈ [0, 1], walkB (tab6 sy 1 1 4) [2, 1] [62] (stopAt [5]) 20 (([5], [x, y]), 0) = some ([], (([], [x, y]), 0)) := by decide +kernel
theorem t5a : ∀ sy ∈ four6, ∀ g ∈ 60 :: tl sy, walkB (tab6 sy 1 1 5) [1] [g] (stopAt [4]) 20 (([4], [0]), 0) = some ([], (([4], [0]), 1)) := by decide +kernel
theorem t5c : ∀ sy ∈ four6, ∀ g ∈ 60 :: tl sy, walkB (tab6 sy 1 1 5) [1] [g, 62] (stopAt [9]) 20 (([4], [0]), 1) = some ([], (([9], [if g = s6 sy 0 then 1 else 0]), 0)) := by decide +kernel
theorem t5d : ∀ sy ∈ four6, ∀ x ∈ [0, 1], ∀ g ∈ 60 :: tl sy, ∀ k ∈ tl sy, walkB (tab6 sy 1 1 5) [1] [g, k] (stopAt [9]) 20 (([9], [x]), 1) = some ([], (([9], [x]), 0)) := by decide +kernel
theorem t5e : ∀ sy ∈ four6, ∀ x ∈ [0, 1], walkB (tab6 sy 1 1 5) [1] [60] (stopAt [9]) 20 (([9], [x]), 0) = some ([(if x = 1 then ("y" : Str) else "x", 0)], (([], [x]), 0)) := by decide +kernel
theorem t6 : walkB (tab6 "ab" 1 1 6) [] [60] (stopAt []) 30 (([3], []), 0) = some ([(("x" : Str), 0)], (([], []), 0)) := by decide +kernel
theorem t7a : ∀ sy ∈ four6, ∀ g ∈ 60 :: tl sy, walkB (tab6 sy 1 1 7) [] [g] (stopAt [3]) 20 (([3], []), 0) = some (if g = 60 then [] else [(sgS g, 0)], (([3], []), 1)) := by decide +kernel
theorem t7c : ∀ sy ∈ four6, walkB (tab6 sy 1 1 7) [] [62] (stopAt [3]) 20 (([3], []), 0) = some ([], (([], []), 0)) := by decide +kernel
end Fv
set_option Elab.async false
set_option linter.all false
set_option maxRecDepth 100000
set_option maxHeartbeats 4000000
namespace Fv
open PySem L2 TL
/-! ### the runs of the eight programs -/
def f60 (most step goal : Nat) (l : List Nat) (i : Nat) : Option (Str × Nat) := if (step * (i + 1)) % (most + 1) = goal then some (sgS (l.getD i 0), i + 1) else none
def f61 (s : Nat) (l : List Nat) (i : Nat) : Option (Str × Nat) := if (l.take (i + 1)).count s % 2 = 1 then some ("x", i + 1) else none
def f63 (s : Nat) (l : List Nat) (i : Nat) : Option (Str × Nat) := if s ∉ l.take (i + 1) then some (sgS (l.getD i 0), i + 1) else none
def f64 (s : Nat) (l : List Nat) (i : Nat) : Option (Str × Nat) := if (l.take (i + 1)).count s % 3 = 0 ∧ (i + 1 - (l.take (i + 1)).count s) % 2 = 1 then some ("z", i + 1) else none
def f67 (l : List Nat) (i : Nat) : Option (Str × Nat) := some (sgS (l.getD i 0), i + 1)
def told6 (sy : Str) (most step goal : Nat) (l : List Nat) : Nat → List (Str × Nat)
  | 0 => picks (f60 most step goal l) l.length
  | 1 => picks (f61 (s6 sy 0) l) (l.length + 1)
  | 2 => [("x", 0), ("y", 0), ("x", 0), ("x", 1), ("y", 1), ("x", 1)]
  | 3 => picks (f63 (s6 sy 1) l) l.length
  | 4 => picks (f64 (s6 sy 0) (l ++ [62])) (l.length + 1)
  | 5 => [(if l.getLast? = some (s6 sy 0) then "y" else "x", 0)]
  | 6 => [("x", 0)]
  | _ => picks (f67 l) l.length
section
variable {tab : List (Nat × Nd)} {mosts l : List Nat}
theorem sig_at {i : Nat} (h : i ≤ l.length) : ∃ g, (60 :: (l ++ [62]))[i]? = some g ∧ g ∈ 60 :: l := by
  cases i with
  | zero => exact ⟨60, rfl, .head _⟩
  | succ i =>
    refine ⟨l[i]'(by omega), ?_, .tail _ (List.getElem_mem _)⟩
    rw [List.getElem?_cons_succ, List.getElem?_append_left (by omega)]
    exact List.getElem?_eq_getElem _
theorem let_at {i : Nat} (h : i < l.length) : (60 :: (l ++ [62]))[i + 1]? = some (l.getD i 0) ∧ l.getD i 0 ∈ l := by
  have e : l.getD i 0 = l[i] := by rw [List.getD_eq_getElem?_getD, List.getElem?_eq_getElem h]; rfl
  rw [e]
  refine ⟨?_, List.getElem_mem _⟩
  rw [List.getElem?_cons_succ, List.getElem?_append_left h]
  exact List.getElem?_eq_getElem _
theorem end_at : (60 :: (l ++ [62]))[l.length + 1]? = some 62 := by
  rw [List.getElem?_cons_succ, List.getElem?_append_right (Nat.le_refl _), Nat.sub_self]
  rfl
theorem turn {stop : List Nat → Bool} {n i g d : Nat} {h c h' c' : List Nat} {o : List (Str × Nat)} (hg : (60 :: (l ++ [62]))[i]? = some g) (t : walkB tab mosts [g] stop n ((h, c), 0) = some (o, ((h', c'), d))) : Walks tab mosts (60 :: (l ++ [62])) ((h, c), i) (o.map fun x => (x.1, i + x.2)) ((h', c'), i + d) :=
  walkB_on (i := i) (rel1 hg) t
theorem Walks.of {c c' : Cf} {signs : List Nat} {o o' : List (Str × Nat)} (w : Walks tab mosts signs c o c') (e : o = o') : Walks tab mosts signs c o' c' := e ▸ w
theorem scan1 {signs : List Nat} {h : List Nat} {st : Nat → List Nat} {f : Nat → Option (Str × Nat)} {m : Nat} (hA : ∀ i, i < m → Walks tab mosts signs ((h, st i), i) (f i).toList ((h, st (i + 1)), i + 1)) :
    ∀ i, i ≤ m → Walks tab mosts signs ((h, st 0), 0) (picks f i) ((h, st i), i)
  | 0, _ => .refl
  | i + 1, hi => (scan1 hA i (by omega)).trans (hA i hi)
theorem turn0 {stop : List Nat → Bool} {n i g d : Nat} {h c h' c' : List Nat} (hg : (60 :: (l ++ [62]))[i]? = some g) (t : walkB tab mosts [g] stop n ((h, c), 0) = some ([], ((h', c'), d))) : Walks tab mosts (60 :: (l ++ [62])) ((h, c), i) [] ((h', c'), i + d) := turn hg t
theorem take_cnt {s i : Nat} {L : List Nat} (h : i < L.length) : (L.take (i + 1)).count s = (L.take i).count s + if L.getD i 0 = s then 1 else 0 := by
  have e : L.getD i 0 = L[i] := by rw [List.getD_eq_getElem?_getD, List.getElem?_eq_getElem h]; rfl
  rw [e, List.take_succ, List.getElem?_eq_getElem h, List.count_append]
  congr 1
  show List.count s [L[i]] = _
  rw [List.count_singleton]
  by_cases z : L[i] = s
  · rw [if_pos z, z]
    simp
  · rw [if_neg z]
    simp [z]
theorem last_getD {i : Nat} (h : i < l.length) : (l ++ [62]).getD i 0 = l.getD i 0 := by
  rw [List.getD_eq_getElem?_getD, List.getD_eq_getElem?_getD, List.getElem?_append_left h]
theorem last_end : (l ++ [62]).getD l.length 0 = 62 := by
  rw [List.getD_eq_getElem?_getD, List.getElem?_append_right (Nat.le_refl _), Nat.sub_self]
  rfl
theorem at_any {i : Nat} (h : i ≤ l.length) : (60 :: (l ++ [62]))[i + 1]? = some ((l ++ [62]).getD i 0) ∧ (l ++ [62]).getD i 0 ∈ 62 :: l := by
  by_cases z : i < l.length
  · obtain ⟨a, b⟩ := let_at z
    rw [last_getD z]
    exact ⟨a, .tail _ b⟩
  · have : i = l.length := by omega
    subst this
    rw [last_end]
    exact ⟨end_at, .head _⟩
end
section
variable {sy : Str} {l : List Nat}
/-- its end -/
def Ends6 (tab : List (Nat × Nd)) (mosts l : List Nat) (c : Cf) (outs : List (Str × Nat)) : Prop := ∃ cs p, Walks tab mosts (60 :: (l ++ [62])) c outs (([], cs), p)
theorem two_of {x : Nat} (h : x < 2) : x ∈ [0, 1] := by
  have : x = 0 ∨ x = 1 := by omega
  simpa using this
theorem three_of {x : Nat} (h : x < 3) : x ∈ [0, 1, 2] := by
  have : x = 0 ∨ x = 1 ∨ x = 2 := by omega
  simpa using this
theorem e60 {most step goal : Nat} (hm : most ∈ [1, 2]) (hs : step ∈ [1, 2]) (hg : goal ∈ [0, 1, 2]) (hl : ∀ g ∈ l, g ∈ all6) : Ends6 (tab6 "ab" step goal 0) [most] l (([6], [0]), 0) (picks (f60 most step goal l) l.length) := by
  have lt : ∀ i, (step * i) % (most + 1) ∈ [0, 1, 2] := fun i => three_of (by
    have h1 : most + 1 ≤ 3 := by
      have : most = 1 ∨ most = 2 := by simpa using hm
      omega
    exact Nat.lt_of_lt_of_le (Nat.mod_lt _ (Nat.succ_pos _)) h1)
  have hA : ∀ i, i < l.length + 1 → Walks (tab6 "ab" step goal 0) [most] (60 :: (l ++ [62])) (([6], [(step * i) % (most + 1)]), i) [] (([8], [(step * i) % (most + 1)]), i + 1) := fun i hi => by
    obtain ⟨g, h1, h2⟩ := sig_at (l := l) (show i ≤ l.length by omega)
    exact turn0 h1 (t0a step hs goal hg _ (lt i) g (by
      rcases List.mem_cons.mp h2 with z | z
      · rw [z]; exact .head _
      · exact .tail _ (hl g z)) most hm)
  have nx : ∀ i, (step * (i + 1)) % (most + 1) = ((step * i) % (most + 1) + step) % (most + 1) := fun i => by
    rw [Nat.mul_add, Nat.mul_one, Nat.mod_add_mod]
  have hB : ∀ i, i < l.length + 1 → Walks (tab6 "ab" step goal 0) [most] (60 :: (l ++ [62])) (([8], [(step * i) % (most + 1)]), i + 1) ((fun i => if i < l.length then f60 most step goal l i else none) i).toList (([6], [(step * (i + 1)) % (most + 1)]), i + 1) := fun i hi => by
    obtain ⟨a, b⟩ := at_any (l := l) (i := i) (by omega)
    have t := turn a (t0b step hs goal hg _ (lt i) _ (by
      rcases List.mem_cons.mp b with z | z
      · rw [z]; exact .head _
      · exact .tail _ (hl _ z)) most hm)
    rw [← nx] at t
    refine t.of ?_
    show _ = (if i < l.length then f60 most step goal l i else none).toList
    by_cases z : i < l.length
    · have e1 := (not_mark _ (hl _ (let_at z).2)).2
      unfold f60
      rw [if_pos z, last_getD z]
      by_cases y : (step * (i + 1)) % (most + 1) = goal
      · rw [if_pos y, if_pos ⟨y, e1⟩]
        rfl
      · rw [if_neg y, if_neg (fun q => y q.1)]
        rfl
    · have : i = l.length := by omega
      subst this
      rw [if_neg z, last_end, if_neg (fun q => q.2 rfl)]
      rfl
  have w := scan (st := fun i => [(step * i) % (most + 1)]) hA hB _ (Nat.le_refl _)
  have e1 := w.trans (turn0 (l := l) end_at (t0c step hs goal hg _ (lt (l.length + 1)) most hm))
  rw [List.append_nil] at e1
  have e2 : picks (fun i => if i < l.length then f60 most step goal l i else none) (l.length + 1) = picks (f60 most step goal l) l.length := by
    rw [picks_none (n := l.length) (fun i a b => if_neg (by omega)) (by omega)]
    exact picks_congr _ fun i hi => if_pos hi
  rw [e2] at e1
  rw [Nat.mul_zero, Nat.zero_mod] at e1
  exact ⟨_, _, e1⟩
theorem cnt_any {s i : Nat} (hs : s ≠ 62) (h : i ≤ l.length) : (l.take (i + 1)).count s = (l.take i).count s + if (l ++ [62]).getD i 0 = s then 1 else 0 := by
  by_cases z : i < l.length
  · rw [take_cnt z, last_getD z]
  · have : i = l.length := by omega
    subst this
    rw [last_end, if_neg (Ne.symm hs), List.take_of_length_le (Nat.le_succ _), List.take_length]
    rfl
theorem s6_in : ∀ sy ∈ four6, s6 sy 0 ∈ tl sy ∧ s6 sy 1 ∈ tl sy := by decide +kernel
theorem s6_ne (h : sy ∈ four6) : (s6 sy 0 ≠ 60 ∧ s6 sy 0 ≠ 62) ∧ s6 sy 1 ≠ 60 ∧ s6 sy 1 ≠ 62 :=
  ⟨not_mark _ (in_all6 sy h _ (s6_in sy h).1), not_mark _ (in_all6 sy h _ (s6_in sy h).2)⟩
theorem up60 {p : Nat} {q : List Nat} (hl : ∀ g ∈ l, g ∈ q) : ∀ g ∈ p :: l, g ∈ p :: q := fun g h => by
  rcases List.mem_cons.mp h with z | z
  · rw [z]; exact .head _
  · exact .tail _ (hl g z)
theorem e61 (hsy : sy ∈ four6) (hl : ∀ g ∈ l, g ∈ tl sy) : Ends6 (tab6 sy 1 1 1) [1] l (([4], [0]), 0) (picks (f61 (s6 sy 0) l) (l.length + 1)) := by
  have lt : ∀ i, (l.take i).count (s6 sy 0) % 2 ∈ [0, 1] := fun i => two_of (Nat.mod_lt _ (by decide))
  have nx : ∀ i, i ≤ l.length → (l.take (i + 1)).count (s6 sy 0) % 2 = if (l ++ [62]).getD i 0 = s6 sy 0 then ((l.take i).count (s6 sy 0) % 2 + 1) % 2 else (l.take i).count (s6 sy 0) % 2 := fun i hi => by
    rw [cnt_any (s6_ne hsy).1.2 hi]
    by_cases z : (l ++ [62]).getD i 0 = s6 sy 0
    · rw [if_pos z, if_pos z, Nat.mod_add_mod]
    · rw [if_neg z, if_neg z, Nat.add_zero]
  have w := scan (tab := tab6 sy 1 1 1) (mosts := [1]) (signs := 60 :: (l ++ [62])) (h := [4]) (h2 := [6]) (st := fun i => [(l.take i).count (s6 sy 0) % 2]) (f := f61 (s6 sy 0) l) (m := l.length + 1) (fun i hi => by
    obtain ⟨g, h1, h2⟩ := sig_at (l := l) (show i ≤ l.length by omega)
    exact turn0 h1 (t1a sy hsy _ (lt i) g (up60 hl g h2))) (fun i hi => by
    obtain ⟨a, b⟩ := at_any (l := l) (i := i) (by omega)
    have t := turn a (t1b sy hsy _ (lt i) _ (up60 hl _ b))
    rw [← nx i (by omega)] at t
    refine t.of ?_
    unfold f61
    by_cases y : (l.take (i + 1)).count (s6 sy 0) % 2 = 1
    · rw [if_pos y, if_pos y]
      rfl
    · rw [if_neg y, if_neg y]
      rfl) _ (Nat.le_refl _)
  have e1 := w.trans (turn0 (l := l) end_at (t1c sy hsy _ (lt (l.length + 1))))
  rw [List.append_nil] at e1
  exact ⟨_, _, e1⟩
theorem e62 (hl : ∀ g ∈ l, g ∈ all6) : Ends6 (tab6 "ab" 1 1 2) [] l (([9], []), 0) [("x", 0), ("y", 0), ("x", 0), ("x", 1), ("y", 1), ("x", 1)] := by
  obtain ⟨a, b⟩ := at_any (l := l) (i := 0) (Nat.zero_le _)
  have t := walkB_on (tab := tab6 "ab" 1 1 2) (mosts := []) (signs := 60 :: (l ++ [62])) (i := 0) (fun p x e => by
    match p, e with
    | 0, e => exact e
    | 1, e => cases e; exact a
    | p + 2, e => cases e) (t2 _ (up60 hl _ b))
  exact ⟨_, _, t⟩
theorem e63 (hsy : sy ∈ four6) (hl : ∀ g ∈ l, g ∈ tl sy) : Ends6 (tab6 sy 1 1 3) [] l (([6], []), 0) (picks (f63 (s6 sy 1) l) l.length) := by
  have w : ∀ m, m ≤ l.length → s6 sy 1 ∉ l.take m → Walks (tab6 sy 1 1 3) [] (60 :: (l ++ [62])) (([6], []), 0) (picks (f63 (s6 sy 1) l) m) (([6], []), m) := fun m hm hn =>
    scan (h := [6]) (h2 := [8]) (st := fun _ => []) (m := m) (fun i hi => by
      obtain ⟨g, h1, h2⟩ := sig_at (l := l) (show i ≤ l.length by omega)
      exact turn0 h1 (t3a sy hsy g (up60 hl g h2))) (fun i hi => by
      have hi2 : i < l.length := by omega
      obtain ⟨a, b⟩ := let_at hi2
      have t := turn a (t3b sy hsy _ (.tail _ (hl _ b)))
      have e : l.getD i 0 = l[i] := by rw [List.getD_eq_getElem?_getD, List.getElem?_eq_getElem hi2]; rfl
      have n1 : s6 sy 1 ∉ l.take (i + 1) := fun z => hn (List.mem_of_mem_take (i := i + 1) (by rw [List.take_take, Nat.min_eq_left (by omega)]; exact z))
      have n2 : l.getD i 0 ≠ s6 sy 1 := fun z => n1 (by
        rw [← z, e]
        exact List.mem_take_iff_getElem.mpr ⟨i, by omega, rfl⟩)
      have n3 : l.getD i 0 ≠ 62 := (not_mark _ (in_all6 sy hsy _ (hl _ b))).2
      rw [if_neg n2] at t
      refine t.of ?_
      unfold f63
      rw [if_pos n1, if_neg (fun z => z.elim n2 n3)]
      rfl) m (Nat.le_refl _)
  by_cases hin : s6 sy 1 ∈ l
  · obtain ⟨as, bs, e, hn⟩ := List.eq_append_cons_of_mem hin
    have hk : as.length < l.length := by rw [e, List.length_append, List.length_cons]; omega
    have tk : l.take as.length = as := by rw [e, List.take_left]
    have w1 := w as.length (Nat.le_of_lt hk) (by rw [tk]; exact hn)
    obtain ⟨g, h1, h2⟩ := sig_at (l := l) (Nat.le_of_lt hk)
    have w2 := turn0 h1 (t3a sy hsy g (up60 hl g h2))
    obtain ⟨a, b⟩ := let_at hk
    have eg : l.getD as.length 0 = s6 sy 1 := by
      rw [List.getD_eq_getElem?_getD, e, List.getElem?_append_right (Nat.le_refl _), Nat.sub_self]
      rfl
    rw [eg] at a b
    have w3 := turn a (t3b sy hsy _ (.tail _ (hl _ b)))
    rw [if_pos (Or.inl rfl), if_pos rfl] at w3
    have w4 := w1.trans (w2.trans w3)
    have e5 : picks (f63 (s6 sy 1) l) l.length = picks (f63 (s6 sy 1) l) as.length := picks_none (fun i h1 h2 => if_neg (fun z => z (by
      refine List.mem_take_iff_getElem.mpr ⟨as.length, by omega, ?_⟩
      have : l.getD as.length 0 = l[as.length] := by rw [List.getD_eq_getElem?_getD, List.getElem?_eq_getElem hk]; rfl
      rw [← this]
      exact eg))) (Nat.le_of_lt hk)
    rw [e5]
    exact ⟨_, _, w4.of (List.append_nil _)⟩
  · have w1 := w l.length (Nat.le_refl _) (by rw [List.take_length]; exact hin)
    obtain ⟨g, h1, h2⟩ := sig_at (l := l) (Nat.le_refl _)
    have w2 := turn0 h1 (t3a sy hsy g (up60 hl g h2))
    have w3 := turn (l := l) end_at (t3b sy hsy _ (.head _))
    rw [if_pos (Or.inr rfl), if_neg (Ne.symm (s6_ne hsy).2.2)] at w3
    exact ⟨_, _, ((w1.trans (w2.trans w3)).trans (turn0 (l := l) end_at (t3c sy hsy))).of (by rw [List.map_nil, List.append_nil, List.append_nil, List.append_nil])⟩
theorem e64 (hsy : sy ∈ four6) (hl : ∀ g ∈ l, g ∈ tl sy) : Ends6 (tab6 sy 1 1 4) [2, 1] l (([5], [0, 0]), 0) (picks (f64 (s6 sy 0) (l ++ [62])) (l.length + 1)) := by
  obtain ⟨L, hL⟩ : ∃ L, L = l ++ [62] := ⟨_, rfl⟩
  have hLl : L.length = l.length + 1 := by rw [hL, List.length_append]; rfl
  have l1 : ∀ i, (L.take i).count (s6 sy 0) % 3 ∈ [0, 1, 2] := fun i => three_of (Nat.mod_lt _ (by decide))
  have l2 : ∀ i, (i - (L.take i).count (s6 sy 0)) % 2 ∈ [0, 1] := fun i => two_of (Nat.mod_lt _ (by decide))
  have le : ∀ i, (L.take i).count (s6 sy 0) ≤ i := fun i => Nat.le_trans List.count_le_length (by rw [List.length_take]; exact Nat.min_le_left _ _)
  have nx : ∀ i, i ≤ l.length → [(L.take (i + 1)).count (s6 sy 0) % 3, (i + 1 - (L.take (i + 1)).count (s6 sy 0)) % 2] = st4 (s6 sy 0) (L.getD i 0) ((L.take i).count (s6 sy 0) % 3) ((i - (L.take i).count (s6 sy 0)) % 2) := fun i hi => by
    have := le i
    rw [take_cnt (by omega)]
    unfold st4
    by_cases z : L.getD i 0 = s6 sy 0
    · rw [if_pos z, if_pos z, Nat.mod_add_mod, show i + 1 - ((L.take i).count (s6 sy 0) + 1) = i - (L.take i).count (s6 sy 0) by omega]
    · rw [if_neg z, if_neg z, Nat.add_zero, Nat.mod_add_mod, show i + 1 - (L.take i).count (s6 sy 0) = i - (L.take i).count (s6 sy 0) + 1 by omega]
  have w := scan (tab := tab6 sy 1 1 4) (mosts := [2, 1]) (signs := 60 :: (l ++ [62])) (h := [5]) (h2 := [7]) (st := fun i => [(L.take i).count (s6 sy 0) % 3, (i - (L.take i).count (s6 sy 0)) % 2]) (f := f64 (s6 sy 0) L) (m := l.length + 1) (fun i hi => by
    obtain ⟨g, h1, h2⟩ := sig_at (l := l) (show i ≤ l.length by omega)
    exact turn0 h1 (t4a sy hsy _ (l1 i) _ (l2 i) g (up60 hl g h2))) (fun i hi => by
    obtain ⟨a, b⟩ := at_any (l := l) (i := i) (by omega)
    have t := turn a (t4b sy hsy _ (l1 i) _ (l2 i) _ (up60 hl _ b))
    have eL : (l ++ [62]).getD i 0 = L.getD i 0 := by rw [hL]
    rw [eL, ← nx i (by omega)] at t
    refine t.of ?_
    unfold f64
    by_cases y : (L.take (i + 1)).count (s6 sy 0) % 3 = 0 ∧ (i + 1 - (L.take (i + 1)).count (s6 sy 0)) % 2 = 1
    · rw [if_pos y, if_pos (by rw [y.1, y.2])]
      rfl
    · rw [if_neg y, if_neg (fun q => y (by injection q with q1 q2; injection q2 with q2; exact ⟨q1, q2⟩))]
      rfl) _ (Nat.le_refl _)
  have e1 := w.trans (turn0 (l := l) end_at (t4c sy hsy _ (l1 (l.length + 1)) _ (l2 (l.length + 1))))
  rw [List.append_nil] at e1
  rw [← hL]
  exact ⟨_, _, e1⟩
theorem e65 (hsy : sy ∈ four6) (hl : ∀ g ∈ l, g ∈ tl sy) : Ends6 (tab6 sy 1 1 5) [1] l (([4], [0]), 0) [(if l.getLast? = some (s6 sy 0) then "y" else "x", 0)] := by
  have w := scan1 (tab := tab6 sy 1 1 5) (mosts := [1]) (signs := 60 :: (l ++ [62])) (h := [4]) (st := fun _ => [0]) (f := fun _ => none) (m := l.length + 1) (fun i hi => by
    obtain ⟨g, h1, h2⟩ := sig_at (l := l) (show i ≤ l.length by omega)
    exact turn0 h1 (t5a sy hsy g (up60 hl g h2))) _ (Nat.le_refl _)
  have pn : picks (fun _ : Nat => (none : Option (Str × Nat))) (l.length + 1) = [] := (picks_none (n := 0) (fun _ _ _ => rfl) (Nat.zero_le _))
  rw [pn] at w
  obtain ⟨g, h1, h2⟩ := sig_at (l := l) (Nat.le_refl _)
  have two : ∀ {i g k : Nat}, (60 :: (l ++ [62]))[i]? = some g → (60 :: (l ++ [62]))[i + 1]? = some k → ∀ p x, [g, k][p]? = some x → (60 :: (l ++ [62]))[i + p]? = some x := fun {i g k} a b p x e => by
    match p, e with
    | 0, e => cases e; exact a
    | 1, e => cases e; exact b
    | p + 2, e => cases e
  have w2 : Walks (tab6 sy 1 1 5) [1] (60 :: (l ++ [62])) (([4], [0]), l.length + 1) [] (([9], [if g = s6 sy 0 then 1 else 0]), l.length) := walkB_on (two h1 end_at) (t5c sy hsy g (up60 hl g h2))
  have hx : (if g = s6 sy 0 then 1 else 0) ∈ [0, 1] := by split <;> simp
  obtain ⟨x, ex⟩ : ∃ x, x = if g = s6 sy 0 then 1 else 0 := ⟨_, rfl⟩
  rw [← ex] at w2 hx
  have back : ∀ i, i ≤ l.length → Walks (tab6 sy 1 1 5) [1] (60 :: (l ++ [62])) (([9], [x]), i) [] (([9], [x]), 0) := by
    intro i
    induction i with
    | zero => intro _; exact .refl
    | succ i ih =>
      intro hi
      obtain ⟨g', a, b⟩ := sig_at (l := l) (show i ≤ l.length by omega)
      obtain ⟨c, d⟩ := let_at (l := l) (i := i) (by omega)
      have t : Walks (tab6 sy 1 1 5) [1] (60 :: (l ++ [62])) (([9], [x]), i + 1) [] (([9], [x]), i) := walkB_on (two a c) (t5d sy hsy x hx g' (up60 hl g' b) _ (hl _ d))
      exact t.trans (ih (by omega))
  have w3 := turn (l := l) (i := 0) rfl (t5e sy hsy x hx)
  have w4 := w.trans (w2.trans ((back _ (Nat.le_refl _)).trans w3))
  have key : g = s6 sy 0 ↔ l.getLast? = some (s6 sy 0) := by
    rw [List.getLast?_eq_getElem?]
    cases hn : l.length with
    | zero =>
      rw [hn] at h1
      cases h1
      refine ⟨fun z => absurd z.symm (s6_ne hsy).1.1, fun z => ?_⟩
      rw [List.eq_nil_of_length_eq_zero hn] at z
      cases z
    | succ n =>
      rw [hn, List.getElem?_cons_succ, List.getElem?_append_left (by omega)] at h1
      rw [Nat.add_sub_cancel, h1]
      exact ⟨fun z => by rw [z], fun z => Option.some.inj z⟩
  refine ⟨_, _, w4.of ?_⟩
  rw [ex]
  by_cases z : g = s6 sy 0
  · rw [if_pos z, if_pos (key.mp z)]
    rfl
  · rw [if_neg z, if_neg (fun q => z (key.mpr q))]
    rfl
theorem e66 : Ends6 (tab6 "ab" 1 1 6) [] l (([3], []), 0) [("x", 0)] := ⟨_, _, turn (l := l) (i := 0) rfl t6⟩
theorem picks_shift {α : Type} {f : Nat → Option α} : ∀ n, picks f (n + 1) = (f 0).toList ++ picks (fun i => f (i + 1)) n
  | 0 => by simp [picks]
  | n + 1 => by
    show picks f (n + 1) ++ _ = _
    rw [picks_shift n, List.append_assoc]
    rfl
theorem e67 (hsy : sy ∈ four6) (hl : ∀ g ∈ l, g ∈ tl sy) : Ends6 (tab6 sy 1 1 7) [] l (([3], []), 0) (picks (f67 l) l.length) := by
  have w := scan1 (tab := tab6 sy 1 1 7) (mosts := []) (signs := 60 :: (l ++ [62])) (h := [3]) (st := fun _ => []) (f := fun i => match i with | 0 => none | i + 1 => f67 l i) (m := l.length + 1) (fun i hi => by
    cases i with
    | zero => exact turn0 (l := l) (i := 0) rfl (t7a sy hsy 60 (.head _))
    | succ i =>
      obtain ⟨a, b⟩ := let_at (l := l) (i := i) (by omega)
      have t := turn a (t7a sy hsy _ (.tail _ (hl _ b)))
      rw [if_neg (not_mark _ (in_all6 sy hsy _ (hl _ b))).1] at t
      exact t) _ (Nat.le_refl _)
  have e1 := w.trans (turn0 (l := l) end_at (t7c sy hsy))
  rw [List.append_nil, picks_shift] at e1
  exact ⟨_, _, e1⟩
end
end Fv
set_option Elab.async false
set_option linter.all false
set_option maxRecDepth 100000
set_option maxHeartbeats 4000000
namespace Fv
open PySem L2 TL
/-! ### their texts -/
def lines6 (sy a b : Str) (most step goal : Nat) : Nat → List Str
  | 0 => [((("cell " : Str) ++ a) ++ (" " : Str)) ++ numS most, ("part " : Str) ++ b, ((("  add " : Str) ++ a) ++ (" " : Str)) ++ numS step, "main", "  while not at >", "    right", ("    do " : Str) ++ b, ((("    if " : Str) ++ a) ++ (" = " : Str)) ++ numS goal, "      copy"]
  | 1 => [(("cell " : Str) ++ a) ++ (" 1" : Str), "main", "  while not at >", "    right", ("    if at " : Str) ++ sgA sy 0, (("      add " : Str) ++ a) ++ (" 1" : Str), (("    if " : Str) ++ a) ++ (" = 1" : Str), "      write x"]
  | 2 => [("part " : Str) ++ a, "  write x", ("part " : Str) ++ b, ("  do " : Str) ++ a, "  write y", ("  do " : Str) ++ a, "main", ("  do " : Str) ++ b, "  right", ("  do " : Str) ++ b]
  | 3 => [("part " : Str) ++ a, ("  if at " : Str) ++ sgA sy 1, "    stop", "main", "  while not at >", "    right", ("    do " : Str) ++ a, "    copy"]
  | 4 => [(("cell " : Str) ++ a) ++ (" 2" : Str), (("cell " : Str) ++ b) ++ (" 1" : Str), "main", "  while not at >", "    right", ("    if at " : Str) ++ sgA sy 0, (("      add " : Str) ++ a) ++ (" 1" : Str), "    else", (("      add " : Str) ++ b) ++ (" 1" : Str), (("    if " : Str) ++ a) ++ (" = 0" : Str), (("      if not " : Str) ++ b) ++ (" = 0" : Str), "        write z"]
  | 5 => [(("cell " : Str) ++ a) ++ (" 1" : Str), "main", "  while not at >", "    right", "  left", ("  if at " : Str) ++ sgA sy 0, (("    set " : Str) ++ a) ++ (" 1" : Str), "  while not at <", "    left", (("  if " : Str) ++ a) ++ (" = 1" : Str), "    write y", "  else", "    write x"]
  | 6 => ["main", "  write x", "  left", "  write y"]
  | _ => ["main", (("  while at <" : Str) ++ sy) ++ (">" : Str), "    copy", "    right"]
def goodRow (r : Row) : Bool := decide (r.2 ≠ []) && r.2.all (fun x => decide (tl x ≠ []) && (decide (32 ∉ tl x) && PyData.strOk x)) && (decide ((lineOf r).length ≤ 60) && decide (10 ∉ tl (lineOf r)))
def textOk6 (sy a b : Str) (most step goal j : Nat) : Bool := decide ((rows6 sy (prog6 sy a b most step goal j)).map lineOf = (("symbols " : Str) ++ sy) :: lines6 sy a b most step goal j) && ((rows6 sy (prog6 sy a b most step goal j)).all goodRow &&
  (decide ((Txt.join nl ((rows6 sy (prog6 sy a b most step goal j)).map lineOf)).length ≤ 10000) && decide ((rows6 sy (prog6 sy a b most step goal j)).length ≤ 20)))
theorem parts6 {sy a b : Str} (h : sy ∈ four6) (ha : a ∈ six6) {most step goal : Nat} (hs : 1 ≤ step ∧ step ≤ 2) : ∀ j ∈ eight, ∀ (done : List PartR) (q : PartR) (rest : List PartR), (prog6 sy a b most step goal j).2.1 = done ++ q :: rest →
    Bod sy (prog6 sy a b most step goal j).1 (startsOf (prog6 sy a b most step goal j).1 done) 1 ((prefRows sy (prog6 sy a b most step goal j).1 done).length + 1) q.2.1 q.2.2.1 q.2.2.2 := by
  have h1 := at_four6 sy h (sgA sy 1) (by simp)
  have wx : ("x" : Str).length = 1 ∧ ofLetters "x" = true := by decide +kernel
  have wy : ("y" : Str).length = 1 ∧ ofLetters "y" = true := by decide +kernel
  intro j hj done q rest e
  simp only [eight, List.mem_cons, List.not_mem_nil, or_false] at hj
  rcases hj with rfl | rfl | rfl | rfl | rfl | rfl | rfl | rfl
  · cases done with
    | nil =>
      cases e
      exact .one _ _ _ _ _ (sAdd (i := 0) (most := most) rfl hs.1 hs.2 (by decide))
    | cons x y =>
      have e2 := (List.cons.inj e).2
      cases y <;> cases e2
  · cases done <;> cases e
  · cases done with
    | nil =>
      cases e
      exact .one _ _ _ _ _ (sWr wx.1 wx.2 (by decide))
    | cons x y =>
      obtain ⟨e1, e2⟩ := List.cons.inj e
      cases y with
      | nil =>
        cases e2
        subst e1
        exact .more 1 4 [(1, ["do", a])] _ 1 2 _ _ (sDo (i := 0) rfl (by decide)) (.more 1 5 [(1, ["write", "y"])] _ 1 1 _ _ (sWr wy.1 wy.2 (by decide)) (.one _ _ _ _ _ (sDo (i := 0) rfl (by decide))))
      | cons z y =>
        have e3 := (List.cons.inj e2).2
        cases y <;> cases e3
  · cases done with
    | nil =>
      cases e
      exact .one _ _ _ _ _ (.cond 1 2 _ _ _ 1 _ (.if_ _ _ _ _ _ (cAt h1)) (by decide) (.one _ _ _ _ _ (sStop (by decide))))
    | cons x y =>
      have e2 := (List.cons.inj e).2
      cases y <;> cases e2
  · cases done <;> cases e
  · cases done <;> cases e
  · cases done <;> cases e
  · cases done <;> cases e
end Fv
set_option Elab.async false
set_option linter.all false
set_option maxRecDepth 100000
set_option maxHeartbeats 4000000
namespace Fv
open PySem L2 TL
/-! ### each line by itself -/
def rowB (r : Row) (z : Str) : Bool := decide (lineOf r = z) && goodRow r
def okRows : List Row → List Str → Bool
  | [], [] => true
  | r :: rs, z :: zs => rowB r z && okRows rs zs
  | _, _ => false
theorem okRows_eq : ∀ {rs : List Row} {zs : List Str}, okRows rs zs = true → rs.map lineOf = zs ∧ rs.all goodRow = true
  | [], [], _ => ⟨rfl, rfl⟩
  | [], _ :: _, h => by cases h
  | _ :: _, [], h => by cases h
  | r :: rs, z :: zs, h => by
    unfold okRows rowB at h
    simp only [Bool.and_eq_true, decide_eq_true_eq] at h
    obtain ⟨⟨h1, h2⟩, h3⟩ := h
    obtain ⟨e1, e2⟩ := okRows_eq h3
    refine ⟨by rw [List.map_cons, h1, e1], ?_⟩
    rw [List.all_cons, h2, e2]
    rfl
theorem okRows_cons {r : Row} {rs : List Row} {z : Str} {zs : List Str} (h : rowB r z = true) (g : okRows rs zs = true) : okRows (r :: rs) (z :: zs) = true := by
  unfold okRows
  rw [h, g]
  rfl
theorem l_sym : ∀ sy ∈ four6, rowB (symRow sy) (("symbols " : Str) ++ sy) = true := by decide +kernel
theorem l_cell : ∀ a ∈ six6, ∀ m ∈ [1, 2], rowB (cellRow (a, m)) (((("cell " : Str) ++ a) ++ (" " : Str)) ++ numS m) = true := by decide +kernel
theorem l_cell1 : ∀ a ∈ six6, rowB (cellRow (a, 1)) ((("cell " : Str) ++ a) ++ (" 1" : Str)) = true := by decide +kernel
theorem l_cell2 : ∀ a ∈ six6, rowB (cellRow (a, 2)) ((("cell " : Str) ++ a) ++ (" 2" : Str)) = true := by decide +kernel
theorem l_part : ∀ a ∈ six6, rowB (0, ["part", a]) (("part " : Str) ++ a) = true := by decide +kernel
theorem l_do1 : ∀ a ∈ six6, rowB (1, ["do", a]) (("  do " : Str) ++ a) = true := by decide +kernel
theorem l_do2 : ∀ a ∈ six6, rowB (2, ["do", a]) (("    do " : Str) ++ a) = true := by decide +kernel
theorem l_add1 : ∀ a ∈ six6, ∀ m ∈ [1, 2], rowB (1, ["add", a, numS m]) (((("  add " : Str) ++ a) ++ (" " : Str)) ++ numS m) = true := by decide +kernel
theorem l_add3 : ∀ a ∈ six6, rowB (3, ["add", a, numS 1]) ((("      add " : Str) ++ a) ++ (" 1" : Str)) = true := by decide +kernel
theorem l_set2 : ∀ a ∈ six6, rowB (2, ["set", a, numS 1]) ((("    set " : Str) ++ a) ++ (" 1" : Str)) = true := by decide +kernel
theorem l_eq2 : ∀ a ∈ six6, ∀ m ∈ [0, 1, 2], rowB (2, ["if", a, "=", numS m]) (((("    if " : Str) ++ a) ++ (" = " : Str)) ++ numS m) = true := by decide +kernel
theorem l_eq21 : ∀ a ∈ six6, rowB (2, ["if", a, "=", numS 1]) ((("    if " : Str) ++ a) ++ (" = 1" : Str)) = true ∧ rowB (2, ["if", a, "=", numS 0]) ((("    if " : Str) ++ a) ++ (" = 0" : Str)) = true ∧ rowB (1, ["if", a, "=", numS 1]) ((("  if " : Str) ++ a) ++ (" = 1" : Str)) = true ∧
  rowB (3, ["if", "not", a, "=", numS 0]) ((("      if not " : Str) ++ a) ++ (" = 0" : Str)) = true := by decide +kernel
theorem l_at : ∀ sy ∈ four6, rowB (2, ["if", "at", sgA sy 0]) (("    if at " : Str) ++ sgA sy 0) = true ∧ rowB (1, ["if", "at", sgA sy 1]) (("  if at " : Str) ++ sgA sy 1) = true ∧ rowB (1, ["if", "at", sgA sy 0]) (("  if at " : Str) ++ sgA sy 0) = true ∧
  rowB (1, ["while", "at", (("<" : Str) ++ sy) ++ (">" : Str)]) ((("  while at <" : Str) ++ sy) ++ (">" : Str)) = true := by decide +kernel
theorem l_plain : rowB mainRow "main" = true ∧ rowB (1, ["while", "not", "at", ">"]) "  while not at >" = true ∧ rowB (2, ["right"]) "    right" = true ∧ rowB (1, ["right"]) "  right" = true ∧ rowB (3, ["copy"]) "      copy" = true ∧ rowB (2, ["copy"]) "    copy" = true ∧ rowB (3, ["write", "x"]) "      write x" = true ∧
  rowB (1, ["write", "x"]) "  write x" = true ∧ rowB (1, ["write", "y"]) "  write y" = true ∧ rowB (2, ["write", "y"]) "    write y" = true ∧ rowB (2, ["write", "x"]) "    write x" = true ∧ rowB (4, ["write", "z"]) "        write z" = true ∧ rowB (2, ["else"]) "    else" = true ∧ rowB (1, ["else"]) "  else" = true ∧
  rowB (2, ["stop"]) "    stop" = true ∧ rowB (1, ["left"]) "  left" = true ∧ rowB (2, ["left"]) "    left" = true ∧ rowB (1, ["while", "not", "at", "<"]) "  while not at <" = true := by decide +kernel
theorem rows6_ok {sy a b : Str} (h : sy ∈ four6) (ha : a ∈ six6) (hb : b ∈ six6) {most step goal : Nat} (hm : most ∈ [1, 2]) (hs : step ∈ [1, 2]) (hg : goal ∈ [0, 1, 2]) : ∀ j ∈ eight, okRows (rows6 sy (prog6 sy a b most step goal j)) ((("symbols " : Str) ++ sy) :: lines6 sy a b most step goal j) = true := by
  obtain ⟨p1, p2, p3, p4, p5, p6, p7, p8, p9, p10, p11, p12, p13, p14, p15, p16, p17, p18⟩ := l_plain
  obtain ⟨a1, a2, a3, a4⟩ := l_at sy h
  obtain ⟨q1, q2, q3, _⟩ := l_eq21 a ha
  have q4 := (l_eq21 b hb).2.2.2
  have s0 := l_sym sy h
  intro j hj
  simp only [eight, List.mem_cons, List.not_mem_nil, or_false] at hj
  rcases hj with rfl | rfl | rfl | rfl | rfl | rfl | rfl | rfl
  · exact okRows_cons s0 (okRows_cons (l_cell a ha most hm) (okRows_cons (l_part b hb) (okRows_cons (l_add1 a ha step hs) (okRows_cons p1 (okRows_cons p2 (okRows_cons p3 (okRows_cons (l_do2 b hb) (okRows_cons (l_eq2 a ha goal hg) (okRows_cons p5 rfl)))))))))
  · exact okRows_cons s0 (okRows_cons (l_cell1 a ha) (okRows_cons p1 (okRows_cons p2 (okRows_cons p3 (okRows_cons a1 (okRows_cons (l_add3 a ha) (okRows_cons q1 (okRows_cons p7 rfl))))))))
  · exact okRows_cons s0 (okRows_cons (l_part a ha) (okRows_cons p8 (okRows_cons (l_part b hb) (okRows_cons (l_do1 a ha) (okRows_cons p9 (okRows_cons (l_do1 a ha) (okRows_cons p1 (okRows_cons (l_do1 b hb) (okRows_cons p4 (okRows_cons (l_do1 b hb) rfl))))))))))
  · exact okRows_cons s0 (okRows_cons (l_part a ha) (okRows_cons a2 (okRows_cons p15 (okRows_cons p1 (okRows_cons p2 (okRows_cons p3 (okRows_cons (l_do2 a ha) (okRows_cons p6 rfl))))))))
  · exact okRows_cons s0 (okRows_cons (l_cell2 a ha) (okRows_cons (l_cell1 b hb) (okRows_cons p1 (okRows_cons p2 (okRows_cons p3 (okRows_cons a1 (okRows_cons (l_add3 a ha) (okRows_cons p13 (okRows_cons (l_add3 b hb) (okRows_cons q2 (okRows_cons q4 (okRows_cons p12 rfl))))))))))))
  · exact okRows_cons s0 (okRows_cons (l_cell1 a ha) (okRows_cons p1 (okRows_cons p2 (okRows_cons p3 (okRows_cons p16 (okRows_cons a3 (okRows_cons (l_set2 a ha) (okRows_cons p18 (okRows_cons p17 (okRows_cons q3 (okRows_cons p10 (okRows_cons p14 (okRows_cons p11 rfl)))))))))))))
  · exact okRows_cons s0 (okRows_cons p1 (okRows_cons p8 (okRows_cons p16 (okRows_cons p9 rfl))))
  · exact okRows_cons s0 (okRows_cons p1 (okRows_cons a4 (okRows_cons p6 (okRows_cons p3 rfl))))
end Fv
set_option Elab.async false
set_option linter.all false
set_option maxRecDepth 100000
set_option maxHeartbeats 2000000
namespace Fv
open PySem L2
abbrev s__law_take : Stmt := top 47
abbrev sc__law_takeN : List Str := ["_law_pot", "_law_upto", "_law_digit", "_law_prime", "_law_mixed"]
theorem sc__law_take : FnScope sc__law_takeN ["_law_pot", "_law_upto"] (defScope s__law_take) := ⟨rfl, rfl, rfl, by decide +kernel, rfl, by decide +kernel, by decide +kernel⟩
/-- a pot: what is left of the cell, a number, how many were taken -/
structure Pot (H : Hp) (p : Addr) (n : Nat) : Prop where
  at_ : ∃ o b c : Int, H p = some (.lst [.int o, .int b, .int c]) ∧ 0 ≤ o ∧ 0 ≤ b ∧ b < 2305843009213693952 ∧ 0 ≤ c ∧ c ≤ (n : Int)
theorem Pot.more {H : Hp} {p : Addr} {n m : Nat} (h : Pot H p n) (l : n ≤ m) : Pot H p m := by
  obtain ⟨o, b, c, e, h1, h2, h3, h4, h5⟩ := h
  exact ⟨o, b, c, e, h1, h2, h3, h4, by omega⟩
theorem Pot.same {H H' : Hp} {p : Addr} {n : Nat} (h : Pot H p n) (s : Same H H') : Pot H' p n := by
  obtain ⟨o, b, c, e, r⟩ := h
  exact ⟨o, b, c, s _ _ e, r⟩
def spTake : Sp := fun vs H Q _ => ∃ (p : Addr) (u : Int) (n : Nat), vs = [.ref p, .int u] ∧ Pot H p n ∧ n < 100000 ∧ 0 < u ∧ u < 1000 ∧
  ∀ (d : Int) (H' : Hp), 0 ≤ d → d < u → Pot H' p (n + 1) → But p H H' → Q (.int d) H'
theorem at3_0 (x y z : V) : atI [x, y, z] 0 = some x := rfl
theorem at3_1 (x y z : V) : atI [x, y, z] 1 = some y := rfl
theorem at3_2 (x y z : V) : atI [x, y, z] 2 = some z := rfl
theorem five {i : Int} (h0 : 0 ≤ i) (h1 : i < 5) : ∃ v : Int, atI ([.int 2147483647, .int 2147483629, .int 2147483587, .int 2147483579, .int 2147483563] : List V) i = some (.int v) ∧ 0 < v ∧ v ≤ 2147483647 := by
  have h : i = 0 ∨ i = 1 ∨ i = 2 ∨ i = 3 ∨ i = 4 := by omega
  rcases h with rfl | rfl | rfl | rfl | rfl
  · exact ⟨2147483647, rfl, by decide, by decide⟩
  · exact ⟨2147483629, rfl, by decide, by decide⟩
  · exact ⟨2147483587, rfl, by decide, by decide⟩
  · exact ⟨2147483579, rfl, by decide, by decide⟩
  · exact ⟨2147483563, rfl, by decide, by decide⟩
abbrev s__law_of : Stmt := top 48
abbrev sc__law_ofN : List Str := ["_law_pot", "_law_some"]
theorem sc__law_of : FnScope sc__law_ofN ["_law_pot", "_law_some"] (defScope s__law_of) := ⟨rfl, rfl, rfl, by decide +kernel, rfl, by decide +kernel, by decide +kernel⟩
abbrev s__law_pot_of : Stmt := top 46
abbrev sc__law_pot_ofN : List Str := ["_law_script", "_law_k", "_law_cell", "_law_own"]
theorem sc__law_pot_of : FnScope sc__law_pot_ofN ["_law_script", "_law_k"] (defScope s__law_pot_of) := ⟨rfl, rfl, rfl, by decide +kernel, rfl, by decide +kernel, by decide +kernel⟩
section
variable {P : Program} {w : World} {K : PySem.W.Frag} {mg : Str → Option Value} {base : Heap}
theorem ok_take {f : Addr} {fd : FuncData} (F : Fun K "_law_take" "_law_take" s__law_take f fd) (T : Bare mg) : FnOk P w K mg base CX0 1 f fd ["_law_pot", "_law_upto"] spTake := by
  refine F.ok sc__law_take (fun vs H Q E h => ?_) (fun cdv A outer s H vs Q E hr h => ?_)
  · obtain ⟨p, u, n, rfl, _⟩ := h
    rfl
  obtain ⟨p, u, n, rfl, ⟨o, b, c, hp, o0, b0, b1, c0, c1⟩, hn, u0, u1, q⟩ := h
  refine ⟨_, (pss_cons (ps_if (pt_cmpR op_gt (pe_ix ix_list (pv 0) pe_int (fun _ _ => rfl)) pe_int (nomark _))
(pss_cons (ps_set (i := 2) sc__law_take.nd rfl (Or.inl rfl) (pe_op op_mod (pe_callTy call_int1 (by rfl) T.int (by decide +kernel) (pa_cons (pe_ix ix_list (pv 0) pe_int (fun _ _ => rfl)) pa_nil)) (pv 1)))
(pss_cons (ps_asg (pe_op op_fdiv (pe_ix ix_list (pv 0) pe_int (fun _ _ => rfl)) (pv 1)) (pg_sub (pv 0) pe_int set_list))
(pss_one (ps_ret (pv 2)))))
pss_nil)
(pss_cons (ps_asg (pe_op op_add (pe_ix ix_list (pv 0) pe_int (fun _ _ => rfl)) pe_int) (pg_sub (pv 0) pe_int set_list))
(pss_cons (ps_set (i := 3) sc__law_take.nd rfl (Or.inl rfl) (pe_ix ix_list (pe_lst (pa_cons pe_int (pa_cons pe_int (pa_cons pe_int (pa_cons pe_int (pa_cons pe_int pa_nil)))))) (pe_op op_mod (pe_callTy call_int1 (by rfl) T.int (by decide +kernel) (pa_cons (pe_ix ix_list (pv 0) pe_int (fun _ _ => rfl)) pa_nil)) pe_int) (fun _ _ => rfl)))
(pss_cons (ps_set (i := 4) sc__law_take.nd rfl (Or.inl rfl) (pe_op op_mod (pe_callTy call_int1 (by rfl) T.int (by decide +kernel) (pa_cons (pe_op op_pow (pe_op op_add (pe_op op_add (pe_ix ix_list (pv 0) pe_int (fun _ _ => rfl)) (pe_op op_mul (pe_op op_mul pe_int (pe_ix ix_list (pv 0) pe_int (fun _ _ => rfl))) (pe_ix ix_list (pv 0) pe_int (fun _ _ => rfl)))) pe_int) pe_int) pa_nil)) (pv 3)))
(pss_one (ps_ret (pe_op op_mod (pe_callTy call_int1 (by rfl) T.int (by decide +kernel) (pa_cons (pe_op op_fdiv (pe_op op_mul (pv 4) (pe_op op_add (pe_op op_mod (pe_callTy call_int1 (by rfl) T.int (by decide +kernel) (pa_cons (pv 4) pa_nil)) pe_int) (pe_op op_mul pe_int (pe_ix ix_list (pv 0) pe_int (fun _ _ => rfl))))) pe_int) pa_nil)) (pv 1)))))))), ?_⟩
  have hS : SqL K H p [.int o, .int b, .int c] := .inl (.inl hp)
  -- if pot[0] > 0
  refine ⟨.ref p, rfl, p, _, 0, _, rfl, rfl, hS, rfl, o, 0, rfl, rfl, _, rfl, ?_⟩
  refine ite2 (fun h => ?_) (fun h => ?_)
  · have ho : (0 : Int) < o := of_decide_eq_true h
    -- digit = int(pot[0]) % upto
    refine ⟨.ref p, rfl, p, _, 0, _, rfl, rfl, hS, rfl, .inl ⟨o, rfl, ?_⟩⟩
    refine ⟨.int u, rfl, o, u, rfl, rfl, u0, ?_⟩
    -- pot[0] = pot[0] // upto
    refine ⟨.ref p, rfl, p, _, 0, _, rfl, rfl, hS, rfl, .int u, rfl, o, u, rfl, rfl, ⟨u0, by omega⟩, ?_⟩
    refine ⟨.ref p, rfl, p, _, 0, 0, rfl, rfl, hp, rfl, ?_⟩
    refine ⟨_, rfl, ?_⟩
    refine q (o % u) _ (Int.emod_nonneg _ (by omega)) (Int.emod_lt_of_pos _ u0) ⟨o / u, b, c, upd_same, Int.ediv_nonneg (by omega) (by omega), b0, b1, c0, by omega⟩ But.upd
  · -- pot[2] = pot[2] + 1
    refine ⟨.ref p, rfl, p, _, 2, _, rfl, rfl, hS, rfl, c, 1, rfl, rfl, .ref p, rfl, p, _, 2, 2, rfl, rfl, hp, rfl, ?_⟩
    have hp2 : (upd H p (.lst [.int o, .int b, .int (c + 1)])) p = some (.lst [.int o, .int b, .int (c + 1)]) := upd_same
    have hS2 : SqL K (upd H p (.lst [.int o, .int b, .int (c + 1)])) p [.int o, .int b, .int (c + 1)] := .inl (.inl hp2)
    -- prime = [..][int(pot[2]) % 5]
    refine ⟨small (by show 5 ≤ 1000; decide), fun l hl => ?_⟩
    have npl : p ≠ l := ne_of_none hp2 hl
    have e1 : ∀ o', upd (upd H p (.lst [.int o, .int b, .int (c + 1)])) l o' p = some (.lst [.int o, .int b, .int (c + 1)]) := fun o' => by rw [upd_ne npl]; exact hp2
    obtain ⟨v, hv, v0, v1⟩ := five (i := (c + 1) % 5) (Int.emod_nonneg _ (by decide)) (Int.emod_lt_of_pos _ (by decide))
    refine ⟨.ref p, rfl, p, _, 2, _, rfl, rfl, .inl (.inl (e1 _)), rfl, .inl ⟨c + 1, rfl, ?_⟩⟩
    refine ⟨c + 1, 5, rfl, rfl, (by show (0 : Int) < 5; decide), l, _, _, _, rfl, rfl, .inl (.inl upd_same), hv, ?_⟩
    -- mixed
    have sz : (70001 * (c + 1)) * (c + 1) ≤ 70001 * 100001 * 100001 := by
      have a1 : 0 ≤ c + 1 := by omega
      have a2 : c + 1 ≤ 100001 := by omega
      have a3 : 70001 * (c + 1) ≤ 70001 * 100001 := by omega
      exact Int.mul_le_mul a3 a2 a1 (by decide)
    have sz0 : 0 ≤ (70001 * (c + 1)) * (c + 1) := Int.mul_nonneg (by omega) (by omega)
    refine ⟨.ref p, rfl, p, _, 1, _, rfl, rfl, .inl (.inl (e1 _)), rfl, ?_⟩
    refine ⟨.ref p, rfl, p, _, 2, _, rfl, rfl, .inl (.inl (e1 _)), rfl, 70001, c + 1, rfl, rfl, .inl ⟨by decide, by decide⟩, ?_⟩
    refine ⟨.ref p, rfl, p, _, 2, _, rfl, rfl, .inl (.inl (e1 _)), rfl, 70001 * (c + 1), c + 1, rfl, rfl, .inl ⟨by omega, by omega⟩, ?_⟩
    refine ⟨b, 70001 * (c + 1) * (c + 1), rfl, rfl, b + 70001 * (c + 1) * (c + 1), 53, rfl, rfl, ?_⟩
    refine ⟨b + 70001 * (c + 1) * (c + 1) + 53, 3, rfl, rfl, ⟨by decide, by decide, by omega⟩, .inl ⟨_, rfl, ?_⟩⟩
    refine ⟨.int v, rfl, _, v, rfl, rfl, v0, ?_⟩
    dsimp only
    generalize em : (b + 70001 * (c + 1) * (c + 1) + 53) ^ (3 : Int).toNat % v = m
    have m0 : 0 ≤ m := by rw [← em]; exact Int.emod_nonneg _ (by omega)
    have m1 : m < 2147483647 := by
      have := Int.emod_lt_of_pos ((b + 70001 * (c + 1) * (c + 1) + 53) ^ (3 : Int).toNat) v0
      omega
    -- return
    refine ⟨.int m, rfl, .int m, rfl, .inl ⟨m, rfl, m, 10007, rfl, rfl, (by show (0 : Int) < 10007; decide), ?_⟩⟩
    refine ⟨.ref p, rfl, p, _, 2, _, rfl, rfl, .inl (.inl (e1 _)), rfl, 83, c + 1, rfl, rfl, .inl ⟨by decide, by decide⟩, ?_⟩
    refine ⟨m % 10007, 83 * (c + 1), rfl, rfl, m, m % 10007 + 83 * (c + 1), rfl, rfl, .inl ⟨by omega, by omega⟩, ?_⟩
    refine ⟨_, 101, rfl, rfl, ⟨by decide, by decide⟩, .inl ⟨_, rfl, ?_⟩⟩
    refine ⟨.int u, rfl, _, u, rfl, rfl, u0, ?_⟩
    refine q _ _ (Int.emod_nonneg _ (by omega)) (Int.emod_lt_of_pos _ u0) ⟨o, b, c + 1, e1 _, o0, b0, b1, by omega, by omega⟩ ?_
    exact But.trans But.upd (But.of_same (same_new hl _))
/-! ### _law_of -/
theorem But.seq {p : Addr} {H H' : Hp} {a : Addr} {xs : List V} (e : But p H H') (n : a ≠ p) (h : SqL K H a xs) : SqL K H' a xs := by
  rcases h with (h | ⟨o, h⟩) | h
  · exact .inl (.inl (e _ _ h n))
  · exact .inl (.inr ⟨o, e _ _ h n⟩)
  · exact .inr h
def spOf (K : PySem.W.Frag) : Sp := fun vs H Q _ => ∃ (p l : Addr) (xs : List V) (n : Nat), vs = [.ref p, .ref l] ∧ Pot H p n ∧ n < 100000 ∧ SqL K H l xs ∧ l ≠ p ∧ 0 < xs.length ∧ xs.length < 1000 ∧
  ∀ (i : Nat) (v : V) (H' : Hp), xs[i]? = some v → Pot H' p (n + 1) → But p H H' → Q v H'
theorem ok_of {f : Addr} {fd : FuncData} (F : Fun K "_law_of" "_law_of" s__law_of f fd) (T : Bare mg) (C : Callee P w K mg base 1 "_law_take" ["_law_pot", "_law_upto"] spTake) : FnOk P w K mg base CX0 2 f fd ["_law_pot", "_law_some"] (spOf K) := by
  refine F.ok sc__law_of (fun vs H Q E h => ?_) (fun cdv A outer s H vs Q E hr h => ?_)
  · obtain ⟨p, l, xs, n, rfl, _⟩ := h
    rfl
  obtain ⟨p, l, xs, n, rfl, hp, hn, hS, npl, l0, l1, q⟩ := h
  refine ⟨_, (pss_one (ps_ret (pe_ix ix_list (pv 1) (pe_call C.ok hr rfl C.mg C.kp C.b .nil pass0 (pa_cons (pv 0) (pa_cons (pe_callB call_len_seq (by rfl) T.len PySem.boot_len (pa_cons (pv 1) pa_nil)) pa_nil))) (fun _ _ => rfl)))), ?_⟩
  refine ⟨.ref l, rfl, .ref p, rfl, .ref l, rfl, l, xs, rfl, .inl hS, p, (xs.length : Int), n, rfl, hp, hn, by omega, by omega, fun d H' d0 d1 hp' b => ?_⟩
  have hd : d.toNat < xs.length := by omega
  refine ⟨l, xs, d, xs[d.toNat], rfl, rfl, b.seq npl hS, ?_, ?_⟩
  · exact at_of (j := d.toNat) (by omega) (List.getElem?_eq_getElem hd)
  · exact q d.toNat _ H' (List.getElem?_eq_getElem hd) hp' b
/-! ### _law_pot_of -/
theorem op_powB {X : Cx} : OpR X (binaryOp .Pow) (rI (fun i j => 0 ≤ j ∧ (Builtin.Int.intBits i : Int) * j ≤ 2 ^ 27) fun i j => .int (i ^ j.toNat)) := opI fun _ _ _ _ _ _ _ hc q => PyProof.Rows.pow_int hc.1 hc.2 q
def spPotOf (K : PySem.W.Frag) : Sp := fun vs H Q _ => ∃ (a : Addr) (ns : List Int) (j : Nat), vs = [.ref a, .int (j : Int)] ∧ SqL K H a (ns.map V.int) ∧ j ≤ 100 ∧
  ∀ (p : Addr) (H' : Hp), H p = none → Same H H' → Pot H' p 0 → Q (.ref p) H'
theorem ok_pot_of {f : Addr} {fd : FuncData} (F : Fun K "_law_pot_of" "_law_pot_of" s__law_pot_of f fd) (T : Bare mg) : FnOk P w K mg base CX0 1 f fd ["_law_script", "_law_k"] (spPotOf K) := by
  refine F.ok sc__law_pot_of (fun vs H Q E h => ?_) (fun cdv A outer s H vs Q E hr h => ?_)
  · obtain ⟨a, ns, j, rfl, _⟩ := h
    rfl
  obtain ⟨a, ns, j, rfl, hS, hj, q⟩ := h
  refine ⟨_, (pss_cons (ps_set (i := 2) sc__law_pot_of.nd rfl (Or.inl rfl) (pe_ifExp (pt_cmpR op_lt (pv 1) (pe_callB call_len_seq (by rfl) T.len PySem.boot_len (pa_cons (pv 0) pa_nil)) (nomark _)) (pe_ix ix_list (pv 0) (pv 1) (fun _ _ => rfl)) (pe_op op_add (pe_op op_mul pe_int (pv 1)) pe_int)))
(pss_cons (ps_set (i := 3) sc__law_pot_of.nd rfl (Or.inl rfl) (pe_op op_mul (pe_op op_mod (pe_callTy call_int1 (by rfl) T.int (by decide +kernel) (pa_cons (pe_callB call_abs (by rfl) T.abs (by decide +kernel) (pa_cons (pv 2) pa_nil)) pa_nil)) (pe_op op_powB (pe_op op_pow pe_int pe_int) pe_int)) (pe_callTy call_int1 (by rfl) T.int (by decide +kernel) (pa_cons (pe_cmpR op_ge (pe_callB call_abs (by rfl) T.abs (by decide +kernel) (pa_cons (pv 2) pa_nil)) (pe_op op_pow pe_int pe_int) (nomark _)) pa_nil))))
(pss_one (ps_ret (pe_lst (pa_cons (pv 3) (pa_cons (pe_op op_mod (pe_op op_add (pe_op op_add (pe_op op_mul (pe_op op_mod (pe_callTy call_int1 (by rfl) T.int (by decide +kernel) (pa_cons (pv 2) pa_nil)) pe_int) pe_int) (pe_op op_mul (pe_op op_mul pe_int (pv 1)) (pv 1))) pe_int) pe_int) (pa_cons pe_int pa_nil)))))))), ?_⟩
  have hl : (ns.map V.int).length = ns.length := List.length_map _
  refine ⟨_, rfl, _, rfl, a, _, rfl, .inl hS, _, _, rfl, rfl, _, rfl, ?_⟩
  refine ite2 (fun h => ?_) (fun h => ?_)
  rotate_left
  refine ⟨_, rfl, 47, _, rfl, rfl, .inl ⟨by decide, by decide⟩, _, 17, rfl, rfl, ?_⟩
  dsimp only
  generalize (47 * (j : Int) + 17) = c
  rotate_left
  have hlt : j < ns.length := by
    have := of_decide_eq_true h
    rw [hl] at this
    omega
  refine ⟨_, rfl, _, rfl, a, _, _, _, rfl, rfl, hS, atI_nat (by rw [List.getElem?_map, List.getElem?_eq_getElem hlt] <;> rfl), ?_⟩
  generalize ns[j] = c
  all_goals
    refine ⟨.int c, rfl, c, rfl, .inl ⟨_, rfl, ?_⟩⟩
    refine ⟨10, 60, rfl, rfl, ⟨by decide, by decide, by decide⟩, 10 ^ 60, 5, rfl, rfl, ⟨by decide, by decide +kernel⟩, _, _, rfl, rfl, (by show (0 : Int) < (10 ^ 60) ^ 5; decide +kernel), ?_⟩
    refine ⟨.int c, rfl, c, rfl, 10, 18, rfl, rfl, ⟨by decide, by decide, by decide⟩, _, _, rfl, rfl, .inr ⟨_, rfl, ?_⟩⟩
    generalize ha : (if c < 0 then -c else c) = a0
    have ha0 : 0 ≤ a0 := by rw [← ha]; split <;> omega
    refine ⟨_, _, rfl, rfl, .inr (by split <;> decide), ?_⟩
    have own0 : 0 ≤ a0 % (10 ^ (60 : Int).toNat) ^ (5 : Int).toNat * (if decide ((10 : Int) ^ (18 : Int).toNat ≤ a0) = true then 1 else 0) := by
      refine Int.mul_nonneg (Int.emod_nonneg _ (by decide +kernel)) ?_
      split <;> decide
    -- return
    refine ⟨_, rfl, .int c, rfl, .inl ⟨c, rfl, c, _, rfl, rfl, (by show (0 : Int) < 2305843009213693951; decide), _, _, rfl, rfl, .inr ⟨by decide, by decide⟩, ?_⟩⟩
    refine ⟨.int (j : Int), rfl, 8111, j, rfl, rfl, .inl ⟨by decide, by decide⟩, .int (j : Int), rfl, _, j, rfl, rfl, .inr ⟨by omega, by omega⟩, ?_⟩
    refine ⟨_, _, rfl, rfl, _, 41, rfl, rfl, _, _, rfl, rfl, (by show (0 : Int) < 2305843009213693921; decide), small (by show 3 ≤ 1000; decide), fun p hp => ?_⟩
    refine q p _ hp (same_new hp _) ⟨_, _, 0, upd_same, own0, Int.emod_nonneg _ (by decide), ?_, by decide, by decide⟩
    exact Int.lt_trans (Int.emod_lt_of_pos _ (by decide)) (by decide)
end
end Fv
set_option Elab.async false
set_option linter.all false
set_option maxRecDepth 100000
set_option maxHeartbeats 4000000
namespace Fv
open PySem PySem.Spec PyProof.Rows L2 TL
/-! ### a sign of a text, drawn -/
def spOfS : Sp := fun vs H Q _ => ∃ (p : Addr) (z : Str) (n : Nat), vs = [.ref p, .str z] ∧ Pot H p n ∧ n < 100000 ∧ 0 < z.length ∧ z.length < 1000 ∧
  ∀ (c : Nat) (H' : Hp), c ∈ tl z → Pot H' p (n + 1) → But p H H' → Q (.str (sgS c)) H'
section
variable {P : Program} {w : World} {K : PySem.W.Frag} {mg : Str → Option Value} {base : Heap}
theorem ok_ofS {f : Addr} {fd : FuncData} (F : Fun K "_law_of" "_law_of" s__law_of f fd) (T : Bare mg) (C : Callee P w K mg base 1 "_law_take" ["_law_pot", "_law_upto"] spTake) : FnOk P w K mg base CX0 2 f fd ["_law_pot", "_law_some"] spOfS := by
  refine F.ok sc__law_of (fun vs H Q E h => ?_) (fun cdv A outer s H vs Q E hr h => ?_)
  · obtain ⟨p, z, n, rfl, _⟩ := h
    rfl
  obtain ⟨p, z, n, rfl, hp, hn, l0, l1, q⟩ := h
  refine ⟨_, (pss_one (ps_ret (pe_ix ix_str (pv 1) (pe_call C.ok hr rfl C.mg C.kp C.b .nil pass0 (pa_cons (pv 0) (pa_cons (pe_callB call_len_str (by rfl) T.len PySem.boot_len (pa_cons (pv 1) pa_nil)) pa_nil))) (fun _ _ => rfl)))), ?_⟩
  refine ⟨.str z, rfl, .ref p, rfl, .str z, rfl, z, rfl, small (by omega), p, (z.length : Int), n, rfl, hp, hn, by omega, by omega, fun d H' d0 d1 hp' b => ?_⟩
  have hz : (tl z).length = z.length := (len_tl z).symm
  have hd : d.toNat < (tl z).length := by omega
  refine ⟨z, d, (tl z)[d.toNat], rfl, rfl, small (by omega), ?_, q _ H' (List.getElem_mem hd) hp' b⟩
  have e : ∀ (k : Nat) (h : k < (tl z).length), d = (k : Int) → atI (tl z) d = some (tl z)[k] := fun k h e1 => by
    subst e1
    exact atI_nat (List.getElem?_eq_getElem h)
  exact e d.toNat hd (by omega)
end
/-! ### a page -/
theorem tl_page (zs : List Nat) : tl (Txt.join ("" : Str) (zs.map sgS)) = zs := by
  rw [join_eq, tl_join, show tl ("" : Str) = [] by decide +kernel]
  induction zs with
  | nil => rfl
  | cons c r ih =>
    cases r with
    | nil => rfl
    | cons d t =>
      show [c] ++ ([] ++ joinL [] (((d :: t).map sgS).map tl)) = _
      rw [ih]
      rfl
theorem sg_len (c : Nat) : (sgS c).length = 1 := rfl
theorem page_sum : ∀ zs : List Nat, ((zs.map sgS).map (·.length)).sum = zs.length
  | [] => rfl
  | c :: r => by
    rw [List.map_cons, List.map_cons, List.sum_cons, page_sum r, sg_len, List.length_cons]
    omega
theorem But.pot_off {p D : Addr} {H : Hp} {n : Nat} {o : HO} (h : Pot H p n) (nd : D ≠ p) : Pot (L2.upd H D o) p n := by
  obtain ⟨a, b, c, e, r⟩ := h.at_
  exact ⟨a, b, c, by rw [upd_ne nd.symm]; exact e, r⟩
end Fv
set_option Elab.async false
set_option linter.all false
set_option maxRecDepth 100000
set_option maxHeartbeats 4000000
namespace Fv
open PySem L2 TL
theorem joinL_le {sep : List Nat} {n : Nat} (hs : sep.length ≤ 1) : ∀ {l : List (List Nat)}, (∀ x ∈ l, x.length ≤ n) → (joinL sep l).length ≤ l.length * (n + 1)
  | [], _ => by simp [joinL]
  | [x], h => by
    have := h x (.head _)
    simp only [joinL, List.length_cons, List.length_nil]
    omega
  | x :: y :: r, h => by
    have h1 := h x (.head _)
    have h2 := joinL_le (n := n) hs (l := y :: r) fun z hz => h z (.tail _ hz)
    have e : (joinL sep (x :: y :: r)).length = x.length + (sep.length + (joinL sep (y :: r)).length) := by
      show (x ++ (sep ++ joinL sep (y :: r))).length = _
      rw [List.length_append, List.length_append]
    have e2 : (x :: y :: r).length * (n + 1) = (y :: r).length * (n + 1) + (n + 1) := by rw [List.length_cons, Nat.add_mul, Nat.one_mul]
    rw [e, e2]
    omega
theorem few6 {sy a b : Str} {most step goal : Nat} : ∀ j ∈ eight, (rows6 sy (prog6 sy a b most step goal j)).length ≤ 20 := by
  intro j hj
  simp only [eight, List.mem_cons, List.not_mem_nil, or_false] at hj
  rcases hj with rfl | rfl | rfl | rfl | rfl | rfl | rfl | rfl <;> exact Nat.le_of_ble_eq_true rfl
theorem txt6 {sy a b : Str} (h : sy ∈ four6) (ha : a ∈ six6) (hb : b ∈ six6) (hab : a ≠ b) {most step goal : Nat} (hm : 1 ≤ most ∧ most ≤ 2) (hs : 1 ≤ step ∧ step ≤ 2) (hg : goal ≤ most) (j : Nat) (hj : j ∈ eight) :
    TextOk sy (prog6 sy a b most step goal j).1 (prog6 sy a b most step goal j).2.1 (prog6 sy a b most step goal j).2.2.1 (prog6 sy a b most step goal j).2.2.2 (rows6 sy (prog6 sy a b most step goal j)) (Txt.join nl ((("symbols " : Str) ++ sy) :: lines6 sy a b most step goal j)) := by
  have e1 : most ∈ [1, 2] := by
    have : most = 1 ∨ most = 2 := by omega
    simpa using this
  have e2 : step ∈ [1, 2] := by
    have : step = 1 ∨ step = 2 := by omega
    simpa using this
  have e3 : goal ∈ [0, 1, 2] := by
    have : goal = 0 ∨ goal = 1 ∨ goal = 2 := by omega
    simpa using this
  obtain ⟨er, eg⟩ := okRows_eq (rows6_ok h ha hb e1 e2 e3 j hj)
  obtain ⟨y1, y2, y3, y4, _⟩ := four6_ok sy h
  have few := few6 (sy := sy) (a := a) (b := b) (most := most) (step := step) (goal := goal) j hj
  have hgr : ∀ r ∈ rows6 sy (prog6 sy a b most step goal j), GoodWs r.2 ∧ (lineOf r).length ≤ 60 ∧ 10 ∉ tl (lineOf r) := fun r hr => by
    have := List.all_eq_true.mp eg r hr
    unfold goodRow at this
    simp only [Bool.and_eq_true, decide_eq_true_eq, List.all_eq_true] at this
    obtain ⟨⟨h1, h2⟩, h3, h4⟩ := this
    exact ⟨⟨h1, fun x hx => ⟨(h2 x hx).1, (h2 x hx).2.1⟩, fun x hx => (h2 x hx).2.2⟩, h3, h4⟩
  have na := six6_ok a ha
  have nb := six6_ok b hb
  have NA : NameOk a := ⟨na.2.2.1, na.2.2.2.1, na.2.2.2.2⟩
  have NB : NameOk b := ⟨nb.2.2.1, nb.2.2.2.1, nb.2.2.2.2⟩
  have B := main6 h ha hb hm hs hg j hj
  have Pt := parts6 (a := a) (b := b) (most := most) (goal := goal) h ha hs j hj
  have len : (Txt.join nl ((("symbols " : Str) ++ sy) :: lines6 sy a b most step goal j)).length ≤ 10000 := by
    rw [← er, len_tl, join_eq, tl_join, tl_nl]
    have := joinL_le (sep := [10]) (n := 60) (by decide) (l := ((rows6 sy (prog6 sy a b most step goal j)).map lineOf).map tl) fun x hx => by
      obtain ⟨z, hz, rfl⟩ := List.mem_map.mp hx
      obtain ⟨r, hr, rfl⟩ := List.mem_map.mp hz
      rw [← len_tl]
      exact (hgr r hr).2.1
    rw [List.length_map, List.length_map] at this
    omega
  refine ⟨⟨rfl, fun r hr => (hgr r hr).1, y1, y2, ⟨y3, y4⟩, ?_, ?_, ?_, ?_, ?_, Pt, B, ?_⟩, by rw [er], len, by omega, fun r hr => by have := (hgr r hr).2.1; omega, fun r hr => (hgr r hr).2.2⟩
  all_goals
    simp only [eight, List.mem_cons, List.not_mem_nil, or_false] at hj
    rcases hj with rfl | rfl | rfl | rfl | rfl | rfl | rfl | rfl <;> simp [prog6, NA, NB, hab, hm.1, hm.2]
end Fv
set_option Elab.async false
set_option linter.all false
set_option maxRecDepth 100000
set_option maxHeartbeats 4000000
namespace Fv
open PySem L2 TL
theorem run6 {sy a b : Str} {most step goal : Nat} {rows : List Row} (h : sy ∈ four6) (hm : 1 ≤ most ∧ most ≤ 2) (hs : 1 ≤ step ∧ step ≤ 2) (hg : goal ≤ most) {j : Nat} (hj : j ∈ eight)
    (PO : ProgOk sy (prog6 sy a b most step goal j).1 (prog6 sy a b most step goal j).2.1 (prog6 sy a b most step goal j).2.2.1 (prog6 sy a b most step goal j).2.2.2 rows) {t : Str} (ht : ∀ c ∈ tl t, c ∈ tl sy) {n : Nat} {r : Res}
    (e : runF (ptsOf (prog6 sy a b most step goal j).2.1) ((prog6 sy a b most step goal j).1.map (·.2)) (tl (ordOf t)) n [] [] (startF (prog6 sy a b most step goal j).1 (prog6 sy a b most step goal j).2.2.2) = some r) : r = .done (told6 sy most step goal (tl t) j) := by
  have e1 : most ∈ [1, 2] := by
    have : most = 1 ∨ most = 2 := by omega
    simpa using this
  have e2 : step ∈ [1, 2] := by
    have : step = 1 ∨ step = 2 := by omega
    simpa using this
  have e3 : goal ∈ [0, 1, 2] := by
    have : goal = 0 ∨ goal = 1 ∨ goal = 2 := by omega
    simpa using this
  have hl : ∀ g ∈ tl t, g ∈ all6 := fun g hg => in_all6 sy h g (ht g hg)
  have hal : ∀ c ∈ tl t, c ∈ tl alpha := fun c hc => (four6_ok sy h).2.2.2.2 c (ht c hc)
  obtain ⟨G, eq⟩ := PO.start_met (marked_of hal)
  rw [runF_eq PO.pts PO.dos _ _ _ _ G.ok G.at_, eq, tl_ord] at e
  have fin : ∀ {tab : List (Nat × Nd)} {mosts : List Nat} {c : Cf} {outs : List (Str × Nat)}, Ends6 tab mosts (tl t) c outs → runL tab mosts (60 :: (tl t ++ [62])) n [] [] c = some r → r = .done outs := fun E k => by
    obtain ⟨cs, p, w⟩ := E
    exact run_ends w k
  simp only [eight, List.mem_cons, List.not_mem_nil, or_false] at hj
  rcases hj with rfl | rfl | rfl | rfl | rfl | rfl | rfl | rfl
  · exact fin (e60 e1 e2 e3 hl) e
  · exact fin (e61 h ht) e
  · exact fin (e62 hl) e
  · exact fin (e63 h ht) e
  · exact fin (e64 h ht) e
  · exact fin (e65 h ht) e
  · exact fin e66 e
  · exact fin (e67 h ht) e
end Fv
set_option Elab.async false
set_option linter.all false
set_option maxRecDepth 100000
set_option maxHeartbeats 4000000
namespace Fv
open PySem PySem.Spec PyProof.Rows L2 TL LamX NdefX
/-! ### a lambda whose parameter is a cell (a comprehension in it holds it) -/
theorem cellsFrom_app : ∀ (names : List (Str × NameKind)) (n : Nat) (acc : List (Str × Addr)), cellsFrom n names acc = cellsFrom n names [] ++ acc
  | [], _, _ => rfl
  | (x, k) :: r, n, acc => by
    unfold cellsFrom
    split
    · rw [cellsFrom_app r (n + 1) ((x, n) :: acc), cellsFrom_app r (n + 1) [(x, n)], List.append_assoc]
      rfl
    · exact cellsFrom_app r n acc
section
variable {M : Model} {A : Around} {E : Value → Shared → Prop} {s : Shared}
/-- its frame: the names' own cells stand before the closure's; the parameter's cell holds what is given -/
theorem lam_envC {scope : Scope} {globals : Addr} {cl : List (Str × Addr)} {qual p : Str} {u : Value} {func : Option Addr} {code : Value} {builtins : Addr} {Q : Env → Shared → Prop} (hk : scope.kind = .function) (hp : scope.names.lookup p = some .cell)
    (hQ : ∀ (c : Addr) (h' : Heap), (cellsFrom (s.heap.objs.size + 1) scope.names []).lookup p = some c → h'.Ns s.heap.objs.size (fun _ => none) → (∀ b o, s.heap.get? b = some o → h'.get? b = some o) → h'.IsCell c (some u) →
      (∀ y d, (y, d) ∈ cellsFrom (s.heap.objs.size + 1) scope.names [] → s.heap.objs.size < d ∧ ∃ v, h'.IsCell d v) → ((cellsFrom (s.heap.objs.size + 1) scope.names []).Pairwise fun x y => x.2 ≠ y.2) →
      Q (newEnv scope s.heap.objs.size globals (cellsFrom (s.heap.objs.size + 1) scope.names [] ++ cl) qual func code none builtins) { s with heap := h' }) :
    wpAny M A (newFunctionEnv scope globals cl [(p, u)] qual func code none builtins) Q E s := by
  simp only [newFunctionEnv, Option.isSome_none, Bool.false_eq_true, if_false]
  refine wpAny_bind (wpAny_alloc ?_)
  refine wpAny_bind (wpAny_layCells _ (fun name kind cells => by cases hkc : kind == NameKind.cell <;> simp [hkc]) _ _ _ _ ?_)
  have ok := cellsFrom_ok scope.names (s.heap.push { cls := .type "frame", data := .dict #[] }) (s.heap.objs.size + 1) [] ⟨fun _ _ hm => (nomatch hm), List.Pairwise.nil⟩ (by rw [Heap.size_push]; exact Nat.le_refl _)
  rw [Heap.size_push] at ok
  rw [show ({ s with heap := s.heap.push { cls := .type "frame", data := .dict #[] } } : Shared).heap.objs.size = s.heap.objs.size + 1 from Heap.size_push .., cellsFrom_app]
  obtain ⟨c, hc⟩ := cell_has (n := s.heap.objs.size + 1) hp
  have hin := PySem.mem_of_lookup hc
  have hcl : (cellsFrom (s.heap.objs.size + 1) scope.names [] ++ cl).lookup p = some c := by
    rw [List.lookup_append, hc]
    rfl
  rw [List.forIn_cons]
  refine wpAny_bind (wpAny_bind (wpAny_bind (wpAny_storeName_cell (c := c) (v₀ := none) hk hp hcl (ok.empty p c hin).1 fun h' hc' sb => wpAny_pure ?_)))
  dsimp only
  rw [List.forIn_nil]
  refine wpAny_pure (wpAny_pure ?_)
  have lt : ∀ y d, (y, d) ∈ cellsFrom (s.heap.objs.size + 1) scope.names [] → s.heap.objs.size < d := fun y d hm => (ok.empty y d hm).2
  have ns : (pushCells (s.heap.push { cls := .type "frame", data := .dict #[] }) scope.names).Ns s.heap.objs.size (fun _ => none) := (Heap.Ns.new s.heap (.type "frame")).keeps (pushCells_keeps _ _)
  refine hQ c h' hc (ns.sameBut sb (Nat.ne_of_lt (lt _ _ hin))) (fun b o e => ?_) hc' (fun y d hm => ⟨lt y d hm, ?_⟩) ok.apart
  · have hb : b < s.heap.objs.size := Heap.lt_size e
    exact sb.extBut b o (Nat.ne_of_lt (Nat.lt_trans hb (lt _ _ hin))) (pushCells_keeps _ _ b o (Heap.get?_push_of_some _ e))
  · by_cases z : d = c
    · rw [z]
      exact ⟨_, hc'⟩
    · exact ⟨_, (ok.empty y d hm).1.sameBut sb z⟩
end
theorem cellsFrom_mem : ∀ {names : List (Str × NameKind)} {n : Nat} {acc : List (Str × Addr)} {y : Str} {d : Addr}, (y, d) ∈ cellsFrom n names acc → (y, d) ∈ acc ∨ (y, NameKind.cell) ∈ names
  | [], _, _, _, _, h => .inl h
  | (x, k) :: r, n, acc, y, d, h => by
    unfold cellsFrom at h
    split at h
    · rename_i hk
      rcases cellsFrom_mem h with z | z
      · rcases List.mem_cons.mp z with z | z
        · cases z
          exact .inr (by rw [show k = NameKind.cell from beq_iff_eq.mp hk]; exact .head _)
        · exact .inl z
      · exact .inr (.tail _ z)
    · rcases cellsFrom_mem h with z | z
      · exact .inl z
      · exact .inr (.tail _ z)
structure NScopeC (N : List Str) (p : Str) (fr : List Str) (sc : Scope) : Prop where
  kind : sc.kind = .function
  co : sc.isCoroutine = false
  gen : sc.isGenerator = false
  nd : N.Nodup
  pre : N.take (1 + fr.length) = p :: fr
  par : sc.names.lookup p = some .cell
  one : ∀ y ∈ sc.names, y.2 = .cell → y.1 = p
  free : ∀ y ∈ sc.names, y.2 = .free → y.1 ∈ fr
  frk : ∀ x ∈ fr, sc.names.lookup x = some .free
abbrev ownC (F : NF) (L : Addr) : List (Str × Addr) := cellsFrom (L + 1) F.scope.names []
abbrev envP (F : NF) (f L : Addr) : Env := PySem.W.envX F.qual F.scope L f (.ref F.c) (ownC F L ++ F.cl)
def ncxC (CX : CXT) (P : Program) (w : World) (K : PySem.W.Frag) (mg : Str → Option Value) (base : Heap) (N : List Str) (F : NF) (f : Addr) (A : Around) (outer : List Env) (s : Shared) (H : Hp) (E : XK) : Cx where
  prog := P
  w := w
  K := K
  mg := mg
  base := base
  A := A.deeper (envP F f s.heap.objs.size)
  N := N
  s_0 := s
  H_0 := H
  env := envP F f s.heap.objs.size
  outer := outer
  stack := envP F f s.heap.objs.size :: outer
  ex := []
  calm := true
  fn := fun _ => false
  pn := []
  xe := fun e s' => wpAny (model P w) (A.deeper (envP F f s.heap.objs.size)) (leaving (envP F f s.heap.objs.size) e) (fun _ s'' => CX outer H s E e s'') (fun e' s'' => CX outer H s E e' s'') s'
section
variable {CX : CXT} {P : Program} {w : World} {K : PySem.W.Frag} {mg : Str → Option Value} {base : Heap} {N fr : List Str} {p : Str} {F : NF} {f : Addr} {A : Around} {outer : List Env} {s : Shared} {H : Hp} {E : XK} {u : Value} {v : V} {ws : List (Option V)}
theorem inv_startC {h₁ : Heap} {c : Addr} (S : NScopeC N p fr F.scope) (hd : A.handled = none) (e0 : Env0 P w K mg base A outer s H) (r : RelV v u) (C : CellsAt F.cl fr ws s.heap H) (hc : (ownC F s.heap.objs.size).lookup p = some c) (hns : h₁.Ns s.heap.objs.size fun _ => none)
    (kp : ∀ b o, s.heap.get? b = some o → h₁.get? b = some o) (hv : h₁.IsCell c (some u)) (lt : ∀ y d, (y, d) ∈ ownC F s.heap.objs.size → s.heap.objs.size < d ∧ ∃ v, h₁.IsCell d v) : L2.Inv (ncxC CX P w K mg base N F f A outer s H E) [] (NdefX.startF N [v] ws) H { s with heap := h₁ } := by
  have hpl : 1 + fr.length ≤ N.length := by
    have q := congrArg List.length S.pre
    rw [List.length_take, List.length_cons] at q
    omega
  have noA : ∀ b : Addr, b ∉ (ncxC CX P w K mg base N F f A outer s H E).ex := fun b z => absurd (show b ∈ ([] : List Addr) from z) (by simp)
  have cellK : ∀ {c : Addr} {v : Option Value}, s.heap.IsCell c v → h₁.IsCell c v := fun {c v} ⟨o, ho, hd⟩ => ⟨o, kp _ _ ho, hd⟩
  -- which cell a name has
  have look : ∀ {y : Str} {d : Addr}, (ownC F s.heap.objs.size ++ F.cl).lookup y = some d → (y = p ∧ d = c) ∨ (y ≠ p ∧ F.cl.lookup y = some d) := fun {y d} e => by
    rw [List.lookup_append] at e
    by_cases hy : y = p
    · rw [hy, hc] at e
      exact .inl ⟨hy, (Option.some.inj e).symm⟩
    · have z : (ownC F s.heap.objs.size).lookup y = none := by
        cases q : (ownC F s.heap.objs.size).lookup y with
        | none => rfl
        | some d' =>
          rcases cellsFrom_mem (PySem.mem_of_lookup q) with z | z
          · cases z
          · exact absurd (S.one _ z rfl) hy
      rw [z] at e
      exact .inr ⟨hy, e⟩
  have own : (ownC F s.heap.objs.size ++ F.cl).lookup p = some c := by
    rw [List.lookup_append, hc]
    rfl
  have cl : ∀ {y : Str} {d : Addr}, y ≠ p → F.cl.lookup y = some d → (ownC F s.heap.objs.size ++ F.cl).lookup y = some d := fun {y d} hy e => by
    have z : (ownC F s.heap.objs.size).lookup y = none := by
      cases q : (ownC F s.heap.objs.size).lookup y with
      | none => rfl
      | some d' =>
        rcases cellsFrom_mem (PySem.mem_of_lookup q) with z | z
        · cases z
        · exact absurd (S.one _ z rfl) hy
    rw [List.lookup_append, z]
    exact e
  have hlt := (lt p c (PySem.mem_of_lookup hc)).1
  have old : ∀ {y : Str} {d : Addr}, F.cl.lookup y = some d → d < s.heap.objs.size := fun {y d} e => by
    obtain ⟨v, o, ho, _⟩ := (C.all y d e).2
    exact Heap.lt_size ho
  have pfr : p ∉ fr := fun z => by
    have q := S.frk p z
    rw [S.par] at q
    cases q
  refine ⟨⟨e0.mod, S.kind, rfl, rfl, Nat.le_refl _, fun x y d h1 h2 => ?_, fun y hy => ?_, fun y c z _ => ?_, fun _ => hd, Around.frames_deeper e0.frames, .inr ⟨rfl, rfl⟩, fun b z => absurd z (noA b), e0.bs, e0.bsz, fun b _ _ => noA b,
      fun b z => absurd z (noA b), e0.funs, e0.frf⟩,
    rfl, e0.bare, Un.kept kp, ⟨_, hns, fun i y v' e1 e2 e3 => ?_⟩, fun y d e => ?_, e0.hok.fresh (Nat.le_refl _), fun y d e => ?_, fun q hq => absurd (show q ∈ ([] : List (Addr × Obj)) ++ [] from hq) (by simp), e0.hok.kept kp, ?_⟩
  · rcases look h1 with ⟨a1, a2⟩ | ⟨a1, a2⟩ <;> rcases look h2 with ⟨b1, b2⟩ | ⟨b1, b2⟩
    · rw [a1, b1]
    · exact absurd (old b2) (Nat.not_lt.mpr (by rw [a2]; exact Nat.le_of_lt hlt))
    · exact absurd (old a2) (Nat.not_lt.mpr (by rw [b2]; exact Nat.le_of_lt hlt))
    · exact C.inj _ _ _ a2 b2
  · have hy : F.scope.names.lookup y = some .cell ∨ F.scope.names.lookup y = some .free := hy
    rcases hy with hy | hy
    · have z : y = p := S.one _ (PySem.mem_of_lookup hy) rfl
      rw [z]
      exact ⟨c, own⟩
    · have hf := S.free _ (PySem.mem_of_lookup hy) rfl
      obtain ⟨i, hi⟩ := List.mem_iff_getElem?.mp hf
      obtain ⟨d, hd', _⟩ := C.has i y hi
      exact ⟨d, cl (fun z => pfr (z ▸ hf)) hd'⟩
  · have z : false = true := z
    cases z
  · have e1 : N[i]? = some y := e1
    have clen := C.len
    unfold NdefX.startF at e2
    cases i with
    | zero =>
      have hq : (p :: fr)[0]? = some y := by
        rw [← S.pre, List.getElem?_take_of_lt (by omega)]
        exact e1
      have hy : p = y := by simpa using hq
      have hv' : v = v' := by simpa using e2
      subst hy hv'
      exact ⟨u, r, .inr ⟨.inl S.par, c, own, hv⟩⟩
    | succ j =>
      have e2 : (ws ++ List.replicate (N.length - [v].length - ws.length) none)[j]? = some (some v') := by simpa using e2
      by_cases h2 : j < fr.length
      · have hq : (p :: fr)[j + 1]? = some y := by
          rw [← S.pre, List.getElem?_take_of_lt (by omega)]
          exact e1
        have hq : fr[j]? = some y := by simpa using hq
        rw [List.getElem?_append_left (by omega)] at e2
        obtain ⟨d, hd', hw⟩ := C.has j y hq
        obtain ⟨u', ru, hu⟩ := hw v' e2
        have hin := List.mem_of_getElem? hq
        exact ⟨u', ru, .inr ⟨.inr (S.frk y hin), d, cl (fun z => pfr (z ▸ hin)) hd', cellK hu⟩⟩
      · rw [List.getElem?_append_right (by omega), List.getElem?_replicate] at e2
        split at e2 <;> cases e2
  · rcases look e with ⟨_, rfl⟩ | ⟨_, a2⟩
    · exact ⟨_, hv⟩
    · obtain ⟨v', z⟩ := (C.all y d a2).2
      exact ⟨v', cellK z⟩
  · rcases look e with ⟨_, rfl⟩ | ⟨_, a2⟩
    · exact e0.hok.fresh (Nat.le_of_lt hlt)
    · exact (C.all y d a2).1
  · have clen := C.len
    unfold NdefX.startF
    show _ = N.length
    rw [List.length_append, List.length_append, List.length_map, List.length_replicate]
    simp only [List.length_cons, List.length_nil]
    omega
end
end Fv
set_option Elab.async false
set_option linter.all false
set_option maxRecDepth 100000
set_option maxHeartbeats 4000000
namespace Fv
open PySem PySem.Spec PyProof.Rows L2 TL LamX NdefX
/-! ### lambdas of one parameter that outlive their def -/
/-- what a call of the lambda F at f with one argument does: sp, from the heap in which its cells are not tracked -/
structure LOkA (P : Program) (w : World) (K : PySem.W.Frag) (mg : Str → Option Value) (base : Heap) (CX : CXT) (k : Nat) (f : Addr) (F : LF) (fr : List Str) (ws : List (Option V)) (sp : V → Hp → VK → XK → Prop) : Prop where
  run : ∀ (A : Around) (outer : List Env) (s : Shared) (H : Hp) (u : Value) (v : V) (Q : VK) (E : XK), A.guards = some [] → Room k A → Env0 P w K mg base A outer s H →
    (∃ (od : Option Addr) (sl : Array (Option Value)) (pm ctv : Value), s.heap.get? f = some (⟨.type "function", od, .func (F.fd pm ctv), sl⟩ : Obj)) → s.heap.CodeRec (.ref F.c) F.qual →
    CellsAt F.cl fr ws s.heap H → RelV v u → sp v H Q E → codeAny (model P w) A (.call (.ref f) ⟨[u], []⟩) (CR CX outer P w H s Q E) s
section
variable {CX : CXT} {P : Program} {w : World} {K : PySem.W.Frag} {mg : Str → Option Value} {base : Heap} {N fr : List Str} {p : Str} {F : LF} {f : Addr} {k : Nat} {ws : List (Option V)} {sp : V → Hp → VK → XK → Prop}
theorem lokA_of (S : NScope N [p] fr F.scope) (hb : ∀ (pm ctv u : Value), bindArgs (F.fd pm ctv) ⟨[u], []⟩ = pure [(p, u)])
    (hbody : ∀ (A : Around) (outer : List Env) (s : Shared) (H : Hp) (v : V) (Q : VK) (E : XK), A.guards = some [] → Room k (A.deeper (envF F.nf f s.heap.objs.size)) → sp v H Q E →
      ∃ t, PE (ncx CX P w K mg base N F.nf f A outer s H E) F.body t ∧ t (NdefX.startF N [v] ws) H Q) :
    LOkA P w K mg base CX (k + 1) f F fr ws sp := by
  refine ⟨fun A outer s H u v Q E hgu hr e0 hf hc C rv hsp => ?_⟩
  have lim : s.heap.NoLimit := e0.mod.nolimit.keeps fun b o e => (e0.bs b o e).1
  obtain ⟨od, sl, pm, ctv, ho⟩ := hf
  refine PySem.W.kla_callFunE hr.depth ho rfl S.co S.gen rfl hc ?_
  rw [hb pm ctv u]
  refine wpAny_pure (wpAny_newFunctionEnv S.nocell (fun y hy => by rw [List.mem_singleton.mp hy]; exact S.par p (.head _)) (fun h₁ hns hsb => ⟨lim.fresh _ hsb, ?_⟩) S.kind)
  show codeAny _ _ (.expr F.body (envF F.nf f s.heap.objs.size)) _ _
  have kp : ∀ b o, s.heap.get? b = some o → h₁.get? b = some o := fun b o e => hsb.extBut b o (Nat.ne_of_lt (Heap.lt_size e)) (Heap.get?_push_of_some _ e)
  obtain ⟨t, ht, hq⟩ := hbody A outer s H v Q E hgu (hr.deeper _) hsp
  have I : L2.Inv (ncx CX P w K mg base N F.nf f A outer s H E) [] (NdefX.startF N [v] ws) H { s with heap := h₁, toks := s.toks + ([(p, u)] : List (Str × Value)).length } := inv_startN (F := F.nf) (ps := [p]) (us := [u]) S hr.hd e0 rfl (.cons rv .nil) C hns kp
  refine PySem.W.kla_codeExpr (wpAny_mono (ht.run [] _ (NdefX.startF N [v] ws) H Q I hq) (fun v s' z => ?_) fun e s' z => z)
  obtain ⟨x, H', J, rv, q⟩ := z
  exact ⟨x, H', J.os, J.bare, J.base, J.hok, rv, q⟩
theorem lokA_ofC (S : NScopeC N p fr F.scope) (hb : ∀ (pm ctv u : Value), bindArgs (F.fd pm ctv) ⟨[u], []⟩ = pure [(p, u)])
    (hbody : ∀ (A : Around) (outer : List Env) (s : Shared) (H : Hp) (v : V) (Q : VK) (E : XK), A.guards = some [] → Room k (A.deeper (envP F.nf f s.heap.objs.size)) → sp v H Q E →
      ∃ t, PE (ncxC CX P w K mg base N F.nf f A outer s H E) F.body t ∧ t (NdefX.startF N [v] ws) H Q) :
    LOkA P w K mg base CX (k + 1) f F fr ws sp := by
  refine ⟨fun A outer s H u v Q E hgu hr e0 hf hc C rv hsp => ?_⟩
  have lim : s.heap.NoLimit := e0.mod.nolimit.keeps fun b o e => (e0.bs b o e).1
  obtain ⟨od, sl, pm, ctv, ho⟩ := hf
  refine PySem.W.kla_callFunE hr.depth ho rfl S.co S.gen rfl hc ?_
  rw [hb pm ctv u]
  refine wpAny_pure (lam_envC S.kind S.par fun c h₁ hcl hns kp hv lt ap => ⟨lim.keeps kp, ?_⟩)
  show codeAny _ _ (.expr F.body (envP F.nf f s.heap.objs.size)) _ _
  obtain ⟨t, ht, hq⟩ := hbody A outer s H v Q E hgu (hr.deeper _) hsp
  have I : L2.Inv (ncxC CX P w K mg base N F.nf f A outer s H E) [] (NdefX.startF N [v] ws) H { s with heap := h₁ } := inv_startC (F := F.nf) S hr.hd e0 rv C hcl hns kp hv lt
  refine PySem.W.kla_codeExpr (wpAny_mono (ht.run [] _ (NdefX.startF N [v] ws) H Q I hq) (fun v s' z => ?_) fun e s' z => z)
  obtain ⟨x, H', J, rv, q⟩ := z
  exact ⟨x, H', J.os, J.bare, J.base, J.hok, rv, q⟩
end
/-! ### x(e), x a name that holds such a lambda -/
def tEscA (P : Program) (w : World) (K : PySem.W.Frag) (mg : Str → Option Value) (base : Heap) (k i : Nat) (t : TA) : TE := fun σ H Q => ∃ (f : Addr) (F : LF), σ[i]? = some (some (.ref f)) ∧ H f = some (LamO f F) ∧ t σ H fun vs H1 => ∃ (v : V) (fr : List Str) (ws : List V) (sp : V → Hp → VK → XK → Prop),
  vs = [v] ∧ H1 f = some (LamO f F) ∧ H1 F.c = some (CodeO F.c F.qual) ∧ Held H1 F.cl fr ws ∧ LOkA P w K mg base CX0 k f F fr (ws.map some) sp ∧ sp v (hideC F.cs H1) (fun v H' => (∀ c ∈ F.cs, H' c = none) → Q v (putC F.cs H1 H')) fun _ _ _ => False
section
variable {X : Cx} {k j i : Nat} {x : Str} {p pos : Pos} {e : Expr} {t : TA}
theorem pe_escA (hgu : X.A.guards = some []) (hr : Room j X.A) (hk : k ≤ j) (hN : X.N[i]? = some x) (hv : Vis X.env.scope x) (ha : PA X [e] t)
    (hd : (x == ("__debug__" : Str)) = false := by decide) (hcd : (x == ("__classdict__" : Str)) = false := by decide)
    (hs : starEach [e] X.env = (false, eval e X.env) :: starEach [] X.env := by rfl) (hpl : (backTo pos (starEach [] X.env)).any (·.1) = false := by rfl) : PE X (.Call (.Name x p) [e] [] pos) (tEscA X.prog X.w X.K X.mg X.base k i t) := by
  refine ⟨fun pins s σ H Q I h => ?_⟩
  obtain ⟨f, F, hsf, hf0, h⟩ := h
  refine wpAny_Call_Name_kw (thn ((pe_var (pos := p) hN hv hd hcd).run pins s σ H (fun v H1 => v = .ref f ∧ H1 = H) I ⟨.ref f, hsf, rfl, rfl⟩) fun u s1 ⟨v, H1, I1, r1, q1⟩ => ?_)
  obtain ⟨ev, eH⟩ := q1
  subst ev
  rw [eH] at I1
  obtain rfl : u = Value.ref f := r1
  have fnAt : ∀ {G : Hp} {h : Heap}, HOk X.prog X.w G h → G f = some (LamO f F) → PySem.W.FnAt f h := fun hok hg => by
    obtain ⟨od, sl, pm, ctv, ho⟩ := lamO_at hok hg
    exact ⟨_, od, _, sl, ho⟩
  refine PySem.W.callWith_F (first := []) (fnAt I1.hok hf0) (thn (ha.run pos pins s1 σ _ _ I1 h) fun us s2 ⟨vs, H2, I2, rv, q⟩ => ?_) hs hpl
  obtain ⟨v, fr, ws, sp, rfl, hf, hc, D, L, q⟩ := q
  cases rv with
  | cons r rr =>
    cases rr
    refine ⟨fnAt I2.hok hf, ?_⟩
    show wpAny _ _ (call (.ref f) [_]) _ _ _
    have ho := lamO_at I2.hok hf
    have e0 := I2.env0
    refine wpAny_call (codeAny_mono (L.run X.A X.stack s2 _ _ _ _ _ hgu (hr.mono hk) (env0_hide D.all e0) ho (codeO_at I2.hok hc) (D.cells I2.hok) r q) fun r s' hq => ?_)
    cases r with
    | error e => exact False.elim hq
    | ok fl =>
      cases fl with
      | ret u => exact I2.after (ce_put D.all e0 hq)
      | next => exact False.elim hq
      | brk => exact False.elim hq
      | cont => exact False.elim hq
end
end Fv
set_option Elab.async false
set_option linter.all false
set_option maxRecDepth 100000
set_option maxHeartbeats 4000000
namespace Fv
open PySem PySem.Spec PyProof.Rows L2 TL
/-! ### enumerate(str, k) -/
/-- the signs of x, each in a new pair behind its number -/
def ItEs (x : Str) (k₀ : Int) : It :=
  ⟨fun i _ => i < x.cps.size, fun i H v H' => ∃ T c, v = .ref T ∧ H T = none ∧ x.cps[i]? = some c ∧ H' = upd H T (.tup [.int (k₀ + (i : Nat)), .str ⟨#[c]⟩]), fun i _ => x.cps.size ≤ i⟩
theorem turn_enumS {P : Program} {w : World} {K : PySem.W.Frag} {elts : List Expr} {kk : Nat} {tpos : Pos} (e it : Addr) (x : Str) (t : Tok) (k₀ : Int) :
    Turn P w K (.Tuple elts kk tpos) (ItEs x k₀) [e, it] e (fun i h => (∃ old, IsEnum h e it (k₀ + ((i : Nat) : Int)) old) ∧ h.IsStrIter it (strIterType x) x t i ∧ e ≠ it ∧ i ≤ x.cps.size) where
  mem := by simp
  obj := fun i h st b hb => by
    obtain ⟨⟨old, he⟩, ⟨o, ho, hc, hd⟩, _⟩ := st
    have e' : b = e ∨ b = it := by simpa using hb
    rcases e' with z | z
    · rw [z]; exact ⟨_, he, fun v q => nomatch q⟩
    · rw [z]; exact ⟨o, ho, fun v q => by rw [hd] at q; cases q⟩
  keep := fun i h h' st k => by
    obtain ⟨⟨old, he⟩, ⟨o, ho, r⟩, hne⟩ := st
    exact ⟨⟨old, k e (by simp) _ he⟩, ⟨o, k it (by simp) o ho, r⟩, hne⟩
  item := by
    intro X hP hw hK hc i pins s σ H E I hf st hg
    subst hP hw hK
    obtain ⟨⟨old, he⟩, hit, hne, hle⟩ := st
    have hel : e < s.heap.objs.size := Heap.lt_size he
    have hil : it < s.heap.objs.size := by obtain ⟨_, q, _⟩ := hit; exact Heap.lt_size q
    have D : Draws X.prog X.w X.A.in1 it [it] x.cps.size (fun i v => ∃ c u, x.cps[i]? = some c ∧ v = .str ⟨#[c]⟩ u) (fun i h => h.IsStrIter it (strIterType x) x t i) := Draws.text (A := X.A.in1) (I.ok.hd hc) it x t
    refine wpAny_pyNext_enum_itemC D he hit hg hne (by simpa using hne) fun y h' tk hy ho hit' hT hsz hk => ?_
    obtain ⟨c, u, hcx, rfl⟩ := hy
    refine ⟨_, rfl, wpAny_letOwnedTupleGo_enum (s := { s with heap := h', toks := tk + 1 }) ho fun h'' he' sb => ?_⟩
    have hT2 : h''.get? s.heap.objs.size = some { cls := .type "tuple", data := .seq #[.int (k₀ + (i : Nat)) tk, .str ⟨#[c]⟩ u] } := (sb.2 _ (Nat.ne_of_gt hel)).trans hT
    have new : ObjOk X.prog X.w (upd H s.heap.objs.size (.tup [.int (k₀ + (i : Nat)), .str ⟨#[c]⟩])) h'' s.heap.objs.size (.tup [.int (k₀ + (i : Nat)), .str ⟨#[c]⟩]) :=
      ⟨by show 2 ≤ sizeLine; decide, [.int (k₀ + (i : Nat)) tk, .str ⟨#[c]⟩ u], .cons ⟨_, rfl⟩ (.cons ⟨_, rfl⟩ .nil), ⟨_, hT2, rfl, _, rfl⟩⟩
    have I1 : Inv X pins σ (upd H s.heap.objs.size (.tup [.int (k₀ + (i : Nat)), .str ⟨#[c]⟩])) { s with heap := h'', toks := tk + 1 } :=
      I.turnedNew (ch := [e, it]) (fun b ob hb q => (sb.2 b (fun z => hb (by simp [z]))).trans (hk b ob (fun z => hb (by simp [z])) (fun z => hb (by simp [z])) q)) hf (Nat.le_refl _) new
    refine ⟨.ref s.heap.objs.size, _, I1, rfl, ⟨_, c, rfl, I.hok.fresh (Nat.le_refl _), hcx, rfl⟩, ⟨⟨.str ⟨#[c]⟩ u, ?_⟩, ?_, hne, hg⟩, fun b hb => ?_⟩
    · have e1 : k₀ + ((i + 1 : Nat) : Int) = k₀ + (i : Int) + 1 := by omega
      rw [e1]; exact he'
    · obtain ⟨oi, ei, ri⟩ := hit'
      exact ⟨oi, (sb.2 it (Ne.symm hne)).trans ei, ri⟩
    · have hb' : b < s.heap.objs.size := by
        have e' : b = e ∨ b = it := by simpa using hb
        rcases e' with z | z
        · rw [z]; exact hel
        · rw [z]; exact hil
      rw [upd_ne (Nat.ne_of_lt hb')]
      exact (hf b hb).1
  done := by
    intro X hP hw hK hc i pins s σ H E I hf st hg
    subst hP hw hK
    obtain ⟨⟨old, he⟩, hit, hne, hle⟩ := st
    have hi : i = x.cps.size := Nat.le_antisymm hle hg
    subst hi
    obtain ⟨f0, f1, f2, f3, f4, f5⟩ := hf it (by simp)
    have D : Draws X.prog X.w X.A.in1 it [it] x.cps.size (fun i v => ∃ c u, x.cps[i]? = some c ∧ v = .str ⟨#[c]⟩ u) (fun i h => h.IsStrIter it (strIterType x) x t i) := Draws.text (A := X.A.in1) (I.ok.hd hc) it x t
    exact wpAny_pyNext_enum_endD D he hit fun h' eb => ⟨rfl, I.turned (t' := s.toks) (fun b o hb q => eb b o hb q) f0 f1 f3 f4 f5⟩
  self := fun A i s Q E st h => let ⟨⟨_, he⟩, _⟩ := st; wpAny_pyIter_enum he h
def iEnumS (ta : TA) : TI := fun σ H R => ta σ H fun vs H1 => ∃ (x : Str) (k : Int), vs = [.str x, .int k] ∧ 0 ≤ k ∧ k ≤ 1000 ∧ R (ItEs x k) H1
theorem pi_enumS {X : Cx} {e e2 : Expr} {ta : TA} {p pos tpos : Pos} {elts : List Expr} {kk : Nat} (hg : Gl X "enumerate") (hm : X.mg "enumerate" = none) (ha : PA X [e, e2] ta) (hs : starEach [e, e2] X.env = (false, eval e X.env) :: starEach [e2] X.env := by rfl) (hpl : (backTo pos (starEach [e2] X.env)).any (·.1) = false := by rfl) :
    PI X (.Tuple elts kk tpos) (.Call (.Name "enumerate" p) [e, e2] [] pos) (iEnumS ta) := by
  refine ⟨fun pins s σ H R I h => ?_⟩
  refine Call_ (ld_blt I hg hm boot_enumerate (callWith_type1 (thn (ha.run pos pins s σ H _ I h) fun us s1 ⟨vs, H1, I1, r1, q1⟩ => ?_) hs hpl))
  obtain ⟨x, k, ex, k0, k1, q⟩ := q1
  subst ex
  cases r1 with
  | cons r rr =>
    cases rr with
    | cons r2 rr =>
      cases rr
      obtain ⟨t1, rfl⟩ := r
      obtain ⟨t2, rfl⟩ := r2
      refine enum_begins (begins_text x t1) trivial (by omega) (by omega) fun h' he hit hsz hk => wpAny_pyIter_enum he ?_
      have I2 : Inv X pins σ H1 { s1 with heap := h' } := I1.kept (t' := s1.toks) hk
      refine ⟨s1.heap.objs.size + 1, [s1.heap.objs.size + 1, s1.heap.objs.size], _, _, H1, rfl, I2, turn_enumS (s1.heap.objs.size + 1) s1.heap.objs.size x t1 k, ⟨⟨.none, by simpa using he⟩, ⟨_, hit, rfl, rfl⟩, Nat.succ_ne_self _, Nat.zero_le _⟩, fun b hb => ?_, q⟩
      have e' : b = s1.heap.objs.size + 1 ∨ b = s1.heap.objs.size := by simpa using hb
      have hle : s1.heap.objs.size ≤ b := by
        rcases e' with z | z
        · rw [z]; exact Nat.le_add_right _ _
        · rw [z]; exact Nat.le_refl _
      exact I1.fpOk hle (I1.hok.fresh hle)
theorem walk_enumS {x : Str} {k : Int} : Walk (ItEs x k) x.length (fun _ => True) (fun i H v H' => ∃ T, v = .ref T ∧ H T = none ∧ H' = upd H T (.tup [.int (k + (i : Nat)), signV x i])) :=
  ⟨fun _ _ hi _ => hi, fun _ _ => Nat.le_refl _, fun i H v H' hi _ y => by
    obtain ⟨T, c, h1, h2, h3, h4⟩ := y
    refine ⟨T, h1, h2, ?_⟩
    rw [h4]
    unfold signV
    have h5 : x.cps.toList[i]? = some c := by rw [Array.getElem?_toList]; exact h3
    rw [List.getD_eq_getElem?_getD, h5]
    rfl⟩
end Fv
set_option Elab.async false
set_option linter.all false
set_option maxRecDepth 100000
set_option maxHeartbeats 2000000
namespace Fv
open PySem PySem.Spec PyProof.Rows L2
/-! ### data of any kind: what a value is, all through -/
mutual
inductive Dv (K : PySem.W.Frag) (H : Hp) : V → PyData → Prop
  | non : Dv K H .non .none
  | bl (b : Bool) : Dv K H (.bl b) (.bool b)
  | int (i : Int) : Dv K H (.int i) (.int i)
  | str (x : Str) (h : x.length ≤ 1000000) : Dv K H (.str x) (.str x)
  | lst {a : Addr} {xs : List V} {ds : List PyData} (h : H a = some (.lst xs)) (n : a ≠ sysModules) (g : DvAll K H xs ds) : Dv K H (.ref a) (.list ds)
  | tup {a : Addr} {xs : List V} {ds : List PyData} (h : SqT K H a xs) (g : DvAll K H xs ds) : Dv K H (.ref a) (.tuple ds)
  | dct {a : Addr} (h : H a = some (.dK [])) : Dv K H (.ref a) (.dict [])
  | dc1 {a : Addr} (x : Str) {v : V} {d : PyData} (h : H a = some (.dK [(.inr x, v)])) (g : Dv K H v d) : Dv K H (.ref a) (.dict [(.str x, d)])
inductive DvAll (K : PySem.W.Frag) (H : Hp) : List V → List PyData → Prop
  | nil : DvAll K H [] []
  | cons {v : V} {vs : List V} {d : PyData} {ds : List PyData} (h : Dv K H v d) (g : DvAll K H vs ds) : DvAll K H (v :: vs) (d :: ds)
end
theorem same_sqL {K : PySem.W.Frag} {H H' : Hp} {a : Addr} {xs : List V} (s : Same H H') (h : SqL K H a xs) : SqL K H' a xs := by
  rcases h with (h | ⟨o, h⟩) | h
  · exact .inl (.inl (s _ _ h))
  · exact .inl (.inr ⟨o, s _ _ h⟩)
  · exact .inr h
theorem same_sqT {K : PySem.W.Frag} {H H' : Hp} {a : Addr} {xs : List V} (s : Same H H') (h : SqT K H a xs) : SqT K H' a xs := by
  rcases h with (h | ⟨o, h⟩) | h
  · exact .inl (.inl (s _ _ h))
  · exact .inl (.inr ⟨o, s _ _ h⟩)
  · exact .inr h
mutual
theorem Dv.same {K : PySem.W.Frag} {H H' : Hp} (s : Same H H') : ∀ {d : PyData} {v : V}, Dv K H v d → Dv K H' v d
  | _, _, .non => .non
  | _, _, .bl b => .bl b
  | _, _, .int i => .int i
  | _, _, .str x h => .str x h
  | _, _, .lst h n g => .lst (s _ _ h) n (DvAll.same s g)
  | _, _, .tup h g => .tup (same_sqT s h) (DvAll.same s g)
  | _, _, .dct h => .dct (s _ _ h)
  | _, _, .dc1 x h g => .dc1 x (s _ _ h) (Dv.same s g)
theorem DvAll.same {K : PySem.W.Frag} {H H' : Hp} (s : Same H H') : ∀ {ds : List PyData} {vs : List V}, DvAll K H vs ds → DvAll K H' vs ds
  | _, _, .nil => .nil
  | _, _, .cons h g => .cons (Dv.same s h) (DvAll.same s g)
end
theorem DvAll.len {K : PySem.W.Frag} {H : Hp} : ∀ {vs : List V} {ds : List PyData}, DvAll K H vs ds → vs.length = ds.length
  | _, _, .nil => rfl
  | _, _, .cons _ g => congrArg (· + 1) (DvAll.len g)
theorem DvAll.get {K : PySem.W.Frag} {H : Hp} : ∀ {vs : List V} {ds : List PyData}, DvAll K H vs ds → ∀ {i : Nat} {v : V}, vs[i]? = some v → ∃ d, ds[i]? = some d ∧ Dv K H v d
  | _, _, .nil, i, v, h => by cases i <;> cases h
  | _, _, .cons h g, 0, v, e => by
    cases e
    exact ⟨_, rfl, h⟩
  | _, _, .cons h g, i + 1, v, e => DvAll.get g (i := i) e
theorem DvAll.append {K : PySem.W.Frag} {H : Hp} : ∀ {vs ws : List V} {ds es : List PyData}, DvAll K H vs ds → DvAll K H ws es → DvAll K H (vs ++ ws) (ds ++ es)
  | _, _, _, _, .nil, g => g
  | _, _, _, _, .cons h t, g => .cons h (DvAll.append t g)
theorem DvAll.take {K : PySem.W.Frag} {H : Hp} : ∀ {vs : List V} {ds : List PyData}, DvAll K H vs ds → ∀ n, DvAll K H (vs.take n) (ds.take n)
  | _, _, _, 0 => .nil
  | _, _, .nil, n + 1 => .nil
  | _, _, .cons h t, n + 1 => .cons h (DvAll.take t n)
theorem DvAll.drop {K : PySem.W.Frag} {H : Hp} : ∀ {vs : List V} {ds : List PyData}, DvAll K H vs ds → ∀ n, DvAll K H (vs.drop n) (ds.drop n)
  | _, _, g, 0 => g
  | _, _, .nil, n + 1 => .nil
  | _, _, .cons h t, n + 1 => DvAll.drop t n
/-- a value's type by its name -/
def tyN : PyData → String
  | .none => "NoneType"
  | .bool _ => "bool"
  | .int _ => "int"
  | .str _ => "str"
  | .list _ => "list"
  | .tuple _ => "tuple"
  | .dict _ => "dict"
theorem Dv.ty {K : PySem.W.Frag} {H : Hp} {v : V} {d : PyData} (h : Dv K H v d) : TyX K H v (.type (tyN d)) := by
  cases h with
  | non => exact .base .non
  | bl b => exact .base (.bl b)
  | int i => exact .base (.int i)
  | str x h => exact .base (.str x)
  | lst h n g =>
    exact .base (.lst h)
  | tup h g =>
    rcases h with (h | ⟨o, h⟩) | ⟨o, _, _, e, c, _⟩
    · exact .base (.tup h)
    · exact .fTuple h
    · exact .kTuple e c
  | dct h => exact .base (.dK h)
  | dc1 x h g => exact .base (.dK h)
def isT (T : String) (d : PyData) : Bool := match kitB (tyN d) T with
  | some b => b
  | none => false
theorem kit_isT {K : PySem.W.Frag} {T : String} (hT : T = "tuple" ∨ T = "str" ∨ T = "int" ∨ T = "bool") (d : PyData) : PySem.W.kitOne K (.type (tyN d)) (.type T) = some (isT T d) := by
  refine kit_ty ?_
  unfold isT
  have : (kitB (tyN d) T).isSome = true := by
    rcases hT with rfl | rfl | rfl | rfl <;> cases d <;> (simp only [tyN]; decide +kernel)
  obtain ⟨b, hb⟩ := Option.isSome_iff_exists.mp this
  rw [hb]
theorem isT_tuple (d : PyData) : isT "tuple" d = true ↔ ∃ xs, d = .tuple xs := by
  cases d with
  | tuple xs => exact ⟨fun _ => ⟨xs, rfl⟩, fun _ => by show isT "tuple" (.tuple []) = true; decide +kernel⟩
  | none => exact ⟨fun h => absurd h (by decide +kernel), fun ⟨_, e⟩ => by cases e⟩
  | bool b => exact ⟨fun h => absurd h (by show ¬ isT "tuple" (.bool true) = true; decide +kernel), fun ⟨_, e⟩ => by cases e⟩
  | int b => exact ⟨fun h => absurd h (by show ¬ isT "tuple" (.int 0) = true; decide +kernel), fun ⟨_, e⟩ => by cases e⟩
  | str b => exact ⟨fun h => absurd h (by show ¬ isT "tuple" (.str Str.empty) = true; decide +kernel), fun ⟨_, e⟩ => by cases e⟩
  | list b => exact ⟨fun h => absurd h (by show ¬ isT "tuple" (.list []) = true; decide +kernel), fun ⟨_, e⟩ => by cases e⟩
  | dict b => exact ⟨fun h => absurd h (by show ¬ isT "tuple" (.dict []) = true; decide +kernel), fun ⟨_, e⟩ => by cases e⟩
theorem isT_str (d : PyData) : isT "str" d = true ↔ ∃ x, d = .str x := by
  cases d with
  | str x => exact ⟨fun _ => ⟨x, rfl⟩, fun _ => by show isT "str" (.str Str.empty) = true; decide +kernel⟩
  | none => exact ⟨fun h => absurd h (by decide +kernel), fun ⟨_, e⟩ => by cases e⟩
  | bool b => exact ⟨fun h => absurd h (by show ¬ isT "str" (.bool true) = true; decide +kernel), fun ⟨_, e⟩ => by cases e⟩
  | int b => exact ⟨fun h => absurd h (by show ¬ isT "str" (.int 0) = true; decide +kernel), fun ⟨_, e⟩ => by cases e⟩
  | tuple b => exact ⟨fun h => absurd h (by show ¬ isT "str" (.tuple []) = true; decide +kernel), fun ⟨_, e⟩ => by cases e⟩
  | list b => exact ⟨fun h => absurd h (by show ¬ isT "str" (.list []) = true; decide +kernel), fun ⟨_, e⟩ => by cases e⟩
  | dict b => exact ⟨fun h => absurd h (by show ¬ isT "str" (.dict []) = true; decide +kernel), fun ⟨_, e⟩ => by cases e⟩
/-- a whole number that is no bool -/
theorem isT_num (d : PyData) : (isT "int" d = true ∧ isT "bool" d = false) ↔ ∃ i, d = .int i := by
  cases d with
  | int x => exact ⟨fun _ => ⟨x, rfl⟩, fun _ => by show isT "int" (.int 0) = true ∧ isT "bool" (.int 0) = false; decide +kernel⟩
  | none => exact ⟨fun h => absurd h.1 (by decide +kernel), fun ⟨_, e⟩ => by cases e⟩
  | bool b => exact ⟨fun h => absurd h.2 (by show ¬ isT "bool" (.bool true) = false; decide +kernel), fun ⟨_, e⟩ => by cases e⟩
  | str b => exact ⟨fun h => absurd h.1 (by show ¬ isT "int" (.str Str.empty) = true; decide +kernel), fun ⟨_, e⟩ => by cases e⟩
  | tuple b => exact ⟨fun h => absurd h.1 (by show ¬ isT "int" (.tuple []) = true; decide +kernel), fun ⟨_, e⟩ => by cases e⟩
  | list b => exact ⟨fun h => absurd h.1 (by show ¬ isT "int" (.list []) = true; decide +kernel), fun ⟨_, e⟩ => by cases e⟩
  | dict b => exact ⟨fun h => absurd h.1 (by show ¬ isT "int" (.dict []) = true; decide +kernel), fun ⟨_, e⟩ => by cases e⟩
section
variable {X : Cx} {pins : List (Addr × Obj)} {σ : L2.St} {H : Hp} {s : Shared}
/-- isinstance of data -/
theorem call_isD : CallR X (.builtin "isinstance") (fun xs H Q => ∃ (v : V) (d : PyData) (T : String), xs = [v, .ty T] ∧ Dv X.K H v d ∧ (T = "tuple" ∨ T = "str" ∨ T = "int" ∨ T = "bool") ∧ Q (.bl (isT T d)) H) := by
  intro pins s σ H xs us Q I r h
  obtain ⟨v, d, T, rfl, hd, hT, q⟩ := h
  exact call_isi pins s σ H _ us Q I r ⟨v, .ty T, _, .type T, isT T d, rfl, .ty T, hd.ty, kit_isT hT d, q⟩
theorem strs_of {w : World} {x : Str} {u : Value} (h : (mixKind X.prog w).is (.inr x) u = true) : ∃ t, u = .str x t := by
  cases u with
  | str y t =>
    have e : Value.isStrOf x (.str y t) = true := h
    refine ⟨t, ?_⟩
    have : y = x := by simpa [Value.isStrOf] using e
    rw [this]
  | _ => cases h
mutual
theorem Dv.reads (I : Inv X pins σ H s) : ∀ (d : PyData) (v : V) (u : Value), Dv X.K H v d → RelV v u → ∃ as, Reads s.heap u d as ∧ sysModules ∉ as
  | .none, _, _, h, r => by
    cases h
    cases r
    exact ⟨[], Reads.none, fun z => nomatch z⟩
  | .bool b, _, _, h, r => by
    cases h
    cases r
    exact ⟨[], Reads.bool b, fun z => nomatch z⟩
  | .int i, _, _, h, r => by
    cases h
    obtain ⟨t, e⟩ := r
    subst e
    exact ⟨[], Reads.int i t, fun z => nomatch z⟩
  | .str x, _, _, h, r => by
    cases h
    obtain ⟨t, e⟩ := r
    subst e
    exact ⟨[], Reads.str x t, fun z => nomatch z⟩
  | .list ds, _, _, h, r => by
    cases h with
    | lst hq hn0 ga =>
      cases r
      obtain ⟨its, rv, ⟨o, n, ho, hc, _, hd⟩, _⟩ := I.list (.inl (.inl hq))
      obtain ⟨as, hr, hn⟩ := Dv.readsAll I ds _ its ga rv
      exact ⟨_, Reads.list ho hc hd hr, fun z => by
        rcases List.mem_cons.mp z with z | z
        · exact hn0 z.symm
        · exact hn z⟩
  | .tuple ds, _, _, h, r => by
    cases h with
    | tup hq ga =>
      cases r
      obtain ⟨its, rv, ⟨o, ho, hc, n, hd⟩, _⟩ := I.tuple hq
      obtain ⟨as, hr, hn⟩ := Dv.readsAll I ds _ its ga rv
      exact ⟨_, Reads.tuple ho hc hd hr, hn⟩
  | .dict [], _, _, h, r => by
    cases h with
    | dct ha =>
      cases r
      obtain ⟨_, hsm, vs, kv, o, es, ep, e1, e2, e3, _, e4, _⟩ := dk_of I.hok ha
      cases kv
      have ee : es = #[] := by
        have : es.toList = [] := by cases e4' : es.toList with
          | nil => rfl
          | cons x l =>
            rw [e4'] at e4
            cases e4
        exact Array.toList_eq_nil_iff.mp this
      subst ee
      refine ⟨_, Reads.dict (kvs := []) e1 e2.1 e3 .nil .nil, fun z => ?_⟩
      rcases List.mem_cons.mp z with z | z
      · rw [← z] at hsm
        simp at hsm
      · cases z
  | .dict [(k, d)], _, _, h, r => by
    cases h with
    | @dc1 a x v _ ha g =>
      cases r
      obtain ⟨_, hsm, vs, kv, o, es, ep, e1, e2, e3, _, e4, _⟩ := dk_of I.hok ha
      cases kv with
      | @cons p q l1 l2 hpq rest =>
      cases rest
      obtain ⟨qk, qv⟩ := q
      obtain ⟨hk0, rv⟩ := hpq
      have hk1 : (Sum.inr x : Key) = qk := hk0
      subst hk1
      obtain ⟨ee, hes, hk, hv⟩ : ∃ ee : DictEntry, es.toList = [ee] ∧ (mixKind X.prog X.w).is (.inr x) ee.key = true ∧ ee.val = qv := by
        cases e4' : es.toList with
        | nil =>
          rw [e4'] at e4
          cases e4
        | cons z l =>
          rw [e4'] at e4
          cases e4 with
          | cons k1 k2 rest =>
            cases rest
            exact ⟨z, rfl, k1, k2⟩
      obtain ⟨t, ht⟩ := strs_of hk
      obtain ⟨as, hr, hn⟩ := Dv.reads I d v qv g rv
      refine ⟨_, Reads.dict (kvs := [(.str x, d)]) (as := [] ++ []) (bs := as ++ []) e1 e2.1 e3 ?_ ?_, fun z => ?_⟩
      · rw [hes]
        show ReadsAll s.heap [ee.key] [.str x] _
        rw [ht]
        exact .cons (.str x t) .nil
      · rw [hes]
        show ReadsAll s.heap [ee.val] [d] _
        rw [hv]
        exact .cons hr .nil
      · rcases List.mem_cons.mp z with z | z
        · rw [← z] at hsm
          simp at hsm
        · exact hn (by simpa using z)
  | .dict (_ :: _ :: _), _, _, h, _ => by cases h
theorem Dv.readsAll (I : Inv X pins σ H s) : ∀ (ds : List PyData) (vs : List V) (us : List Value), DvAll X.K H vs ds → Vals vs us → ∃ as, ReadsAll s.heap us ds as ∧ sysModules ∉ as
  | [], _, _, h, r => by
    cases h
    cases r
    exact ⟨_, ReadsAll.nil, fun z => nomatch z⟩
  | d :: ds, _, _, h, r => by
    cases h with
    | cons k1 k2 =>
      cases r with
      | cons r1 r2 =>
        obtain ⟨as, q1, n1⟩ := Dv.reads I d _ _ k1 r1
        obtain ⟨bs, q2, n2⟩ := Dv.readsAll I ds _ _ k2 r2
        exact ⟨_, ReadsAll.cons q1 q2, fun m => by
          rcases List.mem_append.mp m with m | m
          · exact n1 m
          · exact n2 m⟩
end
/-- data that can be shown -/
structure Dok (n m : Nat) (d : PyData) : Prop where
  sh : d.showable = true
  dp : d.depth ≤ m
  len : d.shown.length ≤ n
theorem Dok.mono {n m n' m' : Nat} {d : PyData} (h : Dok n m d) (a : n ≤ n') (b : m ≤ m') : Dok n' m' d := ⟨h.sh, Nat.le_trans h.dp b, Nat.le_trans h.len a⟩
/-- repr of such, where no repr is under way -/
theorem call_reprV (hgu : X.A.guards = some []) (hu : X.A.units + 64 < cLine) : CallR X (.builtin "repr") (fun xs H Q => ∃ (v : V) (d : PyData) (n : Nat), xs = [v] ∧ Dv X.K H v d ∧ Dok n 40 d ∧ n ≤ sizeLine ∧ Q (.str d.shown) H) := by
  intro pins s σ H xs us Q I rv h
  obtain ⟨v, d, n, rfl, hd, ok, hn, q⟩ := h
  obtain ⟨u, rfl, ru⟩ := rv.one
  have hz := Nat.le_trans ok.len hn
  have obj : ∀ a, u = .ref a → wpAny (model X.prog X.w) X.A (call (.builtin "repr") [u]) (EP X pins σ Q) X.xe s := fun a e => by
    obtain ⟨as, rd, hs⟩ := Dv.reads I d v u hd ru
    subst e
    refine repr_of_reads' rd ok.sh (fun _ => hs) hgu (by have := ok.dp; omega) (fun _ _ e => e) (fun h' u tk kp => ?_) hz
    exact ⟨.str d.shown, H, I.kept (t' := tk) kp, ⟨u, rfl⟩, q⟩
  cases hd with
  | non =>
    cases ru
    exact P.repr_of_none ⟨.str "None", H, I.tok _, ⟨_, rfl⟩, by simpa only [PyData.shown] using q⟩
  | bl b =>
    cases ru
    exact P.repr_of_bool ⟨.str (if b then "True" else "False"), H, I.tok _, ⟨_, by cases b <;> rfl⟩, by simpa only [PyData.shown] using q⟩
  | int i =>
    obtain ⟨t, rfl⟩ := ru
    have hi : i.natAbs.log2 < 1920 := by simpa [PyData.showable] using ok.sh
    exact P.repr_of_int hi ⟨.str (toString i), H, I.tok _, ⟨_, rfl⟩, by simpa only [PyData.shown] using q⟩
  | str x _ =>
    obtain ⟨t, rfl⟩ := ru
    exact P.repr_of_str ⟨.str (reprText x), H, I.tok _, ⟨_, rfl⟩, by simpa only [PyData.shown] using q⟩ (by simpa only [PyData.shown] using hz)
  | @lst a xs ds hq hn g => cases ru; exact obj a rfl
  | @tup a xs ds hq g => cases ru; exact obj a rfl
  | @dct a hq => cases ru; exact obj a rfl
  | @dc1 a x v d hq g => cases ru; exact obj a rfl
end
end Fv
set_option Elab.async false
set_option linter.all false
set_option maxRecDepth 100000
set_option maxHeartbeats 2000000
namespace Fv
open PySem L2 TL
/-! ### comprehensions -/
/-! in a block K is named -/
def rIsD (K : PySem.W.Frag) : List V → Hp → VK → Prop := fun xs H Q => ∃ (v : V) (d : PyData) (T : String), xs = [v, .ty T] ∧ Dv K H v d ∧ (T = "tuple" ∨ T = "str" ∨ T = "int" ∨ T = "bool") ∧ Q (.bl (isT T d)) H
theorem call_isB {X : Cx} {K : PySem.W.Frag} (hK : X.K = K) : CallR X (.builtin "isinstance") (rIsD K) := by
  subst hK
  exact call_isD
theorem pi_tupB {X : Cx} {K : PySem.W.Frag} {tg l : Expr} {tl : TE} (hK : X.K = K) (hl : PE X l tl) : PI X tg l (iTup K tl) := by
  subst hK
  exact pi_tup hl
theorem pi_listB {X : Cx} {K : PySem.W.Frag} {tg l : Expr} {tl : TE} (hK : X.K = K) (hl : PE X l tl) : PI X tg l (iList K tl) := by
  subst hK
  exact pi_list hl
theorem pe_all {X : Cx} {K : PySem.W.Frag} {e : Expr} {es : List Expr} {t : TA} {p pos : Pos} (hK : X.K = K) (hc : X.calm = true) (hg : Gl X "all") (hm : X.mg "all" = none) (ha : PA X (e :: es) t)
    (he : starEach (e :: es) X.env = (false, eval e X.env) :: starEach es X.env := by rfl) (hpl : (backTo pos (starEach es X.env)).any (·.1) = false := by rfl) : PE X (.Call (.Name "all" p) (e :: es) [] pos) (tCB (rAll K) t) := by
  subst hK
  exact pe_callB (cr_all hc) hg hm (by decide +kernel) ha (by decide) (by decide) he hpl
abbrev noScope : Scope := { kind := .function, names := [], isGenerator := false, isCoroutine := false }
/-- a block in a block that captures nothing -/
theorem blk_in {N : List Str} {sc scope : Scope} {own : List (Str × Nat)} (h : BlkOk N noScope scope own) : BlkOk N sc scope own := ⟨h.kind, h.uniq, h.ix, fun y m e => (by
  rcases h.free y m e with z | z <;> cases z), h.own⟩
theorem len_k {z : Str} (h : z.length ≤ 1000000) : z.length ≤ sizeLine := by
  rw [sizeLine_eq]
  omega
theorem take_more {α : Type} {l : List α} {i : Nat} {a : α} (h : l[i]? = some a) : l.take (i + 1) = l.take i ++ [a] := by
  rw [List.take_add_one, h]
  rfl
/-- a comprehension over a text whose element is a test of the sign -/
theorem lc_signs {s : Nat} {te : TE} {vs : List Nat} {σ : L2.St} {H1 : Hp} {D : Addr} {Qd : Hp → Prop} (z : Str) (f : Nat → Bool) (hw : ∀ v, wipe ((wipe σ vs).set s (some v)) vs = wipe σ vs) (hn : z.length ≤ 10000)
    (he : ∀ (c : Nat) (H : Hp) (Q : VK), Q (.bl (f c)) H → te ((wipe σ vs).set s (some (.str ⟨#[c]⟩))) H Q)
    (hd : Qd (upd H1 D (.lst (((tl z).map f).map V.bl)))) :
    ∃ W : Nat → Nat → Hp → Prop, (∃ m, W 0 m (upd H1 D (.lst []))) ∧ ∀ i m H, W i m H →
      ((Its z).stop i H ∧ Qd H) ∨ ((Its z).go i H ∧ ∃ Nx : Hp → Prop, (∀ H', Nx H' → ∃ m', m' < m ∧ W (i + 1) m' H') ∧ ∀ x H', (Its z).yld i H x H' → gName s x (wipe σ vs) H' fun σ2 H2 => wipe σ2 vs = wipe σ vs ∧ tYes σ2 H2 fun b H3 =>
        if b = true then te σ2 H3 fun y H4 => ∃ acc, H4 D = some (.lst acc) ∧ acc.length < sizeLine ∧ Nx (upd H4 D (.lst (acc ++ [y]))) else Nx H3) := by
  have hz : (tl z).length = z.cps.size := Array.length_toList
  refine lc_it walk_str (fun i H => H = upd H1 D (.lst ((((tl z).take i).map f).map V.bl))) rfl (fun _ _ _ _ => trivial) (fun i v H H' hi p y => ?_) (fun H p => ?_)
  · obtain ⟨rfl, c, hc, rfl⟩ := y
    subst p
    refine ⟨hw _, ?_⟩
    simp only [tYes, ↓reduceIte]
    refine he c _ _ ⟨_, upd_same, ?_, ?_⟩
    · rw [List.length_map, List.length_map, List.length_take]
      have hl : z.cps.size = z.length := rfl
      exact Nat.lt_of_lt_of_le (by omega : _ < 10001) (by rw [sizeLine_eq]; decide)
    · have hc' : (tl z)[i]? = some c := by rw [Array.getElem?_toList]; exact hc
      rw [upd_upd, take_more hc', List.map_append, List.map_append]
      rfl
  · rw [p, ← hz, List.take_length]
    exact hd
theorem all_id (l : List Nat) (f : Nat → Bool) : (l.map f).all id = l.all f := by
  rw [List.all_map]
  rfl
/-- a comprehension whose i-th element is told by R -/
theorem lc_each {J : It} {G : Hp → Prop} {xs : List V} (w : Walk J xs.length G (YAt xs)) {s : Nat} {te : TE} {vs : List Nat} {σ : L2.St} {H1 : Hp} {D : Addr} {Qd : Hp → Prop} (R : Nat → V → Hp → Prop)
    (hw : ∀ v, wipe ((wipe σ vs).set s (some v)) vs = wipe σ vs) (hn : xs.length ≤ 10000) (hD : H1 D = none) (hG : ∀ H, Same H1 H → G H)
    (mono : ∀ i v H H', i < xs.length → (∃ ys, H D = some (.lst ys)) → But D H H' → R i v H → R i v H')
    (he : ∀ (i : Nat) (v : V) (H : Hp) (Q : VK), xs[i]? = some v → Same H1 H → (∃ ys, H D = some (.lst ys)) → (∀ y H', Same H H' → R i y H' → Q y H') → te ((wipe σ vs).set s (some v)) H Q)
    (hd : ∀ ys H, ys.length = xs.length → (∀ i y, ys[i]? = some y → R i y H) → H D = some (.lst ys) → Same H1 H → Qd H) :
    ∃ W : Nat → Nat → Hp → Prop, (∃ m, W 0 m (upd H1 D (.lst []))) ∧ ∀ i m H, W i m H →
      (J.stop i H ∧ Qd H) ∨ (J.go i H ∧ ∃ Nx : Hp → Prop, (∀ H', Nx H' → ∃ m', m' < m ∧ W (i + 1) m' H') ∧ ∀ x H', J.yld i H x H' → gName s x (wipe σ vs) H' fun σ2 H2 => wipe σ2 vs = wipe σ vs ∧ tYes σ2 H2 fun b H3 =>
        if b = true then te σ2 H3 fun y H4 => ∃ acc, H4 D = some (.lst acc) ∧ acc.length < sizeLine ∧ Nx (upd H4 D (.lst (acc ++ [y]))) else Nx H3) := by
  refine lc_it w (fun i H => ∃ ys, H D = some (.lst ys) ∧ ys.length = i ∧ (∀ j y, ys[j]? = some y → R j y H) ∧ Same H1 H) ⟨[], upd_same, rfl, fun j y e => (by cases e), same_new hD _⟩ (fun i H hi p => ?_) (fun i v H H' hi p y => ?_) (fun H p => ?_)
  · obtain ⟨_, _, _, _, p⟩ := p
    exact hG H p
  · obtain ⟨rfl, hv⟩ := y
    obtain ⟨ys, f1, f2, f3, f4⟩ := p
    refine ⟨hw _, ?_⟩
    simp only [tYes, ↓reduceIte]
    refine he i v _ _ hv f4 ⟨ys, f1⟩ fun y H2 s2 r2 => ?_
    have f1' := s2 _ _ f1
    have b2 : But D H2 (upd H2 D (.lst (ys ++ [y]))) := But.upd
    refine ⟨ys, f1', ?_, ys ++ [y], upd_same, by rw [List.length_append, f2]; rfl, fun j z e => ?_, fun b o h => ?_⟩
    · rw [f2]
      exact Nat.lt_of_lt_of_le (by omega : i < 10001) (by rw [sizeLine_eq]; decide)
    · by_cases hj : j < ys.length
      · rw [List.getElem?_append_left hj] at e
        refine mono j z _ _ (by omega) ⟨_, f1'⟩ b2 (mono j z _ _ (by omega) ⟨_, f1⟩ (But.of_same s2) (f3 j z e))
      · have hj' : j = ys.length := by
          have := (List.getElem?_eq_some_iff.mp e).1
          rw [List.length_append, List.length_singleton] at this
          omega
        rw [hj', List.getElem?_append_right (Nat.le_refl _), Nat.sub_self] at e
        have ez : y = z := by injection e
        subst ez
        rw [hj', f2]
        exact mono i y _ _ hi ⟨_, f1'⟩ b2 r2
    · rw [upd_ne (ne_of_none h hD)]
      exact s2 _ _ (f4 b o h)
  · obtain ⟨ys, f1, f2, f3, f4⟩ := p
    exact hd ys H f2 f3 f1 f4
/-- .. by f -/
theorem lc_fn {J : It} {G : Hp → Prop} {xs : List V} (w : Walk J xs.length G (YAt xs)) {s : Nat} {te : TE} {vs : List Nat} {σ : L2.St} {H1 : Hp} {D : Addr} {Qd : Hp → Prop} (f : Nat → V)
    (hw : ∀ v, wipe ((wipe σ vs).set s (some v)) vs = wipe σ vs) (hn : xs.length ≤ 10000) (hD : H1 D = none) (hG : ∀ H, Same H1 H → G H)
    (he : ∀ (i : Nat) (v : V) (H : Hp) (Q : VK), xs[i]? = some v → Same H1 H → (∀ H', Same H H' → Q (f i) H') → te ((wipe σ vs).set s (some v)) H Q)
    (hd : ∀ H, H D = some (.lst ((List.range xs.length).map f)) → Same H1 H → Qd H) :
    ∃ W : Nat → Nat → Hp → Prop, (∃ m, W 0 m (upd H1 D (.lst []))) ∧ ∀ i m H, W i m H →
      (J.stop i H ∧ Qd H) ∨ (J.go i H ∧ ∃ Nx : Hp → Prop, (∀ H', Nx H' → ∃ m', m' < m ∧ W (i + 1) m' H') ∧ ∀ x H', J.yld i H x H' → gName s x (wipe σ vs) H' fun σ2 H2 => wipe σ2 vs = wipe σ vs ∧ tYes σ2 H2 fun b H3 =>
        if b = true then te σ2 H3 fun y H4 => ∃ acc, H4 D = some (.lst acc) ∧ acc.length < sizeLine ∧ Nx (upd H4 D (.lst (acc ++ [y]))) else Nx H3) := by
  refine lc_each w (fun i v _ => v = f i) hw hn hD hG (fun _ _ _ _ _ _ _ h => h) (fun i v H Q hv s _ k => he i v H Q hv s fun H' s' => k _ _ s' rfl) fun ys H e r hl s => hd H ?_ s
  rw [hl]
  congr 2
  refine List.ext_getElem? fun j => ?_
  by_cases hj : j < ys.length
  · have h1 := List.getElem?_eq_getElem hj
    rw [h1, r j _ h1, List.getElem?_map, List.getElem?_range (by omega)]
    rfl
  · rw [List.getElem?_eq_none (by omega), List.getElem?_eq_none (by rw [List.length_map, List.length_range]; omega)]
theorem range_map {α β : Type} {l : List α} {f : Nat → β} {g : α → β} (h : ∀ i a, l[i]? = some a → f i = g a) : (List.range l.length).map f = l.map g := by
  refine List.ext_getElem? fun j => ?_
  by_cases hj : j < l.length
  · rw [List.getElem?_map, List.getElem?_map, List.getElem?_range hj, List.getElem?_eq_getElem hj]
    exact congrArg some (h j _ (List.getElem?_eq_getElem hj))
  · rw [List.getElem?_eq_none (by rw [List.length_map, List.length_range]; omega), List.getElem?_eq_none (by rw [List.length_map]; omega)]


def atD (ds : List PyData) (i : Nat) : PyData := ds.getD i .none
/-- .. by a test of the data -/
theorem lc_test {K : PySem.W.Frag} {J : It} {G : Hp → Prop} {xs : List V} {ds : List PyData} (w : Walk J xs.length G (YAt xs)) {s : Nat} {te : TE} {vs : List Nat} {σ : L2.St} {H1 : Hp} {D : Addr} {Qd : Hp → Prop} (f : PyData → Bool)
    (hall : DvAll K H1 xs ds) (hw : ∀ v, wipe ((wipe σ vs).set s (some v)) vs = wipe σ vs) (hn : xs.length ≤ 10000) (hD : H1 D = none) (hG : ∀ H, Same H1 H → G H)
    (he : ∀ (i : Nat) (v : V) (d : PyData) (H : Hp) (Q : VK), ds[i]? = some d → Dv K H v d → Same H1 H → (∀ (c : Bool) H', Same H H' → f d = c → Q (.bl c) H') → te ((wipe σ vs).set s (some v)) H Q)
    (hd : ∀ H, H D = some (.lst ((ds.map f).map V.bl)) → Same H1 H → Qd H) :
    ∃ W : Nat → Nat → Hp → Prop, (∃ m, W 0 m (upd H1 D (.lst []))) ∧ ∀ i m H, W i m H →
      (J.stop i H ∧ Qd H) ∨ (J.go i H ∧ ∃ Nx : Hp → Prop, (∀ H', Nx H' → ∃ m', m' < m ∧ W (i + 1) m' H') ∧ ∀ x H', J.yld i H x H' → gName s x (wipe σ vs) H' fun σ2 H2 => wipe σ2 vs = wipe σ vs ∧ tYes σ2 H2 fun b H3 =>
        if b = true then te σ2 H3 fun y H4 => ∃ acc, H4 D = some (.lst acc) ∧ acc.length < sizeLine ∧ Nx (upd H4 D (.lst (acc ++ [y]))) else Nx H3) := by
  refine lc_fn w (fun i => .bl (f (atD ds i))) hw hn hD hG (fun i v H Q hv s1 k => ?_) (fun H hH s1 => hd H ?_ s1)
  · obtain ⟨d, hd, hdv⟩ := hall.get hv
    have e : atD ds i = d := by unfold atD; rw [List.getD_eq_getElem?_getD, hd]; rfl
    rw [e] at k
    exact he i v d H Q hd (hdv.same s1) s1 fun c H' s2 ec => by
      rw [← ec]
      exact k H' s2
  · rw [hH]
    congr 2
    rw [hall.len, List.map_map]
    exact range_map fun i x hx => by
      unfold atD
      rw [List.getD_eq_getElem?_getD, hx]
      rfl
theorem all_test {ds : List PyData} {f : PyData → Bool} : ((ds.map f).map id).all id = ds.all f := by
  rw [List.map_id, List.all_map]
  rfl
theorem all_f (ds : List PyData) (f : PyData → Bool) : (ds.map f).all id = ds.all f := by
  rw [List.all_map]
  rfl
end Fv
set_option Elab.async false
set_option linter.all false
set_option maxRecDepth 100000
set_option maxHeartbeats 4000000
namespace Fv
open PySem PySem.Spec PyProof.Rows L2 TL LamX NdefX
/-! ### x(e, ..), x a name that holds a def of the text: which, is told where it is called -/
def tCallV (P : Program) (w : World) (K : PySem.W.Frag) (mg : Str → Option Value) (base : Heap) (k i : Nat) (t : TA) : TE := fun σ H Q => ∃ (f : Addr) (fd : FuncData) (ps : List Str) (sp : Sp), σ[i]? = some (some (.ref f)) ∧
  FnOkG P w K mg base k f fd ps sp ∧ PySem.W.keepIn K (.ref f) = true ∧ Binds K fd ps [] ∧ t σ H fun vs H1 => sp vs H1 Q fun _ _ _ => False
section
variable {X : Cx} {k j i : Nat} {x : Str} {p pos : Pos} {e : Expr} {es : List Expr} {t : TA}
theorem pe_callV (hgu : X.A.guards = some []) (hr : Room k X.A) (hN : X.N[i]? = some x) (hv : Vis X.env.scope x) (ha : PA X (e :: es) t)
    (hdb : (x == ("__debug__" : Str)) = false := by decide) (hcd : (x == ("__classdict__" : Str)) = false := by decide)
    (he : starEach (e :: es) X.env = (false, eval e X.env) :: starEach es X.env := by rfl) (hpl : (backTo pos (starEach es X.env)).any (·.1) = false := by rfl) :
    PE X (.Call (.Name x p) (e :: es) [] pos) (tCallV X.prog X.w X.K X.mg X.base k i t) := by
  refine ⟨fun pins s σ H Q I h => ?_⟩
  obtain ⟨f, fd, ps, sp, hs, F, hk, hb, ht⟩ := h
  refine wpAny_Call_Name_kw (thn ((pe_var (pos := p) hN hv hdb hcd).run pins s σ H (fun v H1 => v = .ref f ∧ H1 = H) I ⟨.ref f, hs, rfl, rfl⟩) fun u s1 ⟨v, H1, I1, r1, q1⟩ => ?_)
  obtain ⟨ev, eH⟩ := q1
  subst ev
  rw [eH] at I1
  cases r1
  refine PySem.W.callWith_K (h₀ := X.base) I.ok.mod.kin hk (thn (ha.run pos pins s1 σ _ _ I1 ht) fun us s2 ⟨vs, H2, I2, rv, q⟩ => ⟨I2.kIn, ?_⟩) he hpl
  have lenU : us.length = ps.length := by
    rw [← rv.length]
    exact F.size _ _ _ _ q
  have bind := hb s2 us I2.kIn (by simpa using lenU)
  rw [List.append_nil] at bind
  refine wpAny_call (codeAny_mono (F.runs X.A X.stack s2 H2 ⟨us, []⟩ us vs Q _ hgu hr I2.env0 bind rv q) fun r s' ends => ?_)
  match r, ends with
  | .error e, ends => exact ends.elim
  | .ok (.ret u), ends => exact I2.after ends
  | .ok .next, ends => exact ends.elim
  | .ok .brk, ends => exact ends.elim
  | .ok .cont, ends => exact ends.elim
end
end Fv
set_option Elab.async false
set_option linter.all false
set_option maxRecDepth 100000
set_option maxHeartbeats 4000000
namespace Fv
open PySem PySem.Spec PyProof.Rows L2 TL LamX NdefX
/-! ### the lambdas of the law -/
abbrev lamB : Expr → Expr
  | .Lambda _ b _ _ => b
  | e => e
abbrev lamS : Expr → Scope
  | .Lambda _ _ s _ => s
  | _ => { kind := .function, names := [], isGenerator := false, isCoroutine := false }
abbrev lamP : Expr → Arguments
  | .Lambda a _ _ _ => a
  | _ => ⟨[], [], none, [], [], none, []⟩
abbrev lamOf : Stmt → Expr
  | .Return (some (.Tuple [_, e] _ _)) _ => e
  | .Expr (.Call _ [.Tuple [_, e] _ _] _ _) _ => e
  | _ => .List [] ⟨0, 0, 0, 0⟩
abbrev nthS (b : List Stmt) (i : Nat) : Stmt := b.getD i (.Pass ⟨0, 0, 0, 0⟩)
abbrev lamX : Nat → Expr
  | 0 => lamOf (nthS (defBody (top 49)) 3)
  | 1 => lamOf (nthS (defBody (top 50)) 3)
  | 2 => lamOf (nthS (defBody (top 51)) 3)
  | 3 => lamOf (nthS (defBody (top 52)) 2)
  | 4 => lamOf (nthS (defBody (top 55)) 4)
  | 5 => lamOf (nthS (defBody (top 56)) 3)
  | 6 => lamOf (nthS (defBody (top 57)) 7)
  | _ => lamOf (nthS (defBody (top 57)) 9)
structure IsLam (F : LF) (e : Expr) : Prop where
  body : F.body = lamB e
  scope : F.scope = lamS e
  params : F.params = lamP e
abbrev fr6 : Nat → List Str
  | 0 => ["_law_step", "_law_most", "_law_goal"]
  | 1 => ["_law_sign"]
  | 3 => ["_law_symbols"]
  | 4 => ["_law_symbols"]
  | 5 => ["_law_symbols"]
  | _ => []
abbrev ws6 (sy : Str) (most step goal : Nat) : Nat → List V
  | 0 => [.int (step : Int), .int (most : Int), .int (goal : Int)]
  | 1 => [.str (sgA sy 0)]
  | 3 => [.str sy]
  | 4 => [.str sy]
  | 5 => [.str sy]
  | _ => []
/-- the names of a page's law -/
theorem names6 : ∀ j ∈ eight, (∀ y ∈ (lamS (lamX j)).names, y.2 = .free → y.1 ∈ fr6 j) ∧ ∀ y ∈ fr6 j, (y, NameKind.free) ∈ (lamS (lamX j)).names := by decide +kernel
/-- what a lambda tells of a page -/
def spL (G : List Nat → List (Str × Nat)) : V → Hp → VK → XK → Prop := fun v H Q _ => ∃ t : Str, v = .str t ∧ t.length ≤ 12 ∧ (∀ c ∈ tl t, c ∈ all6) ∧ ∀ (L : Addr) (refs : List V) (H' : Hp), Same H H' → H' L = some (.lst refs) → refs.length ≤ 100 → OutAt H' refs (G (tl t)) → Q (.ref L) H'
/-- one more in the list -/
theorem out_more {H1 H' H13 : Hp} {D T2 : Addr} {refs : List V} {outs : List (Str × Nat)} {o : Str × Nat} (n : H1 D = none) (d : H' D = some (.lst refs)) (y3 : OutAt H' refs outs) (s0 : Same H1 H') (s : Same H' H13) (h2 : H13 T2 = some (.tup [.str o.1, .int (o.2 : Int)])) :
    H13 D = some (.lst refs) ∧ (upd H13 D (.lst (refs ++ [.ref T2]))) D = some (.lst (refs ++ [.ref T2])) ∧ OutAt (upd H13 D (.lst (refs ++ [.ref T2]))) (refs ++ [.ref T2]) (outs ++ [o]) ∧ Same H1 (upd H13 D (.lst (refs ++ [.ref T2]))) := by
  have d13 := s _ _ d
  have tupD : ∀ {xs : List V} (a : Addr) (vs : List V), H13 a = some (.tup vs) → upd H13 D (.lst xs) a = some (.tup vs) := fun {xs} a vs e => by
    rw [upd_ne fun z => ?_]
    · exact e
    · rw [z, d13] at e
      cases e
  refine ⟨d13, upd_same, ?_, fun b u e => ?_⟩
  · exact paired_app ((y3.map fun a vs e => s _ _ e).map tupD) (.cons ⟨T2, rfl, tupD _ _ h2⟩ .nil)
  · rw [upd_ne (ne_of_none e n)]
    exact s _ _ (s0 _ _ e)
theorem paired_len {H : Hp} {refs : List V} {outs : List (Str × Nat)} (h : OutAt H refs outs) : refs.length = outs.length := Paired.length h
theorem picks_len {α : Type} {f : Nat → Option α} : ∀ n, (picks f n).length ≤ n
  | 0 => Nat.le_refl _
  | n + 1 => by
    show (picks f n ++ (f n).toList).length ≤ _
    rw [List.length_append]
    have := picks_len (f := f) n
    have : (f n).toList.length ≤ 1 := by cases f n <;> simp
    omega
/-- a comprehension under way: what was picked -/
def PInv (H : Hp) (D : Addr) (f : Nat → Option (Str × Nat)) (i : Nat) (H' : Hp) : Prop := ∃ refs : List V, H' D = some (.lst refs) ∧ OutAt H' refs (picks f i) ∧ Same H H'
theorem pinv_zero {H : Hp} {D : Addr} {f : Nat → Option (Str × Nat)} (n : H D = none) : PInv H D f 0 (upd H D (.lst [])) := ⟨[], upd_same, .nil, same_new n _⟩
theorem pinv_skip {H H' H12 : Hp} {D : Addr} {f : Nat → Option (Str × Nat)} {i : Nat} (y : PInv H D f i H') (s : Same H' H12) (e : f i = none) : PInv H D f (i + 1) H12 := by
  obtain ⟨refs, h1, h2, h3⟩ := y
  refine ⟨refs, s _ _ h1, ?_, h3.trans s⟩
  show OutAt _ _ (picks f i ++ (f i).toList)
  rw [e]
  show OutAt _ _ (picks f i ++ [])
  rw [List.append_nil]
  exact h2.map fun a vs e => s _ _ e
theorem pinv_more {H H' H12 : Hp} {D T2 : Addr} {f : Nat → Option (Str × Nat)} {i : Nat} {o : Str × Nat} (n : H D = none) (hi : i < 1000) (y : PInv H D f i H') (s : Same H' H12) (n2 : H12 T2 = none) (e : f i = some o) :
    ∃ acc, (upd H12 T2 (.tup [.str o.1, .int (o.2 : Int)])) D = some (.lst acc) ∧ acc.length < sizeLine ∧ PInv H D f (i + 1) (upd (upd H12 T2 (.tup [.str o.1, .int (o.2 : Int)])) D (.lst (acc ++ [.ref T2]))) := by
  obtain ⟨refs, h1, h2, h3⟩ := y
  have s2 := s.trans (same_new n2 (.tup [.str o.1, .int (o.2 : Int)]))
  obtain ⟨a, b, c, d⟩ := out_more (D := D) (T2 := T2) (o := o) n h1 h2 h3 s2 upd_same
  refine ⟨refs, a, ?_, refs ++ [.ref T2], b, ?_, d⟩
  · have l1 := paired_len h2
    have l2 := picks_len (f := f) i
    exact Nat.lt_of_lt_of_le (by omega : refs.length < 1000) (small (Nat.le_refl _))
  · show OutAt _ _ (picks f i ++ (f i).toList)
    rw [e]
    exact c
theorem pinv_end {H H' : Hp} {D : Addr} {f : Nat → Option (Str × Nat)} {n : Nat} {Q : VK} (hn : n ≤ 100) (y : PInv H D f n H') (q : ∀ (L : Addr) (refs : List V) (H' : Hp), Same H H' → H' L = some (.lst refs) → refs.length ≤ 100 → OutAt H' refs (picks f n) → Q (.ref L) H') : Q (.ref D) H' := by
  obtain ⟨refs, h1, h2, h3⟩ := y
  refine q D refs H' h3 h1 ?_ h2
  have l1 := paired_len h2
  have l2 := picks_len (f := f) n
  omega
theorem tl_len (t : Str) : (tl t).length = t.length := (len_tl t).symm
theorem at_sign {t : Str} {i : Nat} : signV t i = .str (sgS ((tl t).getD i 0)) := rfl
theorem one_add (i : Nat) : (1 + (i : Int)) = ((i + 1 : Nat) : Int) := by omega
end Fv
set_option Elab.async false
set_option linter.all false
set_option maxRecDepth 100000
set_option maxHeartbeats 4000000
namespace Fv
open PySem PySem.Spec PyProof.Rows L2 TL
def NoPot (o : HO) : Prop := (∀ x y z : Int, o ≠ .lst [.int x, .int y, .int z]) ∧ ∀ ps, o ≠ .tbl ps
theorem nopot_tup {vs : List V} : NoPot (.tup vs) := ⟨fun _ _ _ e => (by cases e), fun _ e => (by cases e)⟩
theorem nopot_refs {vs : List V} (h : ∀ v ∈ vs, ∃ a, v = .ref a) : NoPot (.lst vs) := by
  refine ⟨fun x y z e => ?_, fun _ e => (by cases e)⟩
  injection e with e
  subst e
  obtain ⟨a, h⟩ := h _ List.mem_cons_self
  cases h
theorem pairs_by {H H' : Hp} {as : List Addr} {kvs : List (Key × V)} (pr : Pairs H as kvs) (b : ∀ a xs, H a = some (.tup xs) → H' a = some (.tup xs)) : Pairs H' as kvs := by
  unfold Pairs at pr ⊢
  induction pr with
  | nil => exact .nil
  | cons h _ ih => exact .cons (b _ _ h) ih
theorem paired_map {α β : Type} {R S : α → β → Prop} (f : ∀ a b, R a b → S a b) {xs : List α} {ys : List β} (h : Paired R xs ys) : Paired S xs ys := by
  induction h with
  | nil => exact .nil
  | cons a _ ih => exact .cons (f _ _ a) ih
/-! ### a program that stands beside a pot -/
section
variable {CS : Addr} {G : Addr → Prop} {H H' : Hp}
theorem nopot_ins {C dx : Addr} {fs : List (Str × V)} : NoPot (.ins C dx fs) := ⟨fun _ _ _ e => (by cases e), fun _ e => (by cases e)⟩
theorem refs_ref {ts : List AT} : ∀ v ∈ refs ts, ∃ a, v = .ref a := fun v hv => by
  obtain ⟨t, _, rfl⟩ := List.mem_map.mp hv
  exact ⟨_, rfl⟩
mutual
theorem TOk.np (e : ∀ b o, H b = some o → NoPot o → H' b = some o) : ∀ t : AT, TOk CS G H t → TOk CS G H' t
  | .node a ln wd g gv li lo ins oth, h => by
    simp only [TOk] at h ⊢
    obtain ⟨h1, ⟨dx, fo, h2⟩, h3, h4, h5, h6, h7, h8, h9⟩ := h
    exact ⟨h1, ⟨dx, fo, e _ _ h2 nopot_ins⟩, h3.map (fun b xs k => e _ _ k nopot_tup), e _ _ h4 (nopot_refs refs_ref), e _ _ h5 (nopot_refs refs_ref), h6, h7, TOks.np e ins h8, TOks.np e oth h9⟩
theorem TOks.np (e : ∀ b o, H b = some o → NoPot o → H' b = some o) : ∀ ts : List AT, TOks CS G H ts → TOks CS G H' ts
  | [], _ => by simp only [TOks]
  | t :: ts, h => by
    simp only [TOks] at h ⊢
    exact ⟨TOk.np e t h.1, TOks.np e ts h.2⟩
end
theorem FoAt.np (e : ∀ b o, H b = some o → NoPot o → H' b = some o) {a : Addr} {k : Nat} (h : FoAt CS H a k) : FoAt CS H' a k := by
  obtain ⟨dx, ln, wd, g, li, lo, h⟩ := h
  exact ⟨dx, ln, wd, g, li, lo, e _ _ h nopot_ins⟩
mutual
theorem LkT.np (e : ∀ b o, H b = some o → NoPot o → H' b = some o) : ∀ (t : AT) (f : Nat), LkT CS H t f → LkT CS H' t f
  | .node a ln wd g gv li lo ins oth, f, h => by
    simp only [LkT] at h ⊢
    exact ⟨h.1.np e, Lk.np e ins _ h.2.1, Lk.np e oth _ h.2.2⟩
theorem Lk.np (e : ∀ b o, H b = some o → NoPot o → H' b = some o) : ∀ (ts : List AT) (f : Nat), Lk CS H ts f → Lk CS H' ts f
  | [], _, _ => by simp only [Lk]
  | t :: ts, f, h => by
    simp only [Lk] at h ⊢
    exact ⟨LkT.np e t _ h.1, Lk.np e ts _ h.2⟩
end
theorem Blk.np (e : ∀ b o, H b = some o → NoPot o → H' b = some o) {us : List Tr} {xs : List AT} (h : Blk CS G H us xs) : Blk CS G H' us xs := ⟨TOks.np e xs h.ok, h.tr, Lk.np e xs _ h.lk, h.ne, h.nd⟩
theorem Blks.np (e : ∀ b o, H b = some o → NoPot o → H' b = some o) {ps : List PartR} {tt : List (List AT)} (h : Blks CS G H ps tt) : Blks CS G H' ps tt := paired_map (fun a b k => k.np e) h
end
theorem ProgAt.np {CP CS : Addr} {H H' : Hp} {a : Addr} {z sy : Str} {ms : NV} {ps : List PartR} {nm : Nat × List Tr} (h : ProgAt CP CS H a z sy ms ps nm) (e : ∀ b' o, H b' = some o → NoPot o → H' b' = some o) : ProgAt CP CS H' a z sy ms ps nm := by
  obtain ⟨dx, c, q, t, r, as, tt, mt, h1, h2, h3, h4, h5, h6, h7, h8⟩ := h.it
  exact ⟨dx, c, q, t, r, as, tt, mt, e _ _ h1 nopot_ins, e _ _ h2 nopot_tup, pairs_by h3 fun a xs k => e _ _ k nopot_tup, e _ _ h4 nopot_tup, e _ _ h5 ⟨fun _ _ _ z => (by cases z), fun _ z => (by cases z)⟩, h6, h7.np e, h8.np e⟩
theorem ProgAt.same {CP CS : Addr} {H H' : Hp} {a : Addr} {z sy : Str} {ms : NV} {ps : List PartR} {nm : Nat × List Tr} (h : ProgAt CP CS H a z sy ms ps nm) (s : Same H H') : ProgAt CP CS H' a z sy ms ps nm := by
  obtain ⟨dx, c, q, t, r, as, tt, mt, h1, h2, h3, h4, h5, h6, h7, h8⟩ := h.it
  exact ⟨dx, c, q, t, r, as, tt, mt, s _ _ h1, s _ _ h2, pairs_same h3 s, s _ _ h4, s _ _ h5, h6, h7.map (KB.of_same s), h8.map (KB.of_same s)⟩
end Fv
set_option Elab.async false
set_option linter.all false
set_option maxRecDepth 100000
set_option maxHeartbeats 4000000
namespace Fv
open PySem PySem.Spec PyProof.Rows L2 TL LamX NdefX
/-! ### what stays beside the pot and tables -/
def KeepQ (p : Addr) (H H' : Hp) : Prop := ∀ b o, H b = some o → b ≠ p → (∀ ps, o ≠ .tbl ps) → H' b = some o
theorem KeepQ.refl (p : Addr) (H : Hp) : KeepQ p H H := fun _ _ h _ _ => h
theorem KeepQ.trans {p : Addr} {H H1 H2 : Hp} (a : KeepQ p H H1) (b : KeepQ p H1 H2) : KeepQ p H H2 := fun c o h n t => b c o (a c o h n t) n t
theorem KeepQ.same {p : Addr} {H H' : Hp} (s : Same H H') : KeepQ p H H' := fun b o h _ _ => s b o h
theorem KeepQ.but {p : Addr} {H H' : Hp} (s : But p H H') : KeepQ p H H' := fun b o h n _ => s b o h n
theorem KeepQ.tab {p P : Addr} {T : List (Addr × Str)} {q : Str} {H H' : Hp} (s : But P H H') (t : Tabs T H) (m : (P, q) ∈ T) : KeepQ p H H' := fun b o h _ nt => s b o h fun z => by
  obtain ⟨ps, e, _⟩ := t _ m
  rw [z, e] at h
  exact nt ps (Option.some.inj h).symm
theorem tabs_but {p : Addr} {n : Nat} {T : List (Addr × Str)} {H H' : Hp} (t : Tabs T H) (hp : Pot H p n) (s : But p H H') : Tabs T H' := fun q hq => by
  obtain ⟨o, b, c, e, _⟩ := hp.at_
  obtain ⟨ps, h1, h2, h3⟩ := t q hq
  refine ⟨ps, s _ _ h1 fun z => ?_, h2, fun pos cv hc => ?_⟩
  · rw [z, e] at h1
    cases h1
  · obtain ⟨c', e1, e2⟩ := h3 pos cv hc
    refine ⟨c', e1, s _ _ e2 fun z => ?_⟩
    rw [z, e] at e2
    exact absurd (Option.some.inj e2) (fun z => by unfold CodeO at z; cases z)
/-! ### a lambda at a place -/
def LamAt (H : Hp) (sy : Str) (most step goal j : Nat) (f : Addr) : Prop := ∃ F : LF, IsLam F (lamX j) ∧ H f = some (LamO f F) ∧ H F.c = some (CodeO F.c F.qual) ∧ Held H F.cl (fr6 j) (ws6 sy most step goal j)
def CaseAt (sy a b : Str) (most step goal j : Nat) (H : Hp) (v : V) : Prop := ∃ T L f, v = .ref T ∧ H T = some (.tup [.ref L, .ref f]) ∧ H L = some (.lst ((lines6 sy a b most step goal j).map V.str)) ∧ LamAt H sy most step goal j f
theorem clo_in {cells : List (Str × Addr)} {names : List (Str × NameKind)} {fr : List Str} (hfr : ∀ y ∈ names, y.2 = .free → y.1 ∈ fr) {p : Str × Addr} (h : p ∈ cloFrom cells names []) : p.1 ∈ fr ∧ p.2 = (cells.lookup p.1).getD 0 := by
  obtain ⟨n, c⟩ := p
  rcases cloFrom_mem h with z | ⟨z, e⟩
  · cases z
  · exact ⟨hfr _ z rfl, e⟩
theorem held_n {cells : List (Str × Addr)} {names : List (Str × NameKind)} {H : Hp} {fr : List Str} {ws : List V} (len : ws.length = fr.length) (hfr : ∀ y ∈ names, y.2 = .free → y.1 ∈ fr) (hin : ∀ y ∈ fr, (y, NameKind.free) ∈ names) (inj : ∀ x y d, cells.lookup x = some d → cells.lookup y = some d → x = y)
    (at_ : ∀ (i : Nat) (y : Str), fr[i]? = some y → ∃ c o u v, cells.lookup y = some c ∧ ws[i]? = some v ∧ H c = some (CellX c o) ∧ o.data = .cell (some u) ∧ RelV v u) : Held H (cloFrom cells names []) fr ws := by
  have free : ∀ y ∈ names, y.2 = .free → ∃ c, cells.lookup y.1 = some c := fun y hy e => by
    obtain ⟨i, hi⟩ := List.mem_iff_getElem?.mp (hfr y hy e)
    obtain ⟨c, o, u, v, h, _⟩ := at_ i _ hi
    exact ⟨c, h⟩
  refine ⟨len, fun c hc => ?_, fun x y d h k => inj x y d (clo_cm free h) (clo_cm free k), fun i y e => ?_⟩
  · obtain ⟨p, hp, rfl⟩ := List.mem_map.mp hc
    obtain ⟨h, e⟩ := clo_in hfr hp
    obtain ⟨i, hi⟩ := List.mem_iff_getElem?.mp h
    obtain ⟨c, o, u, v, h1, h2, h3, h4, h5⟩ := at_ i _ hi
    have e : p.2 = c := by rw [e, h1]; rfl
    rw [e]
    exact ⟨o, _, h3, h4⟩
  · obtain ⟨c, o, u, v, h1, h2, h3, h4, h5⟩ := at_ i _ e
    exact ⟨c, clo_has free (hin _ (List.mem_of_getElem? e)) h1, fun v' ev => by rw [h2] at ev; cases ev; exact ⟨o, u, h5, h3, h4⟩⟩
section
variable {X : Cx} {σ : L2.St} {l : List (Addr × Obj)} {H : Hp}
theorem kept_at : ∀ {js : List Nat} {l : List (Addr × Obj)}, KeptC X σ js l → ∀ {k : Nat} {y : Str}, k ∈ js → X.N[k]? = some y → ∃ c o v u, X.env.cells.lookup y = some c ∧ σ[k]? = some (some v) ∧ RelV v u ∧ o.data = .cell (some u) ∧ (c, o) ∈ l
  | [], _, _, _, _, hk, _ => (nomatch hk)
  | j :: js, l, h, k, y, hk, hy => by
    obtain ⟨y', c, o, v, u, r, rfl, e1, e2, e3, ru, hd, kr⟩ := h
    rcases List.mem_cons.mp hk with rfl | hk
    · rw [e1] at hy
      cases hy
      exact ⟨c, o, v, u, e2, e3, ru, hd, .head _⟩
    · obtain ⟨c', o', v', u', a1, a2, a3, a4, a5⟩ := kept_at kr hk hy
      exact ⟨c', o', v', u', a1, a2, a3, a4, .tail _ a5⟩
theorem trackC_in : ∀ {l : List (Addr × Obj)}, (l.map (·.1)).Nodup → ∀ {c : Addr} {o : Obj}, (c, o) ∈ l → trackC l H c = some (CellX c o)
  | [], _, _, _, h => (nomatch h)
  | (d, q) :: r, nd, c, o, h => by
    rw [List.map_cons] at nd
    show upd _ _ _ c = _
    rcases List.mem_cons.mp h with h | h
    · cases h
      exact upd_same
    · have n : c ≠ d := fun z => by
        rw [z] at h
        exact (List.nodup_cons.mp nd).1 (List.mem_map.mpr ⟨(d, o), h, rfl⟩)
      rw [upd_ne n]
      exact trackC_in (List.nodup_cons.mp nd).2 h
theorem trackC_same (h : ∀ p ∈ l, H p.1 = none) : Same H (trackC l H) := fun b o e => by
  rw [trackC_out fun p hp z => by have := h p hp; rw [z, e] at this; cases this]
  exact e
/-- at a maker's end -/
theorem case_end {js : List Nat} {sy : Str} {most step goal j : Nat} {f c' : Addr} {q : Str} (kl : KeptC X σ js l) (nd : (l.map (·.1)).Nodup) (inj : ∀ x y d, X.env.cells.lookup x = some d → X.env.cells.lookup y = some d → x = y) (fresh : ∀ p ∈ l, H p.1 = none) (hj : j ∈ eight)
    (lf : H f = some (LamO f ⟨q, lamP (lamX j), lamB (lamX j), lamS (lamX j), cloFrom X.env.cells (lamS (lamX j)).names [], c'⟩)) (cf : H c' = some (CodeO c' q)) (len : (ws6 sy most step goal j).length = (fr6 j).length)
    (at_ : ∀ (i : Nat) (y : Str), (fr6 j)[i]? = some y → ∃ k v, k ∈ js ∧ X.N[k]? = some y ∧ σ[k]? = some (some v) ∧ (ws6 sy most step goal j)[i]? = some v) : LamAt (trackC l H) sy most step goal j f := by
  have s := trackC_same fresh
  refine ⟨_, ⟨rfl, rfl, rfl⟩, s _ _ lf, s _ _ cf, held_n len (names6 j hj).1 (names6 j hj).2 inj fun i y e => ?_⟩
  obtain ⟨k, v, h1, h2, h3, h4⟩ := at_ i y e
  obtain ⟨c, o, v', u, a1, a2, a3, a4, a5⟩ := kept_at kl h1 h2
  rw [h3] at a2
  cases a2
  exact ⟨c, o, u, v, a1, h4, trackC_in nd a5, a4, a3⟩
end
theorem tabs_same {T : List (Addr × Str)} {H H' : Hp} (t : Tabs T H) (s : Same H H') : Tabs T H' := t.ext s
/-- a lambda with parameters -/
def freeB (sc scope : Scope) : Bool := scope.names.all fun y => !decide (y.2 = .free) || decide (sc.names.lookup y.1 = some .cell)
theorem pe_lamF {X : Cx} {T : List (Addr × Str)} {c P : Addr} {params : Arguments} {body : Expr} {scope : Scope} {pos : Pos} (TB : TabB X.base X.mg c P) (hcode : X.env.code = .ref c) (hm : (P, X.env.qual ++ "<lambda>") ∈ T) (hu : ∀ p ∈ T, p.1 = P → p.2 = X.env.qual ++ "<lambda>") (L : freeB X.env.scope scope = true) (hdef : defaultsOf params X.env = ([], [])) :
    PE X (.Lambda params body scope pos) (tLamE T P fun c' => ⟨X.env.qual ++ "<lambda>", params, body, scope, cloFrom X.env.cells scope.names [], c'⟩) := by
  refine ⟨fun pins s σ H Q I h => ?_⟩
  obtain ⟨hT, h⟩ := h
  refine lam_makeT I TB hcode hm hu hT hdef (fun y hy e => ?_) fun f c' H1 s' I1 eN T1 f0 f1 c1 => ⟨.ref f, H1, I1, rfl, h f c' H1 eN T1 f0 f1 c1⟩
  have z := List.all_eq_true.mp L y hy
  rw [decide_eq_true e] at z
  exact I.ok.has y.1 (.inl (of_decide_eq_true z))
/-- what stands, since a heap -/
structure Kp (H0 H : Hp) (fs : List (Addr × HO)) : Prop where
  same : Same H0 H
  all : ∀ (i : Nat) (a : Addr) (o : HO), fs[i]? = some (a, o) → H a = some o
theorem Kp.nil (H : Hp) : Kp H H [] := ⟨fun _ _ e => e, fun i a o e => by cases i <;> cases e⟩
theorem Kp.push {H0 H : Hp} {fs : List (Addr × HO)} (k : Kp H0 H fs) {a : Addr} (h : H a = none) (o : HO) : Kp H0 (upd H a o) ((a, o) :: fs) := by
  refine ⟨k.same.trans (same_new h o), fun i b u e => ?_⟩
  cases i with
  | zero =>
    cases e
    exact upd_same
  | succ i => exact same_new h o _ _ (k.all i b u e)
abbrev qL (x : Str) : Str := (x ++ ".<locals>." : Str) ++ "<lambda>"
theorem cs {x y : Str} (hx : x.length ≤ 100) (hy : y.length ≤ 100) : x.length + y.length ≤ sizeLine := small (by omega)
theorem ap {x y : Str} {n m : Nat} (hx : x.length ≤ n) (hy : y.length ≤ m) : (x ++ y).length ≤ n + m := by rw [len_app]; omega
theorem ap3 {x y : Str} (hx : x.length ≤ 30) (hy : y.length ≤ 8) : (x ++ y).length ≤ 100 := Nat.le_trans (ap hx hy) (by decide)
/-- a maker's promise -/
def spMk (T : List (Addr × Str)) (Pj : Addr) (j : Nat) : Sp := fun vs H Q _ => ∃ (sy a b : Str) (nl : Addr), vs = [.str sy, .ref nl] ∧ sy ∈ four6 ∧ a ∈ six6 ∧ b ∈ six6 ∧ H nl = some (.lst [.str a, .str b]) ∧ Tabs T H ∧
  ∀ (v : V) (H' : Hp), (∀ most step goal, CaseAt sy a b most step goal j H' v) → Tabs T H' → But Pj H H' → Q v H'
theorem make_end {X : Cx} {σ : L2.St} {l : List (Addr × Obj)} {js : List Nat} {sy a b : Str} {most step goal j : Nat} {H H2 H1 H4 : Hp} {T : List (Addr × Str)} {P1 L Tt f c' : Addr} {q : Str} {fs : List (Addr × HO)} (hj : j ∈ eight) (inT : (P1, q) ∈ T) (kp : Kp H H2 fs) (hT : Tabs T H2) (hL : H2 L = some (.lst ((lines6 sy a b most step goal j).map V.str)))
    (b1 : But P1 H2 H1) (T1 : Tabs T H1) (s4 : Same H1 H4) (hTt : H4 Tt = some (.tup [.ref L, .ref f]))
    (lf : H1 f = some (LamO f ⟨q, lamP (lamX j), lamB (lamX j), lamS (lamX j), cloFrom X.env.cells (lamS (lamX j)).names [], c'⟩)) (cf : H1 c' = some (CodeO c' q))
    (kl : KeptC X σ js l) (nd : (l.map (·.1)).Nodup) (inj : ∀ x y d, X.env.cells.lookup x = some d → X.env.cells.lookup y = some d → x = y) (fresh : ∀ p ∈ l, H4 p.1 = none) (len : (ws6 sy most step goal j).length = (fr6 j).length)
    (at_ : ∀ (i : Nat) (y : Str), (fr6 j)[i]? = some y → ∃ k v, k ∈ js ∧ X.N[k]? = some y ∧ σ[k]? = some (some v) ∧ (ws6 sy most step goal j)[i]? = some v) : CaseAt sy a b most step goal j (trackC l H4) (.ref Tt) ∧ Tabs T (trackC l H4) ∧ But P1 H (trackC l H4) := by
  have s5 := trackC_same (l := l) (H := H4) fresh
  have nL : L ≠ P1 := fun z => by
    obtain ⟨ps, e, _⟩ := hT _ inT
    have e : H2 P1 = some (.tbl ps) := e
    rw [← z, hL] at e
    cases e
  refine ⟨⟨Tt, L, f, rfl, s5 _ _ hTt, s5 _ _ (s4 _ _ (b1 _ _ hL nL)), case_end kl nd inj fresh hj (s4 _ _ lf) (s4 _ _ cf) len at_⟩, (T1.ext s4).ext s5, fun x o e n => s5 _ _ (s4 _ _ (b1 _ _ (kp.same _ _ e) n))⟩
theorem s6_at {sy : Str} (h : sy ∈ four6) : atI (tl sy) 0 = some (s6 sy 0) ∧ atI (tl sy) 1 = some (s6 sy 1) := by
  have hsl := four6_ok sy h
  have e : ∀ k, k < 2 → (tl sy)[k]? = some (s6 sy k) := fun k hk => by
    have hlt : k < (tl sy).length := by rw [tl_len]; omega
    unfold s6
    rw [List.getD_eq_getElem?_getD, List.getElem?_eq_getElem hlt]
    rfl
  exact ⟨atI_nat (e 0 (by decide)), atI_nat (e 1 (by decide))⟩
end Fv
set_option Elab.async false
set_option linter.all false
set_option maxRecDepth 100000
set_option maxHeartbeats 4000000
namespace Fv
open PySem PySem.Spec PyProof.Rows L2 TL
/-! ### results as data -/
def oneD (o : Str × Nat) : PyData := .tuple [.str o.1, .int (o.2 : Int)]
def doneD (outs : List (Str × Nat)) : PyData := .tuple [.str "done", .tuple (outs.map oneD)]
theorem alpha_repr : ∀ g ∈ tl alpha, (PyData.str (sgS g)).shown.length = 3 := by
  rw [tl_alpha]
  have h : ((List.range 26).map (· + 97)).all (fun g => decide ((PyData.str (sgS g)).shown.length = 3)) = true := by decide +kernel
  exact fun g hg => of_decide_eq_true (List.all_eq_true.mp h g hg)
theorem int_repr : ∀ n, n ≤ 110 → (PyData.int ((n : Nat) : Int)).shown.length ≤ 3 := by
  have h : (List.range 111).all (fun n => decide ((PyData.int ((n : Nat) : Int)).shown.length ≤ 3)) = true := by decide +kernel
  exact fun n hn => of_decide_eq_true (List.all_eq_true.mp h n (List.mem_range.mpr (by omega)))
theorem outs_dv {K : PySem.W.Frag} {H : Hp} : ∀ {refs : List V} {outs : List (Str × Nat)}, OutAt H refs outs → (∀ o ∈ outs, o.1.length ≤ 1000) → DvAll K H refs (outs.map oneD)
  | _, _, .nil, _ => .nil
  | _, _, .cons ⟨b, rfl, h⟩ r, hl => .cons (.tup (.inl (.inl h)) (.cons (.str _ (by have := hl _ List.mem_cons_self; omega)) (.cons (.int _) .nil))) (outs_dv r fun o ho => hl o (List.mem_cons_of_mem _ ho))
theorem done_dv {K : PySem.W.Frag} {H : Hp} {p : Addr} {outs : List (Str × Nat)} (h : ResAt H p (.done outs)) (hl : ∀ o ∈ outs, o.1.length ≤ 1000) : Dv K H (.ref p) (doneD outs) := by
  obtain ⟨b, refs, h1, h2, h3⟩ := h
  exact .tup (.inl (.inl h1)) (.cons (.str _ (by decide +kernel)) (.cons (.tup (.inl (.inl h2)) (outs_dv h3 hl)) .nil))
theorem outs_flat : ∀ {outs : List (Str × Nat)}, (∀ o ∈ outs, o.2 ≤ 110) → PyData.showableAll (outs.map oneD) = true ∧ PyData.depthAll (outs.map oneD) ≤ 1
  | [], _ => ⟨rfl, Nat.zero_le _⟩
  | o :: r, h => by
    obtain ⟨a, b⟩ := outs_flat (outs := r) fun x hx => h x (List.mem_cons_of_mem _ hx)
    have ho := h o List.mem_cons_self
    have hs : PyData.showable (.int ((o.2 : Nat) : Int)) = true := by
      have : (List.range 111).all (fun n => PyData.showable (.int ((n : Nat) : Int))) = true := by decide +kernel
      exact List.all_eq_true.mp this o.2 (List.mem_range.mpr (by omega))
    refine ⟨?_, ?_⟩
    · simp only [List.map_cons, oneD, PyData.showableAll, PyData.showable, Bool.and_true, Bool.true_and] at a hs ⊢
      rw [Bool.and_eq_true]
      exact ⟨hs, a⟩
    · simp only [List.map_cons, oneD, PyData.depthAll, PyData.depth] at b ⊢
      have : max 0 (max 0 0) + 1 ≤ 1 := by decide
      omega
theorem pair_len (a b : Str) : (tupleText [a, b]).length = a.length + b.length + 4 := by
  have h := join_length_add [a, b] (by simp)
  have hp : piled [a, b] = a.length + 2 + (b.length + 2) := by simp [piled]
  have e1 : ("(" : Str).length = 1 := by decide +kernel
  have e2 : ((if ([a, b] : List Str).length == 1 then ",)" else ")" : String) : Str).length = 1 := by
    show (Str.ofString (if (2 == 1) = true then ",)" else ")")).length = 1
    decide +kernel
  unfold tupleText
  rw [len_app, len_app, e1, e2]
  omega
theorem one_shown {o : Str × Nat} (h1 : ∃ g ∈ tl alpha, o.1 = sgS g) (h2 : o.2 ≤ 110) : (oneD o).shown.length ≤ 10 := by
  obtain ⟨g, hg, e⟩ := h1
  have h3 := alpha_repr g hg
  have h4 := int_repr o.2 h2
  rw [← e] at h3
  have t5 : (oneD o).shown = tupleText [(PyData.str o.1).shown, (PyData.int (o.2 : Int)).shown] := by
    unfold oneD
    simp only [PyData.shown, PyData.shownAll]
  rw [t5, pair_len]
  omega
theorem outs_shown : ∀ {outs : List (Str × Nat)}, (∀ o ∈ outs, (∃ g ∈ tl alpha, o.1 = sgS g) ∧ o.2 ≤ 110) → ((PyData.shownAll (outs.map oneD)).map (·.length)).sum ≤ 10 * outs.length ∧ (PyData.shownAll (outs.map oneD)).length = outs.length
  | [], _ => ⟨Nat.le_refl _, rfl⟩
  | o :: r, h => by
    obtain ⟨a, b⟩ := outs_shown (outs := r) fun x hx => h x (List.mem_cons_of_mem _ hx)
    have h1 := one_shown (h o List.mem_cons_self).1 (h o List.mem_cons_self).2
    simp only [List.map_cons, PyData.shownAll, List.sum_cons, List.length_cons]
    omega
theorem done_dok {outs : List (Str × Nat)} (ho : ∀ o ∈ outs, (∃ g ∈ tl alpha, o.1 = sgS g) ∧ o.2 ≤ 110) (hl : outs.length ≤ 1000) : Dok 20000 40 (doneD outs) := by
  obtain ⟨a, b⟩ := outs_flat fun o hm => (ho o hm).2
  obtain ⟨s1, s2⟩ := outs_shown ho
  unfold doneD
  refine ⟨?_, ?_, ?_⟩
  · simp only [PyData.showable, PyData.showableAll, Bool.and_true, Bool.true_and]
    exact a
  · simp only [PyData.depth, PyData.depthAll]
    omega
  · have t1 := tupleText_len_le (PyData.shownAll (outs.map oneD))
    have t2 := tupleText_len_le [(PyData.str "done").shown, (PyData.tuple (outs.map oneD)).shown]
    have t3 : (PyData.str "done").shown.length = 6 := by decide +kernel
    have t4 : (PyData.tuple (outs.map oneD)).shown = tupleText (PyData.shownAll (outs.map oneD)) := by simp only [PyData.shown]
    rw [t4] at t2
    simp only [List.map_cons, List.map_nil, List.sum_cons, List.sum_nil, List.length_cons, List.length_nil, t3] at t2
    have t5 : (PyData.tuple [.str "done", .tuple (outs.map oneD)]).shown = tupleText [(PyData.str "done").shown, tupleText (PyData.shownAll (outs.map oneD))] := by simp only [PyData.shown, PyData.shownAll]
    rw [t5]
    omega
/-! ### what the eight programs write is short -/
theorem picks_mem {α : Type} {f : Nat → Option α} {o : α} : ∀ {n : Nat}, o ∈ picks f n → ∃ i, i < n ∧ f i = some o
  | 0, h => (nomatch h)
  | n + 1, h => by
    rcases List.mem_append.mp (show o ∈ picks f n ++ (f n).toList from h) with h | h
    · obtain ⟨i, hi, e⟩ := picks_mem h
      exact ⟨i, by omega, e⟩
    · exact ⟨n, Nat.lt_succ_self n, by simpa using h⟩
theorem xyz_sg : (("x" : Str) = sgS 120 ∧ ("y" : Str) = sgS 121 ∧ ("z" : Str) = sgS 122) ∧ 120 ∈ tl alpha ∧ 121 ∈ tl alpha ∧ 122 ∈ tl alpha := by decide +kernel
theorem all6_alpha : ∀ g ∈ all6, g ∈ tl alpha := by decide +kernel
theorem told6_short {sy : Str} {most step goal : Nat} {l : List Nat} (hl : ∀ g ∈ l, g ∈ all6) (h12 : l.length ≤ 12) : ∀ j ∈ eight, (told6 sy most step goal l j).length ≤ 1000 ∧ ∀ o ∈ told6 sy most step goal l j, (∃ g ∈ tl alpha, o.1 = sgS g) ∧ o.2 ≤ 110 := by
  obtain ⟨⟨ex, ey, ez⟩, ix, iy, iz⟩ := xyz_sg
  have gl : ∀ i, i < l.length → l.getD i 0 ∈ tl alpha := fun i hi => all6_alpha _ (hl _ (let_at hi).2)
  have X : ∀ n, n ≤ 110 → (∃ g ∈ tl alpha, (("x" : Str), n).1 = sgS g) ∧ (("x" : Str), n).2 ≤ 110 := fun n hn => ⟨⟨120, ix, ex⟩, hn⟩
  have Y : ∀ n, n ≤ 110 → (∃ g ∈ tl alpha, (("y" : Str), n).1 = sgS g) ∧ (("y" : Str), n).2 ≤ 110 := fun n hn => ⟨⟨121, iy, ey⟩, hn⟩
  have Z : ∀ n, n ≤ 110 → (∃ g ∈ tl alpha, (("z" : Str), n).1 = sgS g) ∧ (("z" : Str), n).2 ≤ 110 := fun n hn => ⟨⟨122, iz, ez⟩, hn⟩
  have pk : ∀ {f : Nat → Option (Str × Nat)} {n : Nat}, n ≤ 1000 → (∀ i o, i < n → f i = some o → (∃ g ∈ tl alpha, o.1 = sgS g) ∧ o.2 ≤ 110) → (picks f n).length ≤ 1000 ∧ ∀ o ∈ picks f n, (∃ g ∈ tl alpha, o.1 = sgS g) ∧ o.2 ≤ 110 := fun {f n} hn h =>
    ⟨Nat.le_trans (picks_len n) hn, fun o ho => by
      obtain ⟨i, hi, e⟩ := picks_mem ho
      exact h i o hi e⟩
  intro j hj
  simp only [eight, List.mem_cons, List.not_mem_nil, or_false] at hj
  rcases hj with rfl | rfl | rfl | rfl | rfl | rfl | rfl | rfl
  · refine pk (by omega) fun i o hi e => ?_
    unfold f60 at e
    split at e
    · cases e
      exact ⟨⟨_, gl i hi, rfl⟩, by show i + 1 ≤ 110; omega⟩
    · cases e
  · refine pk (by omega) fun i o hi e => ?_
    unfold f61 at e
    split at e
    · cases e
      exact X _ (by omega)
    · cases e
  · refine ⟨by show 6 ≤ 1000; decide, fun o ho => ?_⟩
    have ho : o ∈ [(("x" : Str), 0), ("y", 0), ("x", 0), ("x", 1), ("y", 1), ("x", 1)] := ho
    simp only [List.mem_cons, List.not_mem_nil, or_false] at ho
    rcases ho with rfl | rfl | rfl | rfl | rfl | rfl
    · exact X _ (by omega)
    · exact Y _ (by omega)
    · exact X _ (by omega)
    · exact X _ (by omega)
    · exact Y _ (by omega)
    · exact X _ (by omega)
  · refine pk (by omega) fun i o hi e => ?_
    unfold f63 at e
    split at e
    · cases e
      exact ⟨⟨_, gl i hi, rfl⟩, by show i + 1 ≤ 110; omega⟩
    · cases e
  · refine pk (by omega) fun i o hi e => ?_
    unfold f64 at e
    split at e
    · cases e
      exact Z _ (by omega)
    · cases e
  · refine ⟨by show 1 ≤ 1000; decide, fun o ho => ?_⟩
    rw [List.mem_singleton.mp (show o ∈ [((if l.getLast? = some (s6 sy 0) then ("y" : Str) else "x"), 0)] from ho)]
    by_cases y : l.getLast? = some (s6 sy 0)
    · rw [if_pos y]
      exact Y _ (by omega)
    · rw [if_neg y]
      exact X _ (by omega)
  · refine ⟨by show 1 ≤ 1000; decide, fun o ho => ?_⟩
    rw [List.mem_singleton.mp (show o ∈ [(("x" : Str), 0)] from ho)]
    exact X _ (by omega)
  · refine pk (by omega) fun i o hi e => ?_
    cases (show some (sgS (l.getD i 0), i + 1) = some o from e)
    exact ⟨⟨_, gl i hi, rfl⟩, by show i + 1 ≤ 110; omega⟩
end Fv
set_option Elab.async false
set_option linter.all false
set_option maxRecDepth 100000
set_option maxHeartbeats 4000000
namespace Fv
open PySem PySem.Spec PyProof.Rows L2 TL LamX NdefX
/-! ### _law_right: the loop over the cases -/
abbrev s__law_right : Stmt := top 57
abbrev sc__law_rightN : List Str := ["_law_pot", "_law_symbols", "_law_names", "_law_some", "_law_turn", "_law_most", "_law_cases", "_law_every", "_law_lines", "_law_told", "_law_program", "_law_page", "_law_make", "_law_sign"]
theorem sc__law_right : FnScope sc__law_rightN ["_law_pot"] (defScope s__law_right) := ⟨rfl, rfl, rfl, by decide +kernel, rfl, by decide +kernel, by decide +kernel⟩
theorem pot_ne {p : Addr} {n : Nat} {H : Hp} (hp : Pot H p n) {b : Addr} {o : HO} (h : H b = some o) (np : NoPot o) : b ≠ p := fun z => by
  obtain ⟨x, y, u, e, _⟩ := hp.at_
  rw [z, e] at h
  exact np.1 _ _ _ (Option.some.inj h).symm
theorem prog_keep {p : Addr} {n : Nat} {H H' : Hp} {CP CS : Addr} (hp : Pot H p n) (k : KeepQ p H H') {a : Addr} {z sy : Str} {ms : NV} {ps : List PartR} {nm : Nat × List Tr} (h : ProgAt CP CS H a z sy ms ps nm) : ProgAt CP CS H' a z sy ms ps nm :=
  h.np fun b o e np => k b o e (pot_ne hp e np) np.2
theorem pot_fresh {p D : Addr} {n : Nat} {H : Hp} (hp : Pot H p n) (hD : H D = none) : D ≠ p := fun z => by
  obtain ⟨x, y, u, e, _⟩ := hp.at_
  rw [← z, hD] at e
  cases e
theorem boot_repr : bootBuiltins "repr" = some (.builtin "repr") := by decide +kernel
theorem put_same {cs : List Addr} {H H' : Hp} (s : Same (hideC cs H) H') : Same H (putC cs H H') := fun b o e => by
  by_cases h : b ∈ cs
  · rw [putC_in h]
    exact e
  · rw [putC_out h]
    exact s b o (by rw [hideC_out h]; exact e)
theorem pot_ext {p b : Addr} {n : Nat} {H : Hp} {φ : Heap → Prop} (hp : Pot H p n) (e : H b = some (.ext φ)) : b ≠ p := fun z => by
  obtain ⟨x, y, u, h, _⟩ := hp.at_
  rw [z, h] at e
  cases e
theorem lam_keep {p : Addr} {n : Nat} {H H' : Hp} {sy : Str} {most step goal j : Nat} {f : Addr} (hp : Pot H p n) (k : KeepQ p H H') (h : LamAt H sy most step goal j f) : LamAt H' sy most step goal j f := by
  obtain ⟨F, h1, h2, h3, D⟩ := h
  have kx : ∀ {b : Addr} {φ : Heap → Prop}, H b = some (.ext φ) → H' b = some (.ext φ) := fun {b φ} e => k b _ e (pot_ext hp e) (fun ps z => by cases z)
  have D' : Held H' F.cl (fr6 j) (ws6 sy most step goal j) := ⟨D.len, fun c hc => (D.all c hc).elim fun o ⟨v, e, d⟩ => ⟨o, v, kx e, d⟩, D.inj, fun i y e => (D.has i y e).elim fun c ⟨e1, r⟩ => ⟨c, e1, fun v ev => (r v ev).elim fun o ⟨u, a, b, d⟩ => ⟨o, u, a, kx b, d⟩⟩⟩
  exact ⟨F, h1, kx h2, kx h3, D'⟩
theorem lines_np {sy a b : Str} {most step goal j : Nat} : NoPot (.lst ((lines6 sy a b most step goal j).map V.str)) := by
  refine ⟨fun x y z e => ?_, fun _ e => (by cases e)⟩
  injection e with e
  have : V.int x ∈ (lines6 sy a b most step goal j).map V.str := by rw [e]; exact .head _
  obtain ⟨q, _, h⟩ := List.mem_map.mp this
  cases h
theorem case_keep {p : Addr} {n : Nat} {H H' : Hp} {sy a b : Str} {most step goal j : Nat} {v : V} (hp : Pot H p n) (k : KeepQ p H H') (h : CaseAt sy a b most step goal j H v) : CaseAt sy a b most step goal j H' v := by
  obtain ⟨T, L, f, rfl, h1, h2, h3⟩ := h
  exact ⟨T, L, f, rfl, k _ _ h1 (pot_ne hp h1 nopot_tup) (by intro _ e; cases e), k _ _ h2 (pot_ne hp h2 lines_np) (by intro _ e; cases e), lam_keep hp k h3⟩
/-- the joined text is not too long -/
theorem sum_le {n : Nat} : ∀ {l : List Str}, (∀ x ∈ l, x.length ≤ n) → (l.map (·.length)).sum ≤ l.length * n
  | [], _ => Nat.zero_le _
  | x :: r, h => by
    have h1 := h x (.head _)
    have h2 := sum_le (l := r) fun y hy => h y (.tail _ hy)
    rw [List.map_cons, List.sum_cons, List.length_cons, Nat.add_mul, Nat.one_mul]
    omega
theorem lines_sum {sy a b : Str} (h : sy ∈ four6) (ha : a ∈ six6) (hb : b ∈ six6) {most step goal : Nat} (hm : most ∈ [1, 2]) (hs : step ∈ [1, 2]) (hg : goal ∈ [0, 1, 2]) {j : Nat} (hj : j ∈ eight) :
    ((((("symbols " : Str) ++ sy) :: lines6 sy a b most step goal j)).map (·.length)).sum + ((("symbols " : Str) ++ sy) :: lines6 sy a b most step goal j).length * ("\n" : Str).length ≤ 16777216 := by
  obtain ⟨er, eg⟩ := okRows_eq (rows6_ok h ha hb hm hs hg j hj)
  have few := few6 (sy := sy) (a := a) (b := b) (most := most) (step := step) (goal := goal) j hj
  rw [← er]
  have l1 : ("\n" : Str).length = 1 := by decide +kernel
  have := sum_le (n := 60) (l := (rows6 sy (prog6 sy a b most step goal j)).map lineOf) fun x hx => by
    obtain ⟨r, hr, rfl⟩ := List.mem_map.mp hx
    have := List.all_eq_true.mp eg r hr
    unfold goodRow at this
    simp only [Bool.and_eq_true, decide_eq_true_eq, List.all_eq_true] at this
    exact this.2.1
  rw [List.length_map] at this ⊢
  rw [l1]
  omega
def LamAll (P : Program) (w : World) (K : PySem.W.Frag) (mg : Str → Option Value) (base : Heap) : Prop := ∀ (sy : Str) (most step goal : Nat), sy ∈ four6 → (1 ≤ most ∧ most ≤ 2) → (1 ≤ step ∧ step ≤ 2) → goal ≤ most → ∀ j ∈ eight, ∀ (F : LF) (f : Addr), IsLam F (lamX j) → LOkA P w K mg base CX0 9 f F (fr6 j) ((ws6 sy most step goal j).map some) (spL fun l => told6 sy most step goal l j)
section
variable {P : Program} {w : World} {K : PySem.W.Frag} {mg : Str → Option Value} {base : Heap} {CP CS : Addr}
theorem right_rest {f c2 : Addr} (BM : Bare mg) (mrepr : mg "repr" = none)
    (CT : Callee P w K mg base 1 "_law_take" ["_law_pot", "_law_upto"] spTake) (CS2 : Callee P w K mg base 2 "_law_of" ["_law_pot", "_law_some"] spOfS)
    (MG : Maker P w K mg base CP 17 "Program" ["self", "text"] (spGInit CP CS)) (CR : Callee P w K mg base 5 "run" ["machine", "text"] (spRunV CP CS)) (LA : LamAll P w K mg base)
    {A : Around} {outer : List Env} {s : Shared} {H : Hp} {Q : VK} (hgu : A.guards = some []) (hr : Room 18 (A.deeper (envOfC "_law_right" (defScope s__law_right) s.heap.objs.size f (.ref c2)))) :
    ∃ tt, PSs (cxOf CX0 P w K mg base sc__law_rightN "_law_right" (defScope s__law_right) f (.ref c2) A outer s H (fun _ _ _ => False)).nox ((defBody s__law_right).drop 10) tt ∧
      ∀ (H1 : Hp) (p L : Addr) (n : Nat) (sy a b : Str) (most step goal : Nat) (vs : List V) (x2 x3 x4 x5 x7 : Option V), sy ∈ four6 → a ∈ six6 → b ∈ six6 → a ≠ b → (1 ≤ most ∧ most ≤ 2) → (1 ≤ step ∧ step ≤ 2) → goal ≤ most → Pot H1 p n → n < 90000 →
        H1 L = some (.lst vs) → vs.length = 8 → (∀ j v, vs[j]? = some v → CaseAt sy a b most step goal j H1 v) → (∀ H', Pot H' p (n + 500) → But p H1 H' → Q (.bl true) H') →
        tt { nx := fun _ H' => Q .non H', rt := Q } [some (.ref p), some (.str sy), x2, x3, x4, x5, some (.ref L), x7, none, none, none, none, none, none] H1 := by
  refine ⟨_, (pss_cons (ps_for PassesOwn.never rfl (pi_list (pv 6)) (pg_tup (by rfl) (pgs_cons (pg_name (i := 8) sc__law_right.nd rfl (Or.inl rfl)) (pgs_cons (pg_name (i := 9) sc__law_right.nd rfl (Or.inl rfl)) pgs_nil)))
(pss_cons (ps_set (i := 10) sc__law_right.nd rfl (Or.inl rfl) (pe_make MG.mkr MG.ok hr rfl MG.mg MG.b .nil pass0 (pa_cons (pe_join pe_str (pe_op op_cat (pe_lst (pa_cons (pe_op op_add_str pe_str (pv 1)) pa_nil)) (pv 8))) pa_nil)))
(pss_one (ps_for PassesOwn.never rfl (pi_range1 (by rfl) BM.range (pa_cons pe_int pa_nil)) (pg_name (i := 4) sc__law_right.nd rfl (Or.inl rfl))
(pss_cons (ps_set (i := 11) sc__law_right.nd rfl (Or.inl rfl) (pe_join pe_str (pe_lc (own := [("_law_sign", 13)]) (g := gName 13) rfl sc__law_right.nd (pi_range1 (by rfl) BM.range (pa_cons (pe_call CT.ok (hr.mono (by decide)) rfl CT.mg CT.kp CT.b .nil pass0 (pa_cons (pv 0) (pa_cons pe_int pa_nil))) pa_nil)) (blkOk_by (N := sc__law_rightN) (sc := defScope s__law_right) (by decide +kernel)) (fun _ _ _ _ _ => pg_name (i := 13) sc__law_right.nd rfl (Or.inl rfl)) (fun _ _ _ _ _ => pts_nil) (fun _ _ _ _ _ => (pe_call CS2.ok (hr.mono (by decide)) rfl CS2.mg CS2.kp CS2.b .nil pass0 (pa_cons (pv 0) (pa_cons (pv 1) pa_nil)))))))
(pss_one (ps_if (pt_cmpR op_ne (pe_callB (call_reprV hgu hr.units) (by rfl) mrepr boot_repr (pa_cons (pe_call CR.ok (hr.mono (by decide)) rfl CR.mg CR.kp CR.b .nil pass0 (pa_cons (pv 10) (pa_cons (pv 11) pa_nil))) pa_nil)) (pe_callB (call_reprV hgu hr.units) (by rfl) mrepr boot_repr (pa_cons (pe_tup (pa_cons pe_str (pa_cons (pe_tupleOf (by rfl) BM.tuple (pe_escA (i := 9) (k := 9) hgu hr (by decide) rfl (Or.inl rfl) (pa_cons (pv 11) pa_nil))) pa_nil))) pa_nil)) (nomark _))
(pss_one (ps_ret pe_bl))
pss_nil)))))))
(pss_one (ps_ret pe_bl))), ?_⟩
  intro H1 p L n sy a b most step goal vs x2 x3 x4 x5 x7 hsy ha hb hab hm hs hg_ hp hn hL hvs hcase q
  have e1 : most ∈ [1, 2] := by
    have : most = 1 ∨ most = 2 := by omega
    simpa using this
  have e2 : step ∈ [1, 2] := by
    have : step = 1 ∨ step = 2 := by omega
    simpa using this
  have e3 : goal ∈ [0, 1, 2] := by
    have : goal = 0 ∨ goal = 1 ∨ goal = 2 := by omega
    simpa using this
  have hsl := four6_ok sy hsy
  have lS : ("symbols " : Str).length = 8 := by decide +kernel
  have l0 : ("" : Str).length = 0 := by decide +kernel
  have big : 20000 ≤ sizeLine := by rw [sizeLine_eq]; decide
  have npL : NoPot (.lst vs) := ⟨fun x y z e => (by injection e with e; rw [e] at hvs; cases hvs), fun _ e => (by cases e)⟩
  have Lp : L ≠ p := pot_ne hp hL npL
  refine ⟨.ref L, rfl, L, rfl, ⟨_, .inl (.inl hL)⟩, for_it (walk_list (K := K) (a := L) (xs := vs)) (fun i σ H' => ∃ x4 x8 x9 x10 x11 : Option V, σ = [some (.ref p), some (.str sy), x2, x3, x4, x5, some (.ref L), x7, x8, x9, x10, x11, none, none] ∧ Pot H' p (n + 60 * i) ∧ But p H1 H') ⟨x4, none, none, none, none, rfl, hp.more (by omega), But.refl p H1⟩ (fun i σ H' _ ⟨_, _, _, _, _, _, _, kk⟩ => .inl (.inl (kk _ _ hL Lp))) ?_ (fun σ H' ⟨_, _, _, _, _, e0, hpE, kk⟩ => ?_)⟩
  · rintro i v σ H0 H2 hi ⟨x4, x8, x9, x10, x11, rfl, hp2, k2⟩ ⟨rfl, hx⟩
    have hi8 : i < 8 := by rw [← hvs]; exact hi
    have hj : i ∈ eight := by
      have : i = 0 ∨ i = 1 ∨ i = 2 ∨ i = 3 ∨ i = 4 ∨ i = 5 ∨ i = 6 ∨ i = 7 := by omega
      simpa [eight] using this
    obtain ⟨T, Lj, g0, rfl, hT, hLj, hlam⟩ := case_keep hp (KeepQ.but k2) (hcase i v hx)
    refine ⟨T, _, rfl, .inl (.inl hT), rfl, _, _, rfl, _, _, rfl, rfl, ?_⟩
    refine ⟨⟨_, rfl⟩, .str sy, rfl, _, _, rfl, rfl, small (by rw [lS]; omega), small (by show 1 ≤ 1000; decide), fun a0 h0 => ?_⟩
    have s0 := same_new h0 (.lst [.str (("symbols " : Str) ++ sy)])
    have few := few6 (sy := sy) (a := a) (b := b) (most := most) (step := step) (goal := goal) i hj
    obtain ⟨er, eg⟩ := okRows_eq (rows6_ok hsy ha hb e1 e2 e3 i hj)
    have lnL : (lines6 sy a b most step goal i).length ≤ 20 := by
      have := congrArg List.length er
      rw [List.length_map, List.length_cons] at this
      omega
    refine ⟨.ref Lj, rfl, a0, Lj, _, _, rfl, rfl, upd_same, s0 _ _ hLj, small (by rw [List.length_map]; show 1 + _ ≤ 1000; omega), fun a1 h1 => ?_⟩
    have s1 := s0.trans (same_new h1 (.lst ((((("symbols " : Str) ++ sy) :: lines6 sy a b most step goal i)).map V.str)))
    refine ⟨("\n" : Str), a1, ((("symbols " : Str) ++ sy) :: lines6 sy a b most step goal i), rfl, rfl, .inl (.inl (.inl upd_same)), lines_sum hsy ha hb e1 e2 e3 hj, ?_⟩
    refine fun g dx hg hdx hne => ?_
    have npd : g ≠ dx := fun z => hne z.symm
    have TO := txt6 hsy ha hb hab hm hs hg_ i hj
    refine ⟨g, dx, sy, _, _, _, _, _, _, rfl, upd_same, TO, fun H3 b3 PA => ⟨rfl, ?_⟩⟩
    have s23 : Same H2 H3 := fun b o h => b3 b o ((s1.trans ((same_new hdx (.own g)).trans (same_new (H := upd _ dx (.own g)) (p := g) (by rw [upd_ne npd]; exact hg) (.ins CP dx [])))) b o h) (ne_of_none (s1 _ _ h) hg)
    have hp3 := hp2.same s23
    have k3 := k2.trans (But.of_same s23)
    have hlam3 := lam_keep hp2 (KeepQ.same s23) hlam
    clear b3 hg hdx hne npd s1 s0 h0 h1
    refine ⟨4, rfl, by decide, by decide, for_range (lo := 0) (n := 4) (fun m σ H' => ∃ x4 x11 : Option V, σ = [some (.ref p), some (.str sy), x2, x3, x4, x5, some (.ref L), x7, some (.ref Lj), some (.ref g0), some (.ref g), x11, none, none] ∧ Pot H' p (n + 60 * i + 14 * m) ∧ But p H3 H') ⟨x4, x11, rfl, hp3.more (by omega), But.refl p H3⟩ ?_ (fun σ H' ⟨_, _, e0, hpE, kk⟩ => ⟨_, _, _, _, _, e0, hpE.more (by omega), k3.trans kk⟩)⟩
    rintro m σ H4 hm4 ⟨x4', x11', rfl, hp4, k4⟩
    have PA4 := prog_keep hp3 (KeepQ.but k4) PA
    have hlam4 := lam_keep hp3 (KeepQ.but k4) hlam3
    -- the page
    refine ⟨⟨_, rfl⟩, .ref p, rfl, p, 13, n + 60 * i + 14 * m, rfl, hp4, by omega, by decide, by decide, fun d3 H5 u0 u1 hp5 b5 => ?_⟩
    obtain ⟨size, es, hsz⟩ : ∃ m : Nat, d3 = (m : Int) ∧ m < 13 := ⟨d3.toNat, by omega, by omega⟩
    subst es
    refine ⟨_, rfl, by omega, by omega, fun D hD => lc_range (lo := 0) (n := size) (fun k H' => ∃ zs : List Nat, H' D = some (.lst ((zs.map sgS).map V.str)) ∧ zs.length = k ∧ (∀ c ∈ zs, c ∈ tl sy) ∧ Pot H' p (n + 60 * i + 14 * m + 1 + k) ∧ But p H5 H') ?_ ?_ ?_⟩
    · exact ⟨[], upd_same, rfl, fun c h => (by cases h), hp5.same (same_new hD _), But.of_same (same_new hD _)⟩
    · rintro k H6 hk ⟨zs, k1, k2, k3, k4, k5⟩
      refine ⟨rfl, ?_⟩
      simp only [tYes, ↓reduceIte]
      have nDp := pot_fresh hp5 hD
      refine ⟨.ref p, rfl, .str sy, rfl, p, sy, n + 60 * i + 14 * m + 1 + k, rfl, k4, by omega, by omega, by omega, fun c H7 hc hp7 b7 => ?_⟩
      refine ⟨(zs.map sgS).map V.str, b7 _ _ k1 nDp, by rw [List.length_map, List.length_map, k2]; exact Nat.lt_of_lt_of_le (by omega : k < 1000) (small (Nat.le_refl _)), zs ++ [c], by rw [upd_same, List.map_append, List.map_append]; rfl, by rw [List.length_append, k2]; rfl, fun x hx => ?_, But.pot_off hp7 nDp, fun b o h nb => ?_⟩
      · rcases List.mem_append.mp hx with hx | hx
        · exact k3 x hx
        · rw [List.mem_singleton.mp hx]
          exact hc
      · rw [upd_ne (ne_of_none h hD)]
        exact b7 _ _ (k5 _ _ h nb) nb
    rintro H6 ⟨zs, f1, f2, f3, hp6, b6⟩
    refine ⟨_, D, zs.map sgS, rfl, rfl, .inl (.inl (.inl f1)), ?_, ?_⟩
    · rw [page_sum, l0, f2]
      omega
    obtain ⟨t, et⟩ : ∃ t, Txt.join ("" : Str) (zs.map sgS) = t := ⟨_, rfl⟩
    have htl : tl t = zs := by rw [← et]; exact tl_page zs
    rw [et]
    have hts : t.length = size := by rw [len_tl, htl, f2]
    have ht1 : ∀ c ∈ tl t, c ∈ tl sy := by rw [htl]; exact f3
    have ht2 : ∀ c ∈ tl t, c ∈ tl alpha := fun c hc => hsl.2.2.2.2 c (ht1 c hc)
    have ht3 : ∀ c ∈ tl t, c ∈ all6 := fun c hc => in_all6 sy hsy c (ht1 c hc)
    have k46 : But p H4 H6 := b5.trans b6
    have PA6 := prog_keep hp4 (KeepQ.but k46) PA4
    have hlam6 := lam_keep hp4 (KeepQ.but k46) hlam4
    have k36 := k4.trans k46
    clear f1 f3 b5 b6 hD et PA PA4 hlam4 hlam3 hlam hp3 hp4 hp5 k46
    -- both sides
    refine ⟨.ref g, rfl, .str t, rfl, g, t, _, sy, _, _, _, _, _, rfl, PA6, TO.ok, ht1, ht2, by omega, fun nn res r1 H7 hnn hrun s7 hres => ?_⟩
    have er2 := run6 hsy hm hs hg_ hj TO.ok ht1 hrun
    subst er2
    have h12 : (tl t).length ≤ 12 := by rw [tl_len]; omega
    obtain ⟨tl1, tl2⟩ := told6_short (sy := sy) (most := most) (step := step) (goal := goal) ht3 h12 i hj
    have one : ∀ o ∈ told6 sy most step goal (tl t) i, o.1.length ≤ 1000 := fun o ho => by
      obtain ⟨⟨c, _, e⟩, _⟩ := tl2 o ho
      rw [e]
      show 1 ≤ 1000
      decide
    have dk := done_dok tl2 tl1
    refine ⟨.ref r1, doneD (told6 sy most step goal (tl t) i), 20000, rfl, done_dv hres one, dk, big, ?_⟩
    obtain ⟨F, isF, hF, hC, D6⟩ := hlam6
    have LO := LA sy most step goal hsy hm hs hg_ i hj F g0 isF
    have D7 := D6.same s7
    refine ⟨g0, F, rfl, s7 _ _ hF, .str t, rfl, .str t, fr6 i, ws6 sy most step goal i, _, rfl, s7 _ _ hF, s7 _ _ hC, D7, LO, t, rfl, by omega, ht3, fun L2 refs H8 s8 hL2 hrl ho nc => ?_⟩
    have out : ∀ {b : Addr} {o : HO}, H8 b = some o → putC F.cs H7 H8 b = some o := fun {b o} e => by
      rw [putC_out fun z => by rw [nc b z] at e; cases e]
      exact e
    have s78 := put_same s8
    refine .inl ⟨L2, refs, rfl, .inl (.inl (out hL2)), fun q2 hq2 => ?_⟩
    have s9 := same_new hq2 (.tup refs)
    refine ⟨small (by show 2 ≤ 1000; decide), fun T4 hT4 => ?_⟩
    have s10 := same_new hT4 (.tup [.str "done", .ref q2])
    have s3 := s9.trans s10
    have h4 : ResAt (upd (upd (putC F.cs H7 H8) q2 (.tup refs)) T4 (.tup [.str "done", .ref q2])) T4 (.done (told6 sy most step goal (tl t) i)) := ⟨q2, refs, upd_same, s10 _ _ upd_same, ho.map fun a vs e => s3 _ _ (out e)⟩
    generalize (upd (upd (putC F.cs H7 H8) q2 (.tup refs)) T4 (.tup [.str "done", .ref q2])) = H9 at s3 h4 ⊢
    refine ⟨.ref T4, doneD (told6 sy most step goal (tl t) i), 20000, rfl, done_dv h4 one, dk, big, rfl, _, rfl, ?_⟩
    rw [decide_eq_true rfl]
    refine iteF ?_
    have s69 := (s7.trans s78).trans s3
    exact ⟨_, _, rfl, (hp6.same s69).more (by omega), k36.trans (But.of_same s69)⟩
  · subst e0
    rw [hvs] at hpE
    exact q _ (hpE.more (by omega)) kk
end
end Fv
set_option Elab.async false
set_option linter.all false
set_option maxRecDepth 100000
set_option maxHeartbeats 4000000
namespace Fv
open PySem PySem.Spec PyProof.Rows L2 TL LamX NdefX
abbrev s__law_counted : Stmt := top 49
abbrev sc__law_countedN : List Str := ["_law_symbols", "_law_names", "_law_most", "_law_step", "_law_goal", "_law_c", "_law_part", "_law_lines"]
theorem sc__law_counted : FnScope sc__law_countedN ["_law_symbols", "_law_names", "_law_most", "_law_step", "_law_goal"] (defScope s__law_counted) := ⟨rfl, rfl, rfl, by decide +kernel, rfl, by decide +kernel, by decide +kernel⟩
def spMk0 (T : List (Addr × Str)) (Pj : Addr) : Sp := fun vs H Q _ => ∃ (sy a b : Str) (nl : Addr) (most step goal : Nat), vs = [.str sy, .ref nl, .int (most : Int), .int (step : Int), .int (goal : Int)] ∧ sy ∈ four6 ∧ a ∈ six6 ∧ b ∈ six6 ∧ most ∈ [1, 2] ∧ step ∈ [1, 2] ∧ goal ∈ [0, 1, 2] ∧ H nl = some (.lst [.str a, .str b]) ∧ Tabs T H ∧
  ∀ (v : V) (H' : Hp), CaseAt sy a b most step goal 0 H' v → Tabs T H' → But Pj H H' → Q v H'
theorem num_ok : ∀ n ∈ [0, 1, 2], (numS n).length = 1 ∧ (n : Int).natAbs.log2 < 1920 := by decide +kernel
section
variable {P : Program} {w : World} {K : PySem.W.Frag} {mg : Str → Option Value} {base : Heap}
theorem ok_counted {f c1 P1 : Addr} {fd : FuncData} {T : List (Addr × Str)} (F : FunC K "_law_counted" "_law_counted" s__law_counted f fd c1) (TB : TabB base mg c1 P1) (inT : (P1, qL "_law_counted") ∈ T) (one : ∀ p ∈ T, p.1 = P1 → p.2 = qL "_law_counted") (BM : Bare mg) :
    FnOkG P w K mg base 1 f fd ["_law_symbols", "_law_names", "_law_most", "_law_step", "_law_goal"] (spMk0 T P1) := by
  refine F.okC (js := [2, 3, 4]) sc__law_counted (fun vs H Q E h => ?_) (by decide) (fun j hj => ?_) (fun A outer s H vs Q E hgu hr h => ?_)
  · obtain ⟨sy, a, b, nl, most, step, goal, rfl, _⟩ := h
    rfl
  · have : j = 2 ∨ j = 3 ∨ j = 4 := by simpa using hj
    rcases this with rfl | rfl | rfl <;> exact ⟨_, rfl, by decide +kernel⟩
  obtain ⟨sy, a, b, nl, most, step, goal, rfl, hsy, ha, hb, hm, hs, hg, hn, hT, q⟩ := h
  have hsl := four6_ok sy hsy
  have na := (six6_ok a ha).2.2.1
  have nb := (six6_ok b hb).2.2.1
  obtain ⟨at0, at1⟩ := s6_at hsy
  have lc0 : (" " : Str).length = 1 := by decide +kernel
  have lc1 : ("      copy" : Str).length = 10 := by decide +kernel
  have lc2 : ("    do " : Str).length = 7 := by decide +kernel
  have lc3 : ("    if " : Str).length = 7 := by decide +kernel
  have lc4 : ("    right" : Str).length = 9 := by decide +kernel
  have lc5 : ("  add " : Str).length = 6 := by decide +kernel
  have lc6 : ("  while not at >" : Str).length = 16 := by decide +kernel
  have lc7 : (" = " : Str).length = 3 := by decide +kernel
  have lc8 : ("cell " : Str).length = 5 := by decide +kernel
  have lc9 : ("main" : Str).length = 4 := by decide +kernel
  have lc10 : ("part " : Str).length = 5 := by decide +kernel
  obtain ⟨lnmost, lgmost⟩ := num_ok most (by exact .tail _ hm)
  obtain ⟨lnstep, lgstep⟩ := num_ok step (by exact .tail _ hs)
  obtain ⟨lngoal, lggoal⟩ := num_ok goal (by exact hg)
  refine ⟨_, (ended_cons (ps_asg (pe_slice sl_list (pv 1) po_none (po_some pe_int)) (pg_unl (by rfl) (pgs_cons (pg_name (i := 5) sc__law_counted.nd rfl (Or.inl rfl)) (pgs_cons (pg_name (i := 6) sc__law_counted.nd rfl (Or.inl rfl)) pgs_nil))))
(ended_cons (ps_set (i := 7) sc__law_counted.nd rfl (Or.inl rfl) (pe_lst (pa_cons (pe_op op_add_str (pe_op op_add_str (pe_op op_add_str pe_str (pv 5)) pe_str) (pe_callTy call_str_int (by rfl) BM.str (by decide +kernel) (pa_cons (pv 2) pa_nil))) (pa_cons (pe_op op_add_str pe_str (pv 6)) (pa_cons (pe_op op_add_str (pe_op op_add_str (pe_op op_add_str pe_str (pv 5)) pe_str) (pe_callTy call_str_int (by rfl) BM.str (by decide +kernel) (pa_cons (pv 3) pa_nil))) (pa_cons pe_str (pa_cons pe_str pa_nil)))))))
(ended_cons (ps_set (i := 7) sc__law_counted.nd rfl (Or.inl rfl) (pe_op op_cat (pv 7) (pe_lst (pa_cons pe_str (pa_cons (pe_op op_add_str pe_str (pv 6)) (pa_cons (pe_op op_add_str (pe_op op_add_str (pe_op op_add_str pe_str (pv 5)) pe_str) (pe_callTy call_str_int (by rfl) BM.str (by decide +kernel) (pa_cons (pv 4) pa_nil))) (pa_cons pe_str pa_nil)))))))
(ended_ret (pe_tup (pa_cons (pv 7) (pa_cons (pe_lamF TB rfl inT one (show freeB (defScope s__law_counted) (lamS (lamX 0)) = true by decide +kernel) rfl) pa_nil))))))), ?_⟩
  have k0 := Kp.nil H
  refine ⟨.ref nl, rfl, _, rfl, nl, _, rfl, .inl (.inl hn), fun p0 np => ⟨p0, _, rfl, .inl (.inl upd_same), rfl, _, _, rfl, _, _, rfl, rfl, ?_⟩⟩
  have k1 := k0.push np (.lst [.str a, .str b])
  refine ⟨.str (a), rfl, _, _, rfl, rfl, cs (by first | omega | (simp only [len_app]; omega)) (by first | omega | (simp only [len_app]; omega)), _, _, rfl, rfl, cs (by first | omega | (simp only [len_app]; omega)) (by first | omega | (simp only [len_app]; omega)), .int (most : Int), rfl, (most : Int), rfl, lgmost, _, _, rfl, rfl, cs (by first | omega | (simp only [len_app]; omega)) (by show (numS most).length ≤ 100; omega), .str (b), rfl, _, _, rfl, rfl, cs (by first | omega | (simp only [len_app]; omega)) (by first | omega | (simp only [len_app]; omega)), .str (a), rfl, _, _, rfl, rfl, cs (by first | omega | (simp only [len_app]; omega)) (by first | omega | (simp only [len_app]; omega)), _, _, rfl, rfl, cs (by first | omega | (simp only [len_app]; omega)) (by first | omega | (simp only [len_app]; omega)), .int (step : Int), rfl, (step : Int), rfl, lgstep, _, _, rfl, rfl, cs (by first | omega | (simp only [len_app]; omega)) (by show (numS step).length ≤ 100; omega), small (by show 5 ≤ 1000; decide), fun L0 h0 => ?_⟩
  have k2 := k1.push h0 (.lst [.str ((((("cell " : Str)) ++ (a)) ++ ((" " : Str))) ++ (numS most)), .str ((("part " : Str)) ++ (b)), .str ((((("  add " : Str)) ++ (a)) ++ ((" " : Str))) ++ (numS step)), .str (("main" : Str)), .str (("  while not at >" : Str))])
  refine ⟨.ref L0, rfl, .str (b), rfl, _, _, rfl, rfl, cs (by first | omega | (simp only [len_app]; omega)) (by first | omega | (simp only [len_app]; omega)), .str (a), rfl, _, _, rfl, rfl, cs (by first | omega | (simp only [len_app]; omega)) (by first | omega | (simp only [len_app]; omega)), _, _, rfl, rfl, cs (by first | omega | (simp only [len_app]; omega)) (by first | omega | (simp only [len_app]; omega)), .int (goal : Int), rfl, (goal : Int), rfl, lggoal, _, _, rfl, rfl, cs (by first | omega | (simp only [len_app]; omega)) (by show (numS goal).length ≤ 100; omega), small (by show 4 ≤ 1000; decide), fun L1 h1 => ?_⟩
  have k3 := k2.push h1 (.lst [.str (("    right" : Str)), .str ((("    do " : Str)) ++ (b)), .str ((((("    if " : Str)) ++ (a)) ++ ((" = " : Str))) ++ (numS goal)), .str (("      copy" : Str))])
  refine ⟨L0, L1, _, _, rfl, rfl, k3.all 1 _ _ rfl, upd_same, small (by show 9 ≤ 1000; decide), fun L2 h2 => ?_⟩
  have k4 := k3.push h2 (.lst ((lines6 sy a b most step goal 0).map V.str))
  have TT := hT.ext k4.same
  refine ⟨.ref L2, rfl, TT, fun fL c' H1 b1 T1 n1 lf cf => ⟨small (by show 2 ≤ 1000; decide), fun Tt nT => ⟨fun j hj => ?_, fun l kl nd fresh inj => ?_⟩⟩⟩
  · have : j = 2 ∨ j = 3 ∨ j = 4 := by simpa using hj
    rcases this with rfl | rfl | rfl <;> exact ⟨_, rfl⟩
  have s4 := same_new nT (.tup [.ref L2, .ref fL])
  have fin := make_end (sy := sy) (a := a) (b := b) (most := most) (step := step) (goal := goal) (j := 0) (L := L2) (Tt := Tt) (by decide) inT k4 TT upd_same b1 T1 s4 upd_same lf cf kl nd inj (fun p hp => (fresh p hp).2) rfl (fun i y e => by
    match i, e with
    | 0, e => cases e; exact ⟨3, .int (step : Int), by decide, rfl, rfl, rfl⟩
    | 1, e => cases e; exact ⟨2, .int (most : Int), by decide, rfl, rfl, rfl⟩
    | 2, e => cases e; exact ⟨4, .int (goal : Int), by decide, rfl, rfl, rfl⟩
    | i + 3, e => cases e)
  exact q _ _ fin.1 fin.2.1 fin.2.2
end
end Fv
set_option Elab.async false
set_option linter.all false
set_option maxRecDepth 100000
set_option maxHeartbeats 4000000
namespace Fv
open PySem PySem.Spec PyProof.Rows L2 TL LamX NdefX
structure CalleeG (P : Program) (w : World) (K : PySem.W.Frag) (mg : Str → Option Value) (base : Heap) (k : Nat) (x : Str) (ps : List Str) (sp : Sp) where
  f : Addr
  fd : FuncData
  ok : FnOkG P w K mg base k f fd ps sp
  mg : mg x = some (.ref f)
  kp : PySem.W.keepIn K (.ref f) = true
  b : Binds K fd ps []
/-- what is made stands, though a list grows -/
theorem lines_str : ∀ {sy a b : Str} {most step goal : Nat} {j : Nat}, j ∈ eight → ∃ z r, lines6 sy a b most step goal j = z :: r := by
  intro sy a b most step goal j hj
  simp only [eight, List.mem_cons, List.not_mem_nil, or_false] at hj
  rcases hj with rfl | rfl | rfl | rfl | rfl | rfl | rfl | rfl <;> exact ⟨_, _, rfl⟩
theorem lam_upd {H : Hp} {D : Addr} {acc : List V} {o : HO} {sy : Str} {most step goal j : Nat} {f : Addr} (hD : H D = some (.lst acc)) (h : LamAt H sy most step goal j f) : LamAt (upd H D o) sy most step goal j f := by
  obtain ⟨F, h1, h2, h3, E⟩ := h
  have kx : ∀ {b : Addr} {φ : Heap → Prop}, H b = some (.ext φ) → upd H D o b = some (.ext φ) := fun {b φ} e => by
    rw [upd_ne fun z => by rw [z, hD] at e; cases e]
    exact e
  exact ⟨F, h1, kx h2, kx h3, E.len, fun c hc => (E.all c hc).elim fun o ⟨v, e, d⟩ => ⟨o, v, kx e, d⟩, E.inj, fun i y e => (E.has i y e).elim fun c ⟨e1, r⟩ => ⟨c, e1, fun v ev => (r v ev).elim fun o ⟨u, a, b, d⟩ => ⟨o, u, a, kx b, d⟩⟩⟩
theorem case_upd {H : Hp} {D : Addr} {acc : List V} {o : HO} {sy a b : Str} {most step goal j : Nat} {v : V} (hj : j ∈ eight) (hD : H D = some (.lst acc)) (hr : ∀ v ∈ acc, ∃ x, v = .ref x) (h : CaseAt sy a b most step goal j H v) : CaseAt sy a b most step goal j (upd H D o) v := by
  obtain ⟨T, L, f, rfl, h1, h2, h3⟩ := h
  refine ⟨T, L, f, rfl, ?_, ?_, lam_upd hD h3⟩
  · rw [upd_ne fun z => by rw [z, hD] at h1; cases h1]
    exact h1
  · rw [upd_ne fun z => ?_]
    · exact h2
    · rw [z, hD] at h2
      injection h2 with h2
      injection h2 with h2
      obtain ⟨q, r, e⟩ := lines_str (sy := sy) (a := a) (b := b) (most := most) (step := step) (goal := goal) hj
      rw [e] at h2
      obtain ⟨x, hx⟩ := hr (.str q) (by rw [h2]; exact .head _)
      cases hx
theorem tabs_upd {T : List (Addr × Str)} {H : Hp} {D : Addr} {acc : List V} {o : HO} (hD : H D = some (.lst acc)) (t : Tabs T H) : Tabs T (upd H D o) := fun q hq => by
  obtain ⟨ps, h1, h2, h3⟩ := t q hq
  refine ⟨ps, ?_, h2, fun pos cv hc => ?_⟩
  · rw [upd_ne fun z => by rw [z, hD] at h1; cases h1]
    exact h1
  · obtain ⟨c', e1, e2⟩ := h3 pos cv hc
    refine ⟨c', e1, ?_⟩
    rw [upd_ne fun z => by rw [z, hD] at e2; exact absurd (Option.some.inj e2) (fun z => by unfold CodeO at z; cases z)]
    exact e2
theorem held_nil {cells : List (Str × Addr)} {names : List (Str × NameKind)} {H : Hp} (hfr : ∀ y ∈ names, y.2 = .free → y.1 ∈ ([] : List Str)) : Held H (cloFrom cells names []) [] [] := by
  have e : cloFrom cells names [] = [] := List.eq_nil_iff_forall_not_mem.mpr fun p hp => by
    have := (clo_in hfr hp).1
    cases this
  rw [e]
  exact ⟨rfl, fun c hc => (nomatch hc), fun x y c h => (by cases h), fun i y h => (by cases i <;> cases h)⟩
/-- what is known all the way -/
structure Kn (T : List (Addr × Str)) (p nl : Addr) (a b : Str) (n : Nat) (G H : Hp) : Prop where
  pot : Pot H p n
  tabs : Tabs T H
  nms : H nl = some (.lst [.str a, .str b])
  keep : KeepQ p G H
  dom : ∀ b, H b = none → G b = none
section
variable {T : List (Addr × Str)} {p nl : Addr} {a b : Str} {n : Nat} {G H H' : Hp}
theorem nms_np : NoPot (.lst [.str a, .str b]) := ⟨fun x y z e => (by injection e with e; cases e), fun _ e => (by cases e)⟩
theorem Kn.start (hp : Pot H p n) (hT : Tabs T H) (hn : H nl = some (.lst [.str a, .str b])) : Kn T p nl a b n H H := ⟨hp, hT, hn, KeepQ.refl p H, fun _ e => e⟩
theorem same_none (s : Same H H') {b : Addr} (e : H' b = none) : H b = none := by
  cases h : H b with
  | none => rfl
  | some o => rw [s _ _ h] at e; cases e
theorem Kn.same (k : Kn T p nl a b n G H) (s : Same H H') : Kn T p nl a b n G H' := ⟨k.pot.same s, k.tabs.ext s, s _ _ k.nms, k.keep.trans (KeepQ.same s), fun b e => k.dom b (same_none s e)⟩
theorem Kn.but (k : Kn T p nl a b n G H) {m : Nat} (hp : Pot H' p m) (s : But p H H') : Kn T p nl a b m G H' := ⟨hp, tabs_but k.tabs k.pot s, s _ _ k.nms (pot_ne k.pot k.nms nms_np), k.keep.trans (KeepQ.but s), fun b e => k.dom b (by
  have nb : b ≠ p := fun z => by
    obtain ⟨x, y, u, h, _⟩ := hp.at_
    rw [← z, e] at h
    cases h
  cases h : H b with
  | none => rfl
  | some o => rw [s _ _ h nb] at e; cases e)⟩
theorem Kn.tab (k : Kn T p nl a b n G H) {Pj : Addr} {q : Str} (s : But Pj H H') (t : Tabs T H') (m : (Pj, q) ∈ T) : Kn T p nl a b n G H' := by
  have kq : KeepQ p H H' := KeepQ.tab s k.tabs m
  refine ⟨?_, t, kq _ _ k.nms (pot_ne k.pot k.nms nms_np) (by intro _ e; cases e), k.keep.trans kq, fun b e => k.dom b ?_⟩
  · obtain ⟨x, y, u, e, r⟩ := k.pot.at_
    obtain ⟨ps, h1, _⟩ := k.tabs _ m
    exact ⟨x, y, u, s _ _ e (fun z => by rw [z] at e; rw [e] at h1; cases h1), r⟩
  · have nb : b ≠ Pj := fun z => by
      obtain ⟨ps, h1, _⟩ := t _ m
      have h1 : H' Pj = _ := h1
      rw [← z, e] at h1
      cases h1
    cases h : H b with
    | none => rfl
    | some o => rw [s _ _ h nb] at e; cases e
/-- a list that is new since G changes -/
theorem Kn.upd (k : Kn T p nl a b n G H) {D : Addr} {acc : List V} {o : HO} (hG : G D = none) (hD : H D = some (.lst acc)) (hr : ∀ v ∈ acc, ∃ x, v = .ref x) : Kn T p nl a b n G (L2.upd H D o) := by
  have Dp : D ≠ p := pot_ne k.pot hD (nopot_refs hr)
  refine ⟨But.pot_off k.pot Dp, tabs_upd hD k.tabs, ?_, fun x u e n1 n2 => ?_, fun x e => ?_⟩
  · rw [upd_ne fun z => ?_]
    · exact k.nms
    · have h := k.nms
      rw [z, hD] at h
      injection h with h
      injection h with h
      obtain ⟨x, hx⟩ := hr (.str a) (by rw [h]; exact .head _)
      cases hx
  · rw [upd_ne (ne_of_none e hG)]
    exact k.keep x u e n1 n2
  · by_cases z : x = D
    · rw [z]
      exact hG
    · rw [upd_ne z] at e
      exact k.dom x e
end
end Fv
set_option Elab.async false
set_option linter.all false
set_option maxRecDepth 100000
set_option maxHeartbeats 8000000
namespace Fv
open PySem PySem.Spec PyProof.Rows L2 TL LamX NdefX
/-- cases, the first ones -/
structure Cs (sy a b : Str) (most step goal : Nat) (H : Hp) (vs : List V) (k : Nat) : Prop where
  len : vs.length = k
  refs : ∀ v ∈ vs, ∃ x, v = .ref x
  at_ : ∀ (j : Nat) (v : V), vs[j]? = some v → CaseAt sy a b most step goal j H v
section
variable {sy a b : Str} {most step goal k : Nat} {H H' : Hp} {vs : List V}
theorem eight_of {j : Nat} (h : j < 8) : j ∈ eight := by
  have : j = 0 ∨ j = 1 ∨ j = 2 ∨ j = 3 ∨ j = 4 ∨ j = 5 ∨ j = 6 ∨ j = 7 := by omega
  simpa [eight] using this
theorem Cs.keep {p : Addr} {n : Nat} (c : Cs sy a b most step goal H vs k) (hp : Pot H p n) (q : KeepQ p H H') : Cs sy a b most step goal H' vs k := ⟨c.len, c.refs, fun j v e => case_keep hp q (c.at_ j v e)⟩
theorem Cs.upd {D : Addr} {acc : List V} {o : HO} (c : Cs sy a b most step goal H vs k) (hk : k ≤ 8) (hD : H D = some (.lst acc)) (hr : ∀ v ∈ acc, ∃ x, v = .ref x) : Cs sy a b most step goal (L2.upd H D o) vs k :=
  ⟨c.len, c.refs, fun j v e => case_upd (eight_of (by have := (List.getElem?_eq_some_iff.mp e).1; have := c.len; omega)) hD hr (c.at_ j v e)⟩
theorem Cs.snoc {v : V} (c : Cs sy a b most step goal H vs k) (h : CaseAt sy a b most step goal k H v) : Cs sy a b most step goal H (vs ++ [v]) (k + 1) := by
  refine ⟨by rw [List.length_append, c.len]; rfl, fun x hx => ?_, fun j x e => ?_⟩
  · rcases List.mem_append.mp hx with hx | hx
    · exact c.refs x hx
    · rw [List.mem_singleton.mp hx]
      obtain ⟨T, _, _, e, _⟩ := h
      exact ⟨T, e⟩
  · by_cases hj : j < vs.length
    · rw [List.getElem?_append_left hj] at e
      exact c.at_ j x e
    · have hj2 : j = vs.length := by
        have := (List.getElem?_eq_some_iff.mp e).1
        rw [List.length_append, List.length_singleton] at this
        omega
      subst hj2
      rw [List.getElem?_append_right (Nat.le_refl _), Nat.sub_self] at e
      cases e
      rw [c.len]
      exact h
end
section
variable {P : Program} {w : World} {K : PySem.W.Frag} {mg : Str → Option Value} {base : Heap} {CP CS : Addr}
theorem right_mid {f c2 P0 P5 P7 f1 f2 f3 f4 : Addr} {T : List (Addr × Str)} (TB : TabB base mg c2 P7) (inT : (P7, qL "_law_right") ∈ T) (one : ∀ p ∈ T, p.1 = P7 → p.2 = qL "_law_right")
    (BM : Bare mg) (mrepr : mg "repr" = none)
    (CT : Callee P w K mg base 1 "_law_take" ["_law_pot", "_law_upto"] spTake) (CS2 : Callee P w K mg base 2 "_law_of" ["_law_pot", "_law_some"] spOfS)
    (MG : Maker P w K mg base CP 17 "Program" ["self", "text"] (spGInit CP CS)) (CR : Callee P w K mg base 5 "run" ["machine", "text"] (spRunV CP CS)) (LA : LamAll P w K mg base)
    (C0 : CalleeG P w K mg base 1 "_law_counted" ["_law_symbols", "_law_names", "_law_most", "_law_step", "_law_goal"] (spMk0 T P0)) (in0 : (P0, qL "_law_counted") ∈ T)
    (C5 : CalleeG P w K mg base 1 "_law_remembered" ["_law_symbols", "_law_names"] (spMk T P5 5)) (in5 : (P5, qL "_law_remembered") ∈ T)
    (m1 : mg "_law_parity" = some (.ref f1)) (m2 : mg "_law_nested" = some (.ref f2)) (m3 : mg "_law_stopped" = some (.ref f3)) (m4 : mg "_law_two_cells" = some (.ref f4))
    (CC : ∀ (i : Nat) (g : Addr), [f1, f2, f3, f4][i]? = some g → ∃ (fd : FuncData) (Pj : Addr) (q : Str), FnOkG P w K mg base 1 g fd ["_law_symbols", "_law_names"] (spMk T Pj (i + 1)) ∧ PySem.W.keepIn K (.ref g) = true ∧ Binds K fd ["_law_symbols", "_law_names"] [] ∧ (Pj, q) ∈ T)
    {A : Around} {outer : List Env} {s : Shared} {H : Hp} {Q : VK} (hgu : A.guards = some []) (hr : Room 18 (A.deeper (envOfC "_law_right" (defScope s__law_right) s.heap.objs.size f (.ref c2)))) :
    ∃ tt, PSs (cxOf CX0 P w K mg base sc__law_rightN "_law_right" (defScope s__law_right) f (.ref c2) A outer s H (fun _ _ _ => False)).nox ((defBody s__law_right).drop 4) tt ∧
      ∀ (H1 : Hp) (p nl : Addr) (n : Nat) (sy a b : Str) (most : Nat) (x3 x4 : Option V), sy ∈ four6 → a ∈ six6 → b ∈ six6 → a ≠ b → (1 ≤ most ∧ most ≤ 2) → Pot H1 p n → n < 80000 → Tabs T H1 → H1 nl = some (.lst [.str a, .str b]) →
        (∀ H', Pot H' p (n + 600) → KeepQ p H1 H' → Tabs T H' → Q (.bl true) H') →
        tt { nx := fun _ H' => Q .non H', rt := Q } [some (.ref p), some (.str sy), some (.ref nl), x3, x4, some (.int (most : Int)), none, none, none, none, none, none, none, none] H1 := by
  obtain ⟨tr, hbr, hrest⟩ := right_rest (f := f) (c2 := c2) (A := A) (outer := outer) (s := s) (H := H) (Q := Q) BM mrepr CT CS2 MG CR LA hgu hr
  refine ⟨_, (pss_cons (ps_set (i := 6) sc__law_right.nd rfl (Or.inl rfl) (pe_lst (pa_cons (pe_callG C0.ok hgu (hr.mono (by decide)) rfl C0.mg C0.kp C0.b (pa_cons (pv 1) (pa_cons (pv 2) (pa_cons (pv 5) (pa_cons (pe_op op_add pe_int (pe_call CT.ok (hr.mono (by decide)) rfl CT.mg CT.kp CT.b .nil pass0 (pa_cons (pv 0) (pa_cons pe_int pa_nil)))) (pa_cons (pe_call CT.ok (hr.mono (by decide)) rfl CT.mg CT.kp CT.b .nil pass0 (pa_cons (pv 0) (pa_cons (pe_op op_add (pv 5) pe_int) pa_nil))) pa_nil)))))) pa_nil)))
(pss_cons (ps_set (i := 6) sc__law_right.nd rfl (Or.inl rfl) (pe_op op_cat (pv 6) (pe_lc (own := [("_law_make", 12)]) (g := gName 12) rfl sc__law_right.nd (pi_tup (pe_tup (pa_cons (pe_glob (v := .ref f1) (by rfl) m1 rfl) (pa_cons (pe_glob (v := .ref f2) (by rfl) m2 rfl) (pa_cons (pe_glob (v := .ref f3) (by rfl) m3 rfl) (pa_cons (pe_glob (v := .ref f4) (by rfl) m4 rfl) pa_nil)))))) (blkOk_by (N := sc__law_rightN) (sc := defScope s__law_right) (by decide +kernel)) (fun _ _ _ _ _ => pg_name (i := 12) sc__law_right.nd rfl (Or.inl rfl)) (fun _ _ _ _ _ => pts_nil) (fun _ _ _ _ _ => (show PE _ _ (tCallV P w K mg base 1 12 (tCons (tVar 1) (tCons (tVar 2) tNil))) from pe_callV (i := 12) hgu (hr.mono (by decide)) rfl (Or.inl rfl) (pa_cons (pv 1) (pa_cons (pv 2) pa_nil)))))))
(pss_cons (ps_expr (pe_bm PySem.F.plainAttrs_list PySem.F.slot_list_append PySem.F.type_list_append mt_append (pv 6) (pa_cons (pe_callG C5.ok hgu (hr.mono (by decide)) rfl C5.mg C5.kp C5.b (pa_cons (pv 1) (pa_cons (pv 2) pa_nil))) pa_nil)))
(pss_cons (ps_expr (pe_bm PySem.F.plainAttrs_list PySem.F.slot_list_append PySem.F.type_list_append mt_append (pv 6) (pa_cons (pe_tup (pa_cons (pe_lst (pa_cons pe_str (pa_cons pe_str (pa_cons pe_str (pa_cons pe_str pa_nil))))) (pa_cons (pe_lamF TB rfl inT one (show freeB (defScope s__law_right) (lamS (lamX 6)) = true by decide +kernel) rfl) pa_nil))) pa_nil)))
(pss_cons (ps_set (i := 7) sc__law_right.nd rfl (Or.inl rfl) (pe_lst (pa_cons pe_str (pa_cons (pe_op op_add_str (pe_op op_add_str pe_str (pv 1)) pe_str) (pa_cons pe_str (pa_cons pe_str pa_nil))))))
(pss_cons (ps_expr (pe_bm PySem.F.plainAttrs_list PySem.F.slot_list_append PySem.F.type_list_append mt_append (pv 6) (pa_cons (pe_tup (pa_cons (pv 7) (pa_cons (pe_lamF TB rfl inT one (show freeB (defScope s__law_right) (lamS (lamX 7)) = true by decide +kernel) rfl) pa_nil))) pa_nil)))
hbr)))))), ?_⟩
  intro H1 p nl n sy a b most x3 x4 hsy ha hb hab hm hp hn hT hnl q
  have hsl := four6_ok sy hsy
  have e1 : most ∈ [1, 2] := by
    have : most = 1 ∨ most = 2 := by omega
    simpa using this
  have K1 : Kn T p nl a b n H1 H1 := .start hp hT hnl
  -- the first case
  refine ⟨.str sy, rfl, .ref nl, rfl, .int (most : Int), rfl, .ref p, rfl, p, 2, n, rfl, hp, by omega, by decide, by decide, fun d1 H2 u0 u1 hp2 b2 => ?_⟩
  obtain ⟨step, es, hs⟩ : ∃ m : Nat, 1 + d1 = (m : Int) ∧ (1 ≤ m ∧ m ≤ 2) := ⟨(1 + d1).toNat, by omega, by omega⟩
  have e2 : step ∈ [1, 2] := by
    have : step = 1 ∨ step = 2 := by omega
    simpa using this
  refine ⟨_, _, rfl, rfl, .ref p, rfl, .int (most : Int), rfl, _, _, rfl, rfl, p, _, n + 1, rfl, hp2, by omega, by omega, by omega, fun d2 H3 v0 v1 hp3 b3 => ?_⟩
  obtain ⟨goal, eg, hg⟩ : ∃ m : Nat, d2 = (m : Int) ∧ m ≤ most := ⟨d2.toNat, by omega, by omega⟩
  subst eg
  have e3 : goal ∈ [0, 1, 2] := by
    have : goal = 0 ∨ goal = 1 ∨ goal = 2 := by omega
    simpa using this
  have K3 := (K1.but hp2 b2).but hp3 b3
  clear b2 b3 hp2 hp3
  refine ⟨sy, a, b, nl, most, step, goal, (by show [V.str sy, V.ref nl, V.int (most : Int), V.int (1 + d1), V.int (goal : Int)] = _; rw [es]), hsy, ha, hb, e1, e2, e3, K3.nms, K3.tabs, fun w0 H4 c4 T4 b4 => ?_⟩
  have K4 := K3.tab b4 T4 in0
  have C4 : Cs sy a b most step goal H4 [w0] 1 := ⟨rfl, fun v hv => (by rw [List.mem_singleton.mp hv]; obtain ⟨x, _, _, e, _⟩ := c4; exact ⟨x, e⟩), fun j v e => by
    match j, e with
    | 0, e => cases e; exact c4
    | j + 1, e => cases e⟩
  clear c4 b4 T4 K3
  refine ⟨small (by show 1 ≤ 1000; decide), fun L0 h0 => ?_⟩
  have s5 := same_new h0 (.lst [w0])
  have K5 := K4.same s5
  have C5' := C4.keep K4.pot (KeepQ.same s5)
  have a5 : (upd H4 L0 (.lst [w0])) L0 = some (.lst [w0]) := upd_same
  generalize (upd H4 L0 (.lst [w0])) = H5 at K5 C5' a5 s5 ⊢
  clear K4 C4 h0
  -- four more
  refine ⟨.ref L0, rfl, small (by show 4 ≤ 1000; decide), fun Tq hq => ⟨Tq, rfl, ⟨_, .inl (.inl upd_same)⟩, ?_⟩⟩
  have s6 := same_new hq (.tup [.ref f1, .ref f2, .ref f3, .ref f4])
  have K6 := K5.same s6
  have C6 := C5'.keep K5.pot (KeepQ.same s6)
  have a6 := s6 _ _ a5
  have q6 : (upd H5 Tq (.tup [.ref f1, .ref f2, .ref f3, .ref f4])) Tq = some (.tup [.ref f1, .ref f2, .ref f3, .ref f4]) := upd_same
  generalize (upd H5 Tq (.tup [.ref f1, .ref f2, .ref f3, .ref f4])) = H6 at K6 C6 a6 q6 ⊢
  clear K5 C5' s6 hq a5 s5
  intro D hD
  have hGD := K6.dom D hD
  have nL0 : L0 ≠ D := ne_of_none a6 hD
  have nTq : Tq ≠ D := ne_of_none q6 hD
  refine lc_it (walk_tup (K := K) (a := Tq) (xs := [.ref f1, .ref f2, .ref f3, .ref f4])) (fun i H' => ∃ ys : List V, H' D = some (.lst ys) ∧ ys.length = i ∧ (∀ v ∈ ys, ∃ x, v = .ref x) ∧ Cs sy a b most step goal H' (w0 :: ys) (i + 1) ∧ Kn T p nl a b (n + 1 + 1) H1 H' ∧ H' L0 = some (.lst [w0]) ∧ H' Tq = some (.tup [.ref f1, .ref f2, .ref f3, .ref f4])) ?_ (fun i H' hi ⟨_, _, _, _, _, _, _, z⟩ => .inl (.inl z)) ?_ ?_
  · have sD := same_new hD (.lst [])
    exact ⟨[], upd_same, rfl, fun v hv => (nomatch hv), C6.keep K6.pot (KeepQ.same sD), K6.same sD, sD _ _ a6, sD _ _ q6⟩
  · rintro i x H0 H7 hi ⟨ys, y1, y2, y3, y4, y5, y6, y7⟩ ⟨rfl, hx⟩
    have hi4 : i < 4 := hi
    obtain ⟨g, rfl, hgx⟩ : ∃ g, x = .ref g ∧ [f1, f2, f3, f4][i]? = some g := by
      match i, hx with
      | 0, hx => cases hx; exact ⟨_, rfl, rfl⟩
      | 1, hx => cases hx; exact ⟨_, rfl, rfl⟩
      | 2, hx => cases hx; exact ⟨_, rfl, rfl⟩
      | 3, hx => cases hx; exact ⟨_, rfl, rfl⟩
      | j + 4, hx => cases hx
    obtain ⟨fd, Pj, qn, OK, kp, bb, inj⟩ := CC i g hgx
    refine ⟨rfl, ?_⟩
    simp only [tYes, ↓reduceIte]
    refine ⟨g, fd, _, _, rfl, OK, kp, bb, .str sy, rfl, .ref nl, rfl, sy, a, b, nl, rfl, hsy, ha, hb, y5.nms, y5.tabs, fun v H8 hc T8 b8 => ?_⟩
    have kq : KeepQ p H7 H8 := KeepQ.tab b8 y5.tabs inj
    have K8 := y5.tab b8 T8 inj
    have Dp : D ≠ p := pot_ne y5.pot y1 (nopot_refs y3)
    have d8 := kq _ _ y1 Dp (by intro _ e; cases e)
    have hl0 : ∀ v ∈ [w0], ∃ x, v = V.ref x := fun v hv => y4.refs v (by rw [List.mem_singleton.mp hv]; exact .head _)
    have l8 := kq _ _ y6 (pot_ne y5.pot y6 (nopot_refs hl0)) (by intro _ e; cases e)
    have t8 := kq _ _ y7 (pot_ne y5.pot y7 nopot_tup) (by intro _ e; cases e)
    have c8 := (y4.keep y5.pot kq).snoc (hc most step goal)
    refine ⟨ys, d8, by rw [y2]; exact Nat.lt_of_lt_of_le (by omega : i < 1000) (small (Nat.le_refl _)), ys ++ [v], upd_same, by rw [List.length_append, y2]; rfl, fun u hu => ?_, c8.upd (by omega) d8 y3, K8.upd hGD d8 y3, by rw [upd_ne nL0]; exact l8, by rw [upd_ne nTq]; exact t8⟩
    exact c8.refs u (List.mem_cons_of_mem _ hu)
  rintro H7 ⟨ys, y1, y2, y3, y4, y5, y6, y7⟩
  have y2 : ys.length = 4 := y2
  have y4 : Cs sy a b most step goal H7 (w0 :: ys) 5 := y4
  refine ⟨L0, D, [w0], ys, rfl, rfl, y6, y1, small (by rw [y2]; show 1 + 4 ≤ 1000; decide), fun L1 h1 => ?_⟩
  have s8 := same_new h1 (.lst (w0 :: ys))
  have K8 := y5.same s8
  have C8 := y4.keep y5.pot (KeepQ.same s8)
  have hG1 := y5.dom L1 h1
  have a8 : (upd H7 L1 (.lst (w0 :: ys))) L1 = some (.lst (w0 :: ys)) := upd_same
  show tSeq _ _ _ _ (upd H7 L1 (.lst (w0 :: ys)))
  generalize (upd H7 L1 (.lst (w0 :: ys))) = H8 at K8 C8 a8 ⊢
  generalize (w0 :: ys) = us5 at C8 a8 ⊢
  clear y1 y2 y3 y4 y5 y6 y7 h1 s8 C6 K6 a6 q6 hD hGD nL0 nTq
  -- the one that remembers
  have l5 := C8.len
  refine ⟨.ref L1, rfl, .inl ⟨rfl, _, .inl (.inl a8)⟩, .str sy, rfl, .ref nl, rfl, sy, a, b, nl, rfl, hsy, ha, hb, K8.nms, K8.tabs, fun w5 H9 c9 T9 b9 => ?_⟩
  have kq9 : KeepQ p H8 H9 := KeepQ.tab b9 K8.tabs in5
  have K9 := K8.tab b9 T9 in5
  have L1p : L1 ≠ p := pot_ne K8.pot a8 (nopot_refs C8.refs)
  have a9 := kq9 _ _ a8 L1p (by intro _ e; cases e)
  have C9 := (C8.keep K8.pot kq9).snoc (c9 most step goal)
  have C10 := C9.upd (by decide) (o := .lst (us5 ++ [w5])) a9 C8.refs
  have K10 := K9.upd (o := .lst (us5 ++ [w5])) hG1 a9 C8.refs
  have a10 : (upd H9 L1 (.lst (us5 ++ [w5]))) L1 = some (.lst (us5 ++ [w5])) := upd_same
  refine ⟨L1, us5, w5, rfl, rfl, a9, (by rw [l5]; exact Nat.lt_of_lt_of_le (by decide : 5 < 1000) (small (Nat.le_refl _))), ?_⟩
  show tSeq _ _ _ _ (upd H9 L1 (.lst (us5 ++ [w5])))
  generalize (upd H9 L1 (.lst (us5 ++ [w5]))) = H10 at K10 C10 a10 ⊢
  generalize us5 ++ [w5] = us6 at C10 a10 ⊢
  clear kq9 K9 a9 C9 c9 b9 T9 K8 C8 a8 l5
  have l6 := C10.len
  -- the seventh
  refine ⟨.ref L1, rfl, .inl ⟨rfl, _, .inl (.inl a10)⟩, small (by show 4 ≤ 1000; decide), fun La hLa => ?_⟩
  have s11 := same_new hLa (.lst ((lines6 sy a b most step goal 6).map V.str))
  have K11 := K10.same s11
  have C11 := C10.keep K10.pot (KeepQ.same s11)
  have a11 := s11 _ _ a10
  have la11 : (upd H10 La (.lst ((lines6 sy a b most step goal 6).map V.str))) La = some (.lst ((lines6 sy a b most step goal 6).map V.str)) := upd_same
  refine ⟨K11.tabs, fun f6 c6 H12 b12 T12 n12 lf6 cf6 => ?_⟩
  have kq12 := KeepQ.tab (p := p) b12 K11.tabs inT
  have K12 := K11.tab b12 T12 inT
  have C12 := C11.keep K11.pot kq12
  have a12 := kq12 _ _ a11 L1p (by intro _ e; cases e)
  have la12 := kq12 _ _ la11 (pot_ne K11.pot la11 lines_np) (by intro _ e; cases e)
  clear kq12 K11 C11 a11 la11 s11 hLa K10 C10 b12 T12
  refine ⟨small (by show 2 ≤ 1000; decide), fun Tt hTt => ?_⟩
  have s13 := same_new hTt (.tup [.ref La, .ref f6])
  have K13 := K12.same s13
  have a13 := s13 _ _ a12
  have case6 : CaseAt sy a b most step goal 6 (upd H12 Tt (.tup [.ref La, .ref f6])) (.ref Tt) := ⟨Tt, La, f6, rfl, upd_same, s13 _ _ la12, ⟨_, ⟨rfl, rfl, rfl⟩, s13 _ _ lf6, s13 _ _ cf6, held_nil (names6 6 (by decide)).1⟩⟩
  have C13 := (C12.keep K12.pot (KeepQ.same s13)).snoc case6
  have r6 := C12.refs
  refine ⟨L1, us6, .ref Tt, rfl, rfl, a13, (by rw [l6]; exact Nat.lt_of_lt_of_le (by decide : 6 < 1000) (small (Nat.le_refl _))), ?_⟩
  have C14 := C13.upd (by decide) (o := .lst (us6 ++ [.ref Tt])) a13 r6
  have K14 := K13.upd (o := .lst (us6 ++ [.ref Tt])) hG1 a13 r6
  show tSeq _ _ _ _ (upd (upd H12 Tt (.tup [.ref La, .ref f6])) L1 (.lst (us6 ++ [.ref Tt])))
  have a14 : (upd (upd H12 Tt (.tup [.ref La, .ref f6])) L1 (.lst (us6 ++ [.ref Tt]))) L1 = some (.lst (us6 ++ [.ref Tt])) := upd_same
  generalize (upd (upd H12 Tt (.tup [.ref La, .ref f6])) L1 (.lst (us6 ++ [.ref Tt]))) = H14 at K14 C14 a14 ⊢
  generalize us6 ++ [.ref Tt] = us7 at C14 a14 ⊢
  clear K13 C13 a13 case6 s13 K12 C12 a12 la12 lf6 cf6 n12 hTt r6 l6
  have l7 := C14.len
  -- the eighth
  have lW : ("  while at <" : Str).length = 12 := by decide +kernel
  have lG : (">" : Str).length = 1 := by decide +kernel
  refine ⟨.str sy, rfl, _, _, rfl, rfl, small (by rw [lW]; omega), _, _, rfl, rfl, small (by rw [len_app, lW, lG]; omega), small (by show 4 ≤ 1000; decide), fun Le hLe => ?_⟩
  have s15 := same_new hLe (.lst ((lines6 sy a b most step goal 7).map V.str))
  have K15 := K14.same s15
  have C15 := C14.keep K14.pot (KeepQ.same s15)
  have a15 := s15 _ _ a14
  have la15 : (upd H14 Le (.lst ((lines6 sy a b most step goal 7).map V.str))) Le = some (.lst ((lines6 sy a b most step goal 7).map V.str)) := upd_same
  show tSeq _ _ _ _ (upd H14 Le (.lst ((lines6 sy a b most step goal 7).map V.str)))
  generalize (upd H14 Le (.lst ((lines6 sy a b most step goal 7).map V.str))) = H15 at K15 C15 a15 la15 ⊢
  clear K14 C14 a14 s15 hLe
  refine ⟨.ref L1, rfl, .inl ⟨rfl, _, .inl (.inl a15)⟩, .ref Le, rfl, K15.tabs, fun f7 c7 H16 b16 T16 n16 lf7 cf7 => ?_⟩
  have kq16 := KeepQ.tab (p := p) b16 K15.tabs inT
  have K16 := K15.tab b16 T16 inT
  have C16 := C15.keep K15.pot kq16
  have a16 := kq16 _ _ a15 L1p (by intro _ e; cases e)
  have la16 := kq16 _ _ la15 (pot_ne K15.pot la15 lines_np) (by intro _ e; cases e)
  clear kq16 K15 C15 a15 la15 b16 T16
  refine ⟨small (by show 2 ≤ 1000; decide), fun Tu hTu => ?_⟩
  have s17 := same_new hTu (.tup [.ref Le, .ref f7])
  have K17 := K16.same s17
  have a17 := s17 _ _ a16
  have case7 : CaseAt sy a b most step goal 7 (upd H16 Tu (.tup [.ref Le, .ref f7])) (.ref Tu) := ⟨Tu, Le, f7, rfl, upd_same, s17 _ _ la16, ⟨_, ⟨rfl, rfl, rfl⟩, s17 _ _ lf7, s17 _ _ cf7, held_nil (names6 7 (by decide)).1⟩⟩
  have C17 := (C16.keep K16.pot (KeepQ.same s17)).snoc case7
  have r7 := C16.refs
  refine ⟨L1, us7, .ref Tu, rfl, rfl, a17, (by rw [l7]; exact Nat.lt_of_lt_of_le (by decide : 7 < 1000) (small (Nat.le_refl _))), ?_⟩
  have C18 := C17.upd (by decide) (o := .lst (us7 ++ [.ref Tu])) a17 r7
  have K18 := K17.upd (o := .lst (us7 ++ [.ref Tu])) hG1 a17 r7
  exact hrest _ p L1 (n + 1 + 1) sy a b most step goal (us7 ++ [.ref Tu]) _ _ _ _ _ hsy ha hb hab hm hs hg K18.pot (by omega) upd_same C18.len C18.at_ fun H' hp' bt => q H' (hp'.more (by omega)) (K18.keep.trans (KeepQ.but bt)) (tabs_but K18.tabs K18.pot bt)
end
end Fv
set_option Elab.async false
set_option linter.all false
set_option maxRecDepth 100000
set_option maxHeartbeats 8000000
namespace Fv
open PySem PySem.Spec PyProof.Rows L2 TL LamX NdefX
def spRight (T : List (Addr × Str)) : Sp := fun vs H Q _ => ∃ (p : Addr) (n : Nat), vs = [.ref p] ∧ Pot H p n ∧ n + 1000 < 80000 ∧ Tabs T H ∧ ∀ H', Pot H' p (n + 700) → KeepQ p H H' → Tabs T H' → Q (.bl true) H'
theorem eraseV : ∀ (l : List Str) (k : Nat), (l.map V.str).eraseIdx k = (l.eraseIdx k).map V.str
  | [], _ => rfl
  | _ :: _, 0 => rfl
  | x :: r, k + 1 => congrArg (V.str x :: ·) (eraseV r k)
theorem perm6 : ∀ (l : List Str) (k : Nat) (h : k < l.length), (l[k] :: l.eraseIdx k).Perm l
  | [], _, h => absurd h (Nat.not_lt_zero _)
  | _ :: _, 0, _ => List.Perm.refl _
  | x :: r, k + 1, h => (List.Perm.swap x _ _).trans ((perm6 r k (Nat.lt_of_succ_lt_succ h)).cons x)
section
variable {P : Program} {w : World} {K : PySem.W.Frag} {mg : Str → Option Value} {base : Heap} {CP CS : Addr}
theorem ok_right {f c2 P0 P5 P7 f1 f2 f3 f4 : Addr} {fd : FuncData} {T : List (Addr × Str)} (F : FunC K "_law_right" "_law_right" s__law_right f fd c2) (TB : TabB base mg c2 P7) (inT : (P7, qL "_law_right") ∈ T) (one : ∀ p ∈ T, p.1 = P7 → p.2 = qL "_law_right")
    (BM : Bare mg) (mrepr : mg "repr" = none) (CO : Callee P w K mg base 2 "_law_of" ["_law_pot", "_law_some"] (spOf K))
    (CT : Callee P w K mg base 1 "_law_take" ["_law_pot", "_law_upto"] spTake) (CS2 : Callee P w K mg base 2 "_law_of" ["_law_pot", "_law_some"] spOfS)
    (MG : Maker P w K mg base CP 17 "Program" ["self", "text"] (spGInit CP CS)) (CR : Callee P w K mg base 5 "run" ["machine", "text"] (spRunV CP CS)) (LA : LamAll P w K mg base)
    (C0 : CalleeG P w K mg base 1 "_law_counted" ["_law_symbols", "_law_names", "_law_most", "_law_step", "_law_goal"] (spMk0 T P0)) (in0 : (P0, qL "_law_counted") ∈ T)
    (C5 : CalleeG P w K mg base 1 "_law_remembered" ["_law_symbols", "_law_names"] (spMk T P5 5)) (in5 : (P5, qL "_law_remembered") ∈ T)
    (m1 : mg "_law_parity" = some (.ref f1)) (m2 : mg "_law_nested" = some (.ref f2)) (m3 : mg "_law_stopped" = some (.ref f3)) (m4 : mg "_law_two_cells" = some (.ref f4))
    (CC : ∀ (i : Nat) (g : Addr), [f1, f2, f3, f4][i]? = some g → ∃ (fd : FuncData) (Pj : Addr) (q : Str), FnOkG P w K mg base 1 g fd ["_law_symbols", "_law_names"] (spMk T Pj (i + 1)) ∧ PySem.W.keepIn K (.ref g) = true ∧ Binds K fd ["_law_symbols", "_law_names"] [] ∧ (Pj, q) ∈ T) :
    FnOkG P w K mg base 19 f fd ["_law_pot"] (spRight T) := by
  refine F.okG sc__law_right (fun vs H Q E h => ?_) (fun A outer s H vs Q E hgu hr h => ?_)
  · obtain ⟨p, n, rfl, _⟩ := h
    rfl
  obtain ⟨p, n, rfl, hp, hn, hT, q⟩ := h
  obtain ⟨tm, hbm, hmid⟩ := right_mid (f := f) (c2 := c2) (A := A) (outer := outer) (s := s) (H := H) (Q := Q) TB inT one BM mrepr CT CS2 MG CR LA C0 in0 C5 in5 m1 m2 m3 m4 CC hgu hr
  refine ⟨_, (pss_cons (ps_asg (pe_tup (pa_cons (pe_call CO.ok (hr.mono (by decide)) rfl CO.mg CO.kp CO.b .nil pass0 (pa_cons (pv 0) (pa_cons (pe_lst (pa_cons pe_str (pa_cons pe_str (pa_cons pe_str (pa_cons pe_str pa_nil))))) pa_nil))) (pa_cons (pe_lst pa_nil) pa_nil))) (pg_tup (by rfl) (pgs_cons (pg_name (i := 1) sc__law_right.nd rfl (Or.inr rfl)) (pgs_cons (pg_name (i := 2) sc__law_right.nd rfl (Or.inr rfl)) pgs_nil))))
(pss_cons (ps_set (i := 3) sc__law_right.nd rfl (Or.inl rfl) (pe_lst (pa_cons pe_str (pa_cons pe_str (pa_cons pe_str (pa_cons pe_str (pa_cons pe_str (pa_cons pe_str pa_nil))))))))
(pss_cons (ps_for PassesOwn.never rfl (pi_range1 (by rfl) BM.range (pa_cons pe_int pa_nil)) (pg_name (i := 4) sc__law_right.nd rfl (Or.inl rfl))
(pss_one (ps_expr (pe_bm PySem.F.plainAttrs_list PySem.F.slot_list_append PySem.F.type_list_append mt_append (pv 2) (pa_cons (pe_bm PySem.F.plainAttrs_list PySem.F.slot_list_pop PySem.F.type_list_pop mt_popAt (pv 3) (pa_cons (pe_call CT.ok (hr.mono (by decide)) rfl CT.mg CT.kp CT.b .nil pass0 (pa_cons (pv 0) (pa_cons (pe_callB call_len_seq (by rfl) BM.len PySem.boot_len (pa_cons (pv 3) pa_nil)) pa_nil))) pa_nil)) pa_nil)))))
(pss_cons (ps_set (i := 5) sc__law_right.nd rfl (Or.inl rfl) (pe_op op_add pe_int (pe_call CT.ok (hr.mono (by decide)) rfl CT.mg CT.kp CT.b .nil pass0 (pa_cons (pv 0) (pa_cons pe_int pa_nil)))))
hbm)))), ?_⟩
  refine ⟨.ref p, rfl, small (by show 4 ≤ 1000; decide), fun l0 hl0 => ?_⟩
  have s1 := same_new hl0 (.lst [.str "ab", .str "abc", .str "mz", .str "pqrs"])
  refine ⟨p, l0, _, n, rfl, hp.same s1, by omega, .inl (.inl upd_same), pot_fresh hp hl0, (by show 0 < 4; decide), (by show 4 < 1000; decide), fun i v H1 hv hp1 b1 => ?_⟩
  obtain ⟨sy, rfl, hsy⟩ : ∃ sy, v = .str sy ∧ sy ∈ four6 := by
    match i, hv with
    | 0, hv => cases hv; exact ⟨_, rfl, by decide +kernel⟩
    | 1, hv => cases hv; exact ⟨_, rfl, by decide +kernel⟩
    | 2, hv => cases hv; exact ⟨_, rfl, by decide +kernel⟩
    | 3, hv => cases hv; exact ⟨_, rfl, by decide +kernel⟩
    | j + 4, hv => cases hv
  have c1 : But p H H1 := (But.of_same s1).trans b1
  refine ⟨small (by show 0 ≤ 1000; decide), fun nl hnl => ⟨small (by show 2 ≤ 1000; decide), fun q0 hq0 => ⟨q0, _, rfl, .inl (.inl upd_same), rfl, _, _, rfl, _, _, rfl, rfl, ?_⟩⟩⟩
  have s2 := same_new hnl (.lst [])
  have s3 := same_new hq0 (.tup [.str sy, .ref nl])
  refine ⟨small (by show 6 ≤ 1000; decide), fun so hso => ?_⟩
  have s4 := same_new hso (.lst (six6.map V.str))
  have nls : nl ≠ so := ne_of_none (s3 _ _ upd_same) hso
  have s14 := (s2.trans s3).trans s4
  have na4 := (s3.trans s4) _ _ (show (upd H1 nl (.lst [])) nl = some (.lst []) from upd_same)
  have nG : H1 so = none := same_none (s2.trans s3) hso
  have so4 : (upd (upd (upd H1 nl (.lst [])) q0 (.tup [.str sy, .ref nl])) so (.lst (six6.map V.str))) so = some (.lst (six6.map V.str)) := upd_same
  show tSeq _ _ _ _ (upd (upd (upd H1 nl (.lst [])) q0 (.tup [.str sy, .ref nl])) so (.lst (six6.map V.str)))
  generalize (upd (upd (upd H1 nl (.lst [])) q0 (.tup [.str sy, .ref nl])) so (.lst (six6.map V.str))) = H4 at s14 na4 so4 ⊢
  clear s2 s3 s4 hso hq0
  have nnp : nl ≠ p := pot_fresh hp1 hnl
  have nsp : so ≠ p := pot_fresh hp1 nG
  refine ⟨2, rfl, by decide, by decide, for_range (lo := 0) (n := 2) (fun i σ H' => ∃ (xs ys : List Str) (x : Option V), σ = [some (.ref p), some (.str sy), some (.ref nl), some (.ref so), x, none, none, none, none, none, none, none, none, none] ∧ H' so = some (.lst (xs.map V.str)) ∧ H' nl = some (.lst (ys.map V.str)) ∧ (xs ++ ys).Perm six6 ∧ ys.length = i ∧ Pot H' p (n + 1 + i) ∧ But p H1 H') ?_ ?_ ?_⟩
  · exact ⟨six6, [], none, rfl, so4, na4, by rw [List.append_nil], rfl, hp1.same s14, But.of_same s14⟩
  · rintro i σ H5 hi ⟨xs, ys, x, rfl, hs5, hn5, pm, hl, hp5, b5⟩
    have hxl : xs.length = 6 - i := by
      have := pm.length_eq
      rw [List.length_append, hl] at this
      have e6 : six6.length = 6 := by decide +kernel
      omega
    refine ⟨_, rfl, .inl ⟨rfl, _, .inl (.inl hn5)⟩, _, rfl, .inl ⟨rfl, _, .inl (.inl hs5)⟩, .ref p, rfl, .ref so, rfl, so, _, rfl, .inl (.inl (.inl hs5)), p, _, n + 1 + i, rfl, hp5, by omega, by rw [List.length_map]; omega, by rw [List.length_map]; omega, fun d H6 g0 g1 hp6 b6 => ?_⟩
    rw [List.length_map] at g1
    have hd : d.toNat < xs.length := by omega
    have hs6 := b6 _ _ hs5 nsp
    have hn6 := b6 _ _ hn5 nnp
    refine ⟨so, _, d, d.toNat, .str xs[d.toNat], rfl, rfl, hs6, by omega, by omega, ?_, ?_, ?_⟩
    · have := seqIndex_of (k := d) (n := (xs.map V.str).length) g0 (by rw [List.length_map]; omega)
      exact this
    · rw [List.getElem?_map, List.getElem?_eq_getElem hd]
      rfl
    refine ⟨nl, ys.map V.str, _, rfl, rfl, by rw [upd_ne nls]; exact hn6, ?_, ?_⟩
    · rw [List.length_map, hl]
      exact Nat.lt_of_lt_of_le (by omega : i < 1000) (small (Nat.le_refl _))
    refine ⟨xs.eraseIdx d.toNat, ys ++ [xs[d.toNat]], _, rfl, ?_, ?_, ?_, ?_, ?_, ?_⟩
    · rw [upd_ne nls.symm, upd_same, eraseV]
    · rw [upd_same, List.map_append]
      rfl
    · refine List.Perm.trans ?_ pm
      have h1 : (xs[d.toNat] :: xs.eraseIdx d.toNat).Perm xs := perm6 xs _ hd
      have h2 : (xs.eraseIdx d.toNat ++ (ys ++ [xs[d.toNat]])).Perm (xs[d.toNat] :: (xs.eraseIdx d.toNat ++ ys)) := by
        rw [← List.append_assoc]
        exact List.perm_append_singleton _ _
      exact h2.trans (h1.append_right ys)
    · rw [List.length_append, hl]
      rfl
    · obtain ⟨o, b, c, e, r⟩ := hp6.at_
      exact ⟨o, b, c, by rw [upd_ne nnp.symm, upd_ne nsp.symm]; exact e, r⟩
    · intro b o h nb
      have := (b5.trans b6) b o h nb
      rw [upd_ne (ne_of_none h hnl), upd_ne (ne_of_none h nG)]
      exact this
  rintro σ H5 ⟨xs, ys, x, rfl, hs5, hn5, pm, hl, hp5, b5⟩
  have e6n : six6.Nodup := by decide +kernel
  have ndx : (xs ++ ys).Nodup := pm.nodup_iff.mpr e6n
  have ndy : ys.Nodup := (List.nodup_append.mp ndx).2.1
  have y6 : ∀ z ∈ ys, z ∈ six6 := fun z hz => pm.mem_iff.mp (List.mem_append_right _ hz)
  obtain ⟨a, b, rfl⟩ : ∃ a b, ys = [a, b] := by
    match ys, hl with
    | [a, b], _ => exact ⟨a, b, rfl⟩
  have hab : a ≠ b := fun z => by
    rw [z] at ndy
    simp at ndy
  refine ⟨.ref p, rfl, p, 2, n + 1 + 2, rfl, hp5, by omega, by decide, by decide, fun d H6 u0 u1 hp6 b6 => ?_⟩
  obtain ⟨most, em, hm⟩ : ∃ m : Nat, 1 + d = (m : Int) ∧ (1 ≤ m ∧ m ≤ 2) := ⟨(1 + d).toNat, by omega, by omega⟩
  have b06 : But p H H6 := (c1.trans b5).trans b6
  have hT6 := tabs_but hT hp b06
  have hn6 := b6 _ _ hn5 nnp
  refine ⟨_, _, rfl, rfl, ?_⟩
  have fin := hmid H6 p nl (n + 1 + 2 + 1) sy a b most (some (.ref so)) x hsy (y6 a (by simp)) (y6 b (by simp)) hab hm hp6 (by omega) hT6 hn6 fun H' hp' kq hT' => q H' (hp'.more (by omega)) ((KeepQ.but b06).trans kq) hT'
  rw [← em] at fin
  exact fin
end
end Fv
set_option Elab.async false
set_option linter.all false
set_option maxRecDepth 100000
set_option maxHeartbeats 4000000
namespace Fv
open PySem PySem.Spec PyProof.Rows L2 TL LamX NdefX
/-! ### the law -/
abbrev s_law : Stmt := top 58
abbrev sc_lawN : List Str := ["_law_script", "_law_k", "_law_pot", "_law_turn"]
theorem sc_law : FnScope sc_lawN ["_law_script"] (defScope s_law) := ⟨rfl, rfl, rfl, by decide +kernel, rfl, by decide +kernel, by decide +kernel⟩
def spLaw (K : PySem.W.Frag) (T : List (Addr × Str)) : Sp := fun vs H Q _ => ∃ (a : Addr) (ns : List Int), vs = [.ref a] ∧ SqL K H a (ns.map V.int) ∧ ns.length ≤ 63 ∧ Tabs T H ∧ ∀ H', Q (.bl true) H'
theorem keepQ_seq {K : PySem.W.Frag} {p a : Addr} {H0 H H' : Hp} {xs : List V} (k : KeepQ p H H') (s : Same H0 H) (n : H0 p = none) (h : SqL K H0 a xs) : SqL K H' a xs := by
  rcases h with (h | ⟨o, h⟩) | h
  · exact .inl (.inl (k _ _ (s _ _ h) (ne_of_none h n) (by intro _ e; cases e)))
  · exact .inl (.inr ⟨o, k _ _ (s _ _ h) (ne_of_none h n) (by intro _ e; cases e)⟩)
  · exact .inr h
section
variable {P : Program} {w : World} {K : PySem.W.Frag} {mg : Str → Option Value} {base : Heap}
theorem ok_law {f fR : Addr} {fd fdR : FuncData} {T : List (Addr × Str)} (F : Fun K "law" "law" s_law f fd) (BM : Bare mg) (mall : mg "all" = none) (mmax : mg "max" = none) (mmin : mg "min" = none) (CP : Callee P w K mg base 1 "_law_pot_of" ["_law_script", "_law_k"] (spPotOf K))
    (OR : FnOkG P w K mg base 19 fR fdR ["_law_pot"] (spRight T)) (mR : mg "_law_right" = some (.ref fR)) (kR : PySem.W.keepIn K (.ref fR) = true) (bR : Binds K fdR ["_law_pot"] []) :
    FnOkG P w K mg base 20 f fd ["_law_script"] (spLaw K T) := by
  refine Fun.okG F sc_law (fun vs H Q E h => ?_) (fun cdv A outer st H vs Q E hgu hr h => ?_)
  · obtain ⟨a, ns, rfl, _⟩ := h
    rfl
  obtain ⟨a, ns, rfl, hS, hl, hT, q⟩ := h
  refine ⟨_, (pss_cons (ps_for PassesOwn.never rfl (pi_range1 (by rfl) BM.range (pa_cons (pe_callB (call_max2 rfl) (by rfl) mmax (by decide +kernel) (pa_cons pe_int (pa_cons (pe_callB (call_min2 rfl) (by rfl) mmin (by decide +kernel) (pa_cons pe_int (pa_cons (pe_callB call_len_seq (by rfl) BM.len PySem.boot_len (pa_cons (pv 0) pa_nil)) pa_nil))) pa_nil))) pa_nil)) (pg_name (i := 1) sc_law.nd rfl (Or.inl rfl))
(pss_cons (ps_set (i := 2) sc_law.nd rfl (Or.inr rfl) (pe_call CP.ok (hr.mono (by decide)) rfl CP.mg CP.kp CP.b .nil pass0 (pa_cons (pv 0) (pa_cons (pv 1) pa_nil))))
(pss_one (ps_if (pt_not (pt_val (pe_callB (cr_all rfl) (by rfl) mall (by decide +kernel) (pa_cons (pe_lc (own := [("_law_turn", 3)]) (g := gName 3) rfl sc_law.nd (pi_range1 (by rfl) BM.range (pa_cons pe_int pa_nil)) (blkOk_by (N := sc_lawN) (sc := defScope s_law) (by decide +kernel)) (fun _ _ _ _ _ => pg_name (i := 3) sc_law.nd rfl (Or.inl rfl)) (fun _ _ _ _ _ => pts_nil) (fun _ _ _ _ _ => (pe_callG OR hgu hr rfl mR kR bR (pa_cons (pv 2) pa_nil)))) pa_nil))))
(pss_one (ps_ret pe_bl))
pss_nil))))
(pss_one (ps_ret pe_bl))), ?_⟩
  have hlen : (ns.map V.int).length = ns.length := List.length_map _
  refine ⟨.ref a, rfl, a, _, rfl, .inl hS, 3, _, rfl, 1, _, rfl, ?_⟩
  generalize hm : (if (if ((ns.map V.int).length : Int) < 3 then ((ns.map V.int).length : Int) else 3) > 1 then (if ((ns.map V.int).length : Int) < 3 then ((ns.map V.int).length : Int) else 3) else 1) = m
  have m0 : 0 ≤ m ∧ m ≤ 3 := by
    rw [← hm]
    split <;> split <;> omega
  refine ⟨m, rfl, by omega, by omega, for_range (lo := 0) (n := m.toNat) (fun i σ H' => ∃ (x1 x2 : Option V), σ = [some (.ref a), x1, x2, none] ∧ SqL K H' a (ns.map V.int) ∧ Tabs T H') ?_ ?_ ?_⟩
  · exact ⟨none, none, rfl, hS, hT⟩
  · rintro i σ H1 hi ⟨x1, x2, rfl, hS1, hT1⟩
    refine ⟨.ref a, rfl, _, rfl, a, ns, i, (by show [V.ref a, V.int (0 + (i : Int))] = _; rw [Int.zero_add]), hS1, by omega, fun p H2 hp0 s2 hp => ?_⟩
    refine ⟨1, rfl, by decide, by decide, fun D hD => lc_range (lo := 0) (n := 1) (fun j H' => H' D = some (.lst ((List.replicate j true).map V.bl)) ∧ Pot H' p (700 * j) ∧ KeepQ p H2 H' ∧ Tabs T H') ?_ ?_ ?_⟩
    · exact ⟨upd_same, hp.same (same_new hD _), KeepQ.same (same_new hD _), (hT1.ext s2).ext (same_new hD _)⟩
    · rintro j H3 hj ⟨h1, h2, h3, h4⟩
      have nDp : D ≠ p := pot_fresh hp hD
      refine ⟨rfl, ?_⟩
      simp only [tYes, ↓reduceIte]
      refine ⟨.ref p, rfl, p, 700 * j, rfl, h2, by omega, h4, fun H4 h5 h6 h7 => ?_⟩
      have D4 := h6 _ _ h1 nDp (by intro _ e; cases e)
      refine ⟨_, D4, ?_, ?_, ?_, ?_, ?_⟩
      · rw [List.length_map, List.length_replicate]
        exact Nat.lt_of_lt_of_le (by omega : j < 1000) (small (Nat.le_refl _))
      · rw [upd_same, List.replicate_succ', List.map_append]
        rfl
      · obtain ⟨o, b, c, e, r⟩ := h5.at_
        exact Pot.more ⟨o, b, c, by rw [upd_ne nDp.symm]; exact e, r⟩ (by omega)
      · intro b o h nb ni
        have hbD : b ≠ D := ne_of_none h hD
        rw [upd_ne hbD]
        exact h6 _ _ (h3 _ _ h nb ni) nb ni
      · intro t ht
        obtain ⟨ps, e1, e2, e3⟩ := h7 t ht
        refine ⟨ps, ?_, e2, fun pos cv hc => ?_⟩
        · rw [upd_ne fun z => ?_]
          · exact e1
          · rw [z, D4] at e1
            cases e1
        · obtain ⟨c', f1, f2⟩ := e3 pos cv hc
          refine ⟨c', f1, ?_⟩
          rw [upd_ne fun z => ?_]
          · exact f2
          · rw [z, D4] at f2
            exact absurd (Option.some.inj f2) (fun z => by unfold CodeO at z; cases z)
    · rintro H3 ⟨h1, h2, h3, h4⟩
      refine ⟨D, List.replicate 1 true, rfl, .inl (.inl h1), ?_⟩
      refine ⟨true, rfl, iteF ?_⟩
      exact ⟨_, _, rfl, keepQ_seq h3 s2 hp0 hS1, h4⟩
  · rintro σ H1 ⟨x1, x2, rfl, hS1, hT1⟩
    exact q H1
end
end Fv
set_option Elab.async false
set_option linter.all false
set_option maxRecDepth 100000
set_option maxHeartbeats 4000000
namespace Fv
open PySem PySem.Spec PyProof.Rows L2 TL
/-! ### the module's own dict of moves -/
theorem moves_mk {K : PySem.W.Frag} {w : World} {mg : Str → Option Value} {a : Addr} {e1 e2 : DictEntry} {n : Nat} {k1 k2 k3 k4 : Tok} (hm : mg "MOVES" = some (.ref a)) (l : K.lookup a = some ⟨.type "dict", none, .dict #[e1, e2] n, #[]⟩)
    (q1 : e1.key = .str "right" k1) (q2 : e2.key = .str "left" k2) (u1 : e1.val = .int 1 k3) (u2 : e2.val = .int (-1) k4) (lit : PySem.W.KeysLit w.params [e1, e2]) (low : (a == sysModules) = false) : MovesK K w mg := by
  refine ⟨a, #[e1, e2], n, hm, ⟨l, lit, low⟩, fun x => ?_⟩
  have i1 : e1.key.isStr x = (("right" : Str) == x) := by rw [q1]; rfl
  have i2 : e2.key.isStr x = (("left" : Str) == x) := by rw [q2]; rfl
  have r1 : e1.refKey = false := by unfold DictEntry.refKey; rw [q1]
  have r2 : e2.refKey = false := by unfold DictEntry.refKey; rw [q2]
  by_cases h1 : x = "right"
  · refine ⟨some e1.val, ?_, fun u e => ?_, fun e => by cases e⟩
    · unfold PySem.W.nsIn
      rw [l]
      show (match [e1, e2].find? (·.key.isStr x) with | some e => some (some e.val) | none => _) = _
      rw [List.find?_cons, i1, h1]
      rfl
    · cases e
      rw [u1, h1]
      exact ⟨_, rfl⟩
  · by_cases h2 : x = "left"
    · refine ⟨some e2.val, ?_, fun u e => ?_, fun e => by cases e⟩
      · unfold PySem.W.nsIn
        rw [l]
        show (match [e1, e2].find? (·.key.isStr x) with | some e => some (some e.val) | none => _) = _
        rw [List.find?_cons, i1, beq_eq_false_iff_ne.mpr (Ne.symm h1)]
        show (match [e2].find? (·.key.isStr x) with | some e => some (some e.val) | none => _) = _
        rw [List.find?_cons, i2, h2]
        rfl
      · cases e
        rw [u2, h2]
        exact ⟨_, rfl⟩
    · refine ⟨none, ?_, fun u e => (by cases e), fun _ => ?_⟩
      · unfold PySem.W.nsIn
        rw [l]
        show (match [e1, e2].find? (·.key.isStr x) with | some e => some (some e.val) | none => if [e1, e2].any (·.refKey) then none else some none) = _
        rw [List.find?_cons, i1, beq_eq_false_iff_ne.mpr (Ne.symm h1)]
        show (match [e2].find? (·.key.isStr x) with | some e => some (some e.val) | none => if [e1, e2].any (·.refKey) then none else some none) = _
        rw [List.find?_cons, i2, beq_eq_false_iff_ne.mpr (Ne.symm h2)]
        show (if [e1, e2].any (·.refKey) then none else some none) = _
        rw [List.any_cons, List.any_cons, r1, r2]
        rfl
      · unfold moveP
        rw [if_neg h1, if_neg h2]
end Fv
set_option Elab.async false
set_option linter.all false
set_option maxRecDepth 100000
set_option maxHeartbeats 4000000
namespace Fv
open PySem PySem.Spec PyProof.Rows L2 TL LamX NdefX
abbrev N60 : List Str := ["_law_page", "_law_step", "_law_most", "_law_goal", "_law_at", "_law_sign"]
section
variable {P : Program} {w : World} {K : PySem.W.Frag} {mg : Str → Option Value} {base : Heap} {F : LF} {f : Addr} {sy : Str} {most step goal : Nat}
theorem lok60 (h : IsLam F (lamX 0)) (T : Bare mg) (menum : mg "enumerate" = none) (hm : 1 ≤ most ∧ most ≤ 2) (hs : 1 ≤ step ∧ step ≤ 2) (hg : goal ≤ most) : LOkA P w K mg base CX0 9 f F (fr6 0) ((ws6 sy most step goal 0).map some) (spL fun l => told6 sy most step goal l 0) := by
  obtain ⟨qual, params, body, scope, cl, c⟩ := F
  obtain ⟨rfl, rfl, rfl⟩ := h
  refine lokA_of (N := N60) (p := "_law_page") (nscope_by (show nscB N60 ["_law_page"] (fr6 0) (lamS (lamX 0)) = true by decide +kernel)) (fun pm ctv u => rfl) (fun A outer s H v Q E hgu hr hsp => ?_)
  obtain ⟨t, rfl, ht, hl, q⟩ := hsp
  have nd : N60.Nodup := by decide +kernel
  refine ⟨_, pe_lc (own := [("_law_at", 4), ("_law_sign", 5)]) (g := gTup K 2 (gCons (gName 4) (gCons (gName 5) gNil))) rfl nd (pi_enumS (by rfl) menum (pa_cons (pv 0) (pa_cons pe_int pa_nil))) (blkOk_by (N := N60) (sc := lamS (lamX 0)) (by decide +kernel)) (fun _ _ _ _ _ => pg_tup (by rfl) (pgs_cons (pg_name (i := 4) nd rfl (Or.inl rfl)) (pgs_cons (pg_name (i := 5) nd rfl (Or.inl rfl)) pgs_nil)))
    (fun _ _ _ _ _ => pts_one (pt_cmpR op_eq (pe_op op_mod (pe_callTy call_int1 (by rfl) T.int (by decide +kernel) (pa_cons (pe_op op_mul (pv 1) (pv 4)) pa_nil)) (pe_op op_add (pv 2) pe_int)) (pv 3) (nomark _))) (fun _ _ _ _ _ => pe_tup (pa_cons (pv 5) (pa_cons (pv 4) pa_nil))), ?_⟩
  refine ⟨.str t, rfl, t, 1, rfl, by decide, by decide, fun D2 hD2 => lc_it (walk_enumS (x := t) (k := 1)) (fun i H' => PInv H D2 (f60 most step goal (tl t)) i H') (pinv_zero hD2) (fun _ _ _ _ => trivial) (fun i u H12 H' hi y z => ?_) (fun H12 y => ?_)⟩
  · obtain ⟨T1, rfl, nT1, rfl⟩ := z
    have s1 := same_new nT1 (.tup [.int (1 + (i : Nat)), signV t i])
    refine ⟨T1, _, rfl, .inl (.inl upd_same), rfl, _, _, rfl, _, _, rfl, rfl, rfl, ?_⟩
    refine ⟨_, rfl, _, rfl, _, _, rfl, rfl, .inl ⟨by omega, by omega⟩, .inl ⟨_, rfl, _, rfl, _, _, rfl, rfl, _, _, rfl, rfl, by omega, _, rfl, rfl, _, rfl, ?_⟩⟩
    have e1 : ((step : Int) * (1 + (i : Int)) % ((most : Int) + 1)) = ((step * (i + 1) % (most + 1) : Nat) : Int) := by rw [one_add]; rfl
    have e2 : decide (V.int ((step : Int) * (1 + (i : Int)) % ((most : Int) + 1)) = V.int (goal : Int)) = decide (step * (i + 1) % (most + 1) = goal) := by
      rw [e1]
      by_cases z : step * (i + 1) % (most + 1) = goal
      · rw [decide_eq_true z, z]
        exact decide_eq_true rfl
      · rw [decide_eq_false z]
        exact decide_eq_false fun q => by injection q with q; exact z (by omega)
    rw [e2]
    by_cases z : step * (i + 1) % (most + 1) = goal
    · rw [decide_eq_true z]
      refine iteT ?_
      refine ⟨_, rfl, _, rfl, small (by show 2 ≤ 1000; decide), fun T2 nT2 => ?_⟩
      rw [one_add] at s1 nT2 ⊢
      exact pinv_more (o := (sgS ((tl t).getD i 0), i + 1)) hD2 (by have : i < t.length := hi; omega) y s1 nT2 (if_pos z)
    · rw [decide_eq_false z]
      exact iteF (pinv_skip y s1 (if_neg z))
  · rw [← tl_len] at y
    exact pinv_end (by rw [tl_len]; omega) y q
end
end Fv
set_option Elab.async false
set_option linter.all false
set_option maxRecDepth 100000
set_option maxHeartbeats 4000000
namespace Fv
open PySem PySem.Spec PyProof.Rows L2 TL LamX NdefX
theorem tl_cutS (t : Str) (k : Nat) : tl (cutS t none (some (k : Int))) = (tl t).take k := by
  have e : tl (cutS t none (some (k : Int))) = ((tl t).drop (HT.sIx t.length 0 none)).take (HT.sIx t.length t.length (some (k : Int)) - HT.sIx t.length 0 none) := rfl
  have e1 : HT.sIx t.length 0 none = 0 := rfl
  have e2 : HT.sIx t.length t.length (some (k : Int)) = min k t.length := by
    unfold HT.sIx
    simp only
    split <;> omega
  rw [e, e1, e2, Nat.sub_zero, List.drop_zero]
  by_cases h : k ≤ t.length
  · rw [Nat.min_eq_left h]
  · rw [Nat.min_eq_right (by omega), List.take_of_length_le (by rw [← len_tl]; exact Nat.le_refl _), List.take_of_length_le (by rw [← len_tl]; omega)]
theorem count_tl (x : Str) (c : Nat) : Txt.count x (sgS c) = (((tl x).count c : Nat) : Int) := by
  rw [show Txt.count x (sgS c) = cnt c x.cps.toList from count_is x c]
  show cnt c (tl x) = _
  induction tl x with
  | nil => rfl
  | cons n r ih =>
    rw [cnt_cons, ih, List.count_cons]
    by_cases h : n = c
    · rw [if_pos h, if_pos (beq_iff_eq.mpr h)]
      omega
    · rw [if_neg h, if_neg (fun z => h (beq_iff_eq.mp z))]
      omega
theorem dec_intN {a b : Nat} : decide (V.int (a : Int) = V.int (b : Int)) = decide (a = b) := by
  by_cases z : a = b
  · rw [decide_eq_true z, z]
    exact decide_eq_true rfl
  · rw [decide_eq_false z]
    exact decide_eq_false fun q => by injection q with q; exact z (by omega)
end Fv
set_option Elab.async false
set_option linter.all false
set_option maxRecDepth 100000
set_option maxHeartbeats 4000000
namespace Fv
open PySem PySem.Spec PyProof.Rows L2 TL LamX NdefX
abbrev N61 : List Str := ["_law_page", "_law_sign", "_law_at"]
theorem sc61 : NScopeC N61 "_law_page" (fr6 1) (lamS (lamX 1)) := ⟨rfl, rfl, rfl, by decide +kernel, rfl, by decide +kernel, by decide +kernel, by decide +kernel, by decide +kernel⟩
section
variable {P : Program} {w : World} {K : PySem.W.Frag} {mg : Str → Option Value} {base : Heap} {F : LF} {f : Addr} {sy : Str} {most step goal : Nat}
theorem lok61 (h : IsLam F (lamX 1)) (T : Bare mg) (hsy : sy ∈ four6) : LOkA P w K mg base CX0 9 f F (fr6 1) ((ws6 sy most step goal 1).map some) (spL fun l => told6 sy most step goal l 1) := by
  obtain ⟨qual, params, body, scope, cl, c⟩ := F
  obtain ⟨rfl, rfl, rfl⟩ := h
  refine lokA_ofC (N := N61) (p := "_law_page") (sc61) (fun pm ctv u => rfl) (fun A outer s H v Q E hgu hr hsp => ?_)
  obtain ⟨t, rfl, ht, hl, q⟩ := hsp
  have nd : N61.Nodup := by decide +kernel
  refine ⟨_, pe_lc (own := [("_law_at", 2)]) (g := gName 2) rfl nd (pi_range2 (by rfl) T.range (pa_cons pe_int (pa_cons (pe_op op_add (pe_callB call_len_str (by rfl) T.len PySem.boot_len (pa_cons (pv 0) pa_nil)) pe_int) pa_nil))) (blkOk_by (N := N61) (sc := lamS (lamX 1)) (by decide +kernel)) (fun _ _ _ _ _ => pg_name (i := 2) nd rfl (Or.inl rfl))
    (fun _ _ _ _ _ => pts_one (pt_cmpR op_eq (pe_op op_mod (pe_m1 PySem.F.slot_str_count PySem.F.type_str_count mt_count (pe_slice sl_str (pv 0) po_none (po_some (pv 2))) (pv 1)) pe_int) pe_int (nomark _))) (fun _ _ _ _ _ => pe_tup (pa_cons pe_str (pa_cons (pv 2) pa_nil))), ?_⟩
  have en : (((t.length : Int) + 2) - 1).toNat = t.length + 1 := by omega
  refine ⟨_, rfl, t, rfl, small (by omega), _, _, rfl, rfl, _, _, rfl, ⟨by decide, by decide, by omega, by omega⟩, fun D2 hD2 => lc_range (lo := 1) (n := (((t.length : Int) + 2) - 1).toNat) (fun i H' => PInv H D2 (f61 (s6 sy 0) (tl t)) i H') (pinv_zero hD2) (fun i H12 hi y => ?_) (fun H12 y => ?_)⟩
  · rw [en] at hi
    refine ⟨rfl, ?_⟩
    refine ⟨.str t, rfl, .int (1 + (i : Int)), rfl, _, rfl, t, rfl, small (by omega), ⟨_, rfl⟩, .str (sgA sy 0), rfl, _, _, rfl, rfl, _, _, rfl, rfl, (by show (0 : Int) < 2; decide), rfl, _, rfl, ?_⟩
    have e2 : decide (V.int (Txt.count (cutS t none (some (1 + (i : Int)))) (sgA sy 0) % 2) = V.int 1) = decide (((tl t).take (i + 1)).count (s6 sy 0) % 2 = 1) := by
      rw [one_add, show sgA sy 0 = sgS (s6 sy 0) from rfl, count_tl, tl_cutS]
      exact dec_intN (a := ((tl t).take (i + 1)).count (s6 sy 0) % 2) (b := 1)
    rw [e2]
    by_cases z : ((tl t).take (i + 1)).count (s6 sy 0) % 2 = 1
    · rw [decide_eq_true z]
      refine iteT ?_
      refine ⟨_, rfl, small (by show 2 ≤ 1000; decide), fun T2 nT2 => ?_⟩
      rw [one_add]
      exact pinv_more (o := ("x", i + 1)) hD2 (by omega) y (fun _ _ e => e) nT2 (if_pos z)
    · rw [decide_eq_false z]
      exact iteF (pinv_skip y (fun _ _ e => e) (if_neg z))
  · rw [en, show t.length + 1 = (tl t).length + 1 by rw [tl_len]] at y
    exact pinv_end (by rw [tl_len]; omega) y q
end
end Fv
set_option Elab.async false
set_option linter.all false
set_option maxRecDepth 100000
set_option maxHeartbeats 4000000
namespace Fv
open PySem PySem.Spec PyProof.Rows L2 TL LamX NdefX
abbrev N62 : List Str := ["_law_page"]
section
variable {P : Program} {w : World} {K : PySem.W.Frag} {mg : Str → Option Value} {base : Heap} {F : LF} {f : Addr} {sy : Str} {most step goal : Nat}
theorem lok62 (h : IsLam F (lamX 2)) : LOkA P w K mg base CX0 9 f F (fr6 2) ((ws6 sy most step goal 2).map some) (spL fun l => told6 sy most step goal l 2) := by
  obtain ⟨qual, params, body, scope, cl, c⟩ := F
  obtain ⟨rfl, rfl, rfl⟩ := h
  refine lokA_of (N := N62) (p := "_law_page") (nscope_by (show nscB N62 ["_law_page"] (fr6 2) (lamS (lamX 2)) = true by decide +kernel)) (fun pm ctv u => rfl) (fun A outer s H v Q E hgu hr hsp => ?_)
  obtain ⟨t, rfl, ht, hl, q⟩ := hsp
  have nd : N62.Nodup := by decide +kernel
  refine ⟨_, pe_lst (pa_cons (pe_tup (pa_cons pe_str (pa_cons pe_int pa_nil))) (pa_cons (pe_tup (pa_cons pe_str (pa_cons pe_int pa_nil))) (pa_cons (pe_tup (pa_cons pe_str (pa_cons pe_int pa_nil))) (pa_cons (pe_tup (pa_cons pe_str (pa_cons pe_int pa_nil))) (pa_cons (pe_tup (pa_cons pe_str (pa_cons pe_int pa_nil))) (pa_cons (pe_tup (pa_cons pe_str (pa_cons pe_int pa_nil))) pa_nil)))))), ?_⟩
  refine ⟨small (by show 2 ≤ 1000; decide), fun T0 n0 => ?_⟩
  have s0 := same_new n0 (.tup [.str "x", .int 0])
  refine ⟨small (by show 2 ≤ 1000; decide), fun T1 n1 => ?_⟩
  have s1 := same_new n1 (.tup [.str "y", .int 0])
  refine ⟨small (by show 2 ≤ 1000; decide), fun T2 n2 => ?_⟩
  have s2 := same_new n2 (.tup [.str "x", .int 0])
  refine ⟨small (by show 2 ≤ 1000; decide), fun T3 n3 => ?_⟩
  have s3 := same_new n3 (.tup [.str "x", .int 1])
  refine ⟨small (by show 2 ≤ 1000; decide), fun T4 n4 => ?_⟩
  have s4 := same_new n4 (.tup [.str "y", .int 1])
  refine ⟨small (by show 2 ≤ 1000; decide), fun T5 n5 => ?_⟩
  have s5 := same_new n5 (.tup [.str "x", .int 1])
  refine ⟨small (by show 6 ≤ 1000; decide), fun L nL => ?_⟩
  have s6_ := same_new nL (.lst [.ref T0, .ref T1, .ref T2, .ref T3, .ref T4, .ref T5])
  have e5 := s6_
  have e4 := s5.trans e5
  have e3 := s4.trans e4
  have e2 := s3.trans e3
  have e1 := s2.trans e2
  have e0 := s1.trans e1
  exact q L _ _ (s0.trans e0) upd_same (by show 6 ≤ 100; decide) (.cons ⟨T0, rfl, e0 _ _ upd_same⟩ (.cons ⟨T1, rfl, e1 _ _ upd_same⟩ (.cons ⟨T2, rfl, e2 _ _ upd_same⟩ (.cons ⟨T3, rfl, e3 _ _ upd_same⟩ (.cons ⟨T4, rfl, e4 _ _ upd_same⟩ (.cons ⟨T5, rfl, e5 _ _ upd_same⟩ (.nil)))))))
end
end Fv
set_option Elab.async false
set_option linter.all false
set_option maxRecDepth 100000
set_option maxHeartbeats 4000000
namespace Fv
open PySem PySem.Spec PyProof.Rows L2 TL LamX NdefX
abbrev N63 : List Str := ["_law_page", "_law_symbols", "_law_at", "_law_sign"]
theorem sc63 : NScopeC N63 "_law_page" (fr6 3) (lamS (lamX 3)) := ⟨rfl, rfl, rfl, by decide +kernel, rfl, by decide +kernel, by decide +kernel, by decide +kernel, by decide +kernel⟩
section
variable {P : Program} {w : World} {K : PySem.W.Frag} {mg : Str → Option Value} {base : Heap} {F : LF} {f : Addr} {sy : Str} {most step goal : Nat}
theorem lok63 (h : IsLam F (lamX 3)) (menum : mg "enumerate" = none) (hsy : sy ∈ four6) : LOkA P w K mg base CX0 9 f F (fr6 3) ((ws6 sy most step goal 3).map some) (spL fun l => told6 sy most step goal l 3) := by
  obtain ⟨qual, params, body, scope, cl, c⟩ := F
  obtain ⟨rfl, rfl, rfl⟩ := h
  refine lokA_ofC (N := N63) (p := "_law_page") (sc63) (fun pm ctv u => rfl) (fun A outer s H v Q E hgu hr hsp => ?_)
  obtain ⟨t, rfl, ht, hl, q⟩ := hsp
  have nd : N63.Nodup := by decide +kernel
  refine ⟨_, pe_lc (own := [("_law_at", 2), ("_law_sign", 3)]) (g := gTup K 2 (gCons (gName 2) (gCons (gName 3) gNil))) rfl nd (pi_enumS (by rfl) menum (pa_cons (pv 0) (pa_cons pe_int pa_nil))) (blkOk_by (N := N63) (sc := lamS (lamX 3)) (by decide +kernel)) (fun _ _ _ _ _ => pg_tup (by rfl) (pgs_cons (pg_name (i := 2) nd rfl (Or.inl rfl)) (pgs_cons (pg_name (i := 3) nd rfl (Or.inl rfl)) pgs_nil)))
    (fun _ _ _ _ _ => pts_one (pt_cmpR op_notInS (pe_ix ix_str (pv 1) pe_int (fun _ _ => rfl)) (pe_slice sl_str (pv 0) po_none (po_some (pv 2))) (by rfl))) (fun _ _ _ _ _ => pe_tup (pa_cons (pv 3) (pa_cons (pv 2) pa_nil))), ?_⟩
  have hsl := (four6_ok sy hsy)
  have l1 : atI (tl sy) 1 = some (s6 sy 1) := by
    have hlt : 1 < (tl sy).length := by rw [tl_len]; omega
    have e : (tl sy)[1]? = some (s6 sy 1) := by
      unfold s6
      rw [List.getD_eq_getElem?_getD, List.getElem?_eq_getElem hlt]
      rfl
    exact atI_nat e
  refine ⟨.str t, rfl, t, 1, rfl, by decide, by decide, fun D2 hD2 => lc_it (walk_enumS (x := t) (k := 1)) (fun i H' => PInv H D2 (f63 (s6 sy 1) (tl t)) i H') (pinv_zero hD2) (fun _ _ _ _ => trivial) (fun i u H12 H' hi y z => ?_) (fun H12 y => ?_)⟩
  · obtain ⟨T1, rfl, nT1, rfl⟩ := z
    have s1 := same_new nT1 (.tup [.int (1 + (i : Nat)), signV t i])
    refine ⟨T1, _, rfl, .inl (.inl upd_same), rfl, _, _, rfl, _, _, rfl, rfl, rfl, ?_⟩
    refine ⟨.str sy, rfl, sy, 1, _, rfl, rfl, small (by omega), l1, .str t, rfl, .int (1 + (i : Int)), rfl, _, rfl, t, rfl, small (by omega), _, _, rfl, rfl, _, rfl, ?_⟩
    have e2 : (!decide (s6 sy 1 ∈ (cutS t none (some (1 + (i : Int)))).cps.toList)) = decide (s6 sy 1 ∉ (tl t).take (i + 1)) := by
      have e : (cutS t none (some (1 + (i : Int)))).cps.toList = (tl t).take (i + 1) := by rw [one_add]; exact tl_cutS t (i + 1)
      rw [e]
      by_cases z : s6 sy 1 ∈ (tl t).take (i + 1)
      · rw [decide_eq_true z, decide_eq_false (fun q => q z)]
        rfl
      · rw [decide_eq_false z, decide_eq_true z]
        rfl
    rw [e2]
    by_cases z : s6 sy 1 ∉ (tl t).take (i + 1)
    · rw [decide_eq_true z]
      refine iteT ?_
      refine ⟨_, rfl, _, rfl, small (by show 2 ≤ 1000; decide), fun T2 nT2 => ?_⟩
      rw [one_add] at s1 nT2 ⊢
      exact pinv_more (o := (sgS ((tl t).getD i 0), i + 1)) hD2 (by have : i < t.length := hi; omega) y s1 nT2 (if_pos z)
    · rw [decide_eq_false z]
      exact iteF (pinv_skip y s1 (if_neg z))
  · rw [← tl_len] at y
    exact pinv_end (by rw [tl_len]; omega) y q
end
end Fv
set_option Elab.async false
set_option linter.all false
set_option maxRecDepth 100000
set_option maxHeartbeats 4000000
namespace Fv
open PySem PySem.Spec PyProof.Rows L2 TL LamX NdefX
abbrev s__law_is_marked : Stmt := top 53
abbrev sc__law_is_markedN : List Str := ["_law_page", "_law_sign", "_law_many"]
theorem sc__law_is_marked : FnScope sc__law_is_markedN ["_law_page", "_law_sign"] (defScope s__law_is_marked) := ⟨rfl, rfl, rfl, by decide +kernel, rfl, by decide +kernel, by decide +kernel⟩
abbrev s__law_all_marked : Stmt := top 54
abbrev sc__law_all_markedN : List Str := ["_law_page", "_law_sign", "_law_at"]
theorem sc__law_all_marked : FnScope sc__law_all_markedN ["_law_page", "_law_sign"] (defScope s__law_all_marked) := ⟨rfl, rfl, rfl, by decide +kernel, rfl, by decide +kernel, by decide +kernel⟩
def spIsM : Sp := fun vs H Q _ => ∃ (t : Str) (c : Nat), vs = [.str t, .str (sgS c)] ∧ t.length ≤ 100 ∧ Q (.bl (decide ((tl t).count c % 3 = 0 ∧ ((tl t).length - (tl t).count c) % 2 = 1))) H
def spAllM : Sp := fun vs H Q _ => ∃ (t : Str) (c : Nat), vs = [.str t, .str (sgS c)] ∧ t.length ≤ 100 ∧ ∀ (L : Addr) (refs : List V) (H' : Hp), Same H H' → H' L = some (.lst refs) → refs.length ≤ 100 → OutAt H' refs (picks (f64 c (tl t)) (tl t).length) → Q (.ref L) H'
section
variable {P : Program} {w : World} {K : PySem.W.Frag} {mg : Str → Option Value} {base : Heap}
theorem ok_is_marked {f : Addr} {fd : FuncData} (F : Fun K "_law_is_marked" "_law_is_marked" s__law_is_marked f fd) (T : Bare mg) : FnOk P w K mg base CX0 1 f fd ["_law_page", "_law_sign"] spIsM := by
  refine F.ok sc__law_is_marked (fun vs H Q E h => ?_) (fun cdv A outer s H vs Q E hr h => ?_)
  · obtain ⟨t, c, rfl, _⟩ := h
    rfl
  obtain ⟨t, c, rfl, ht, q⟩ := h
  refine ⟨_, (pss_cons (ps_set (i := 2) sc__law_is_marked.nd rfl (Or.inl rfl) (pe_m1 PySem.F.slot_str_count PySem.F.type_str_count mt_count (pv 0) (pv 1)))
(pss_one (ps_ret (pe_and (pe_cmpR op_eq (pe_op op_mod (pv 2) pe_int) pe_int (nomark _)) (pe_one (pe_cmpR op_eq (pe_op op_mod (pe_callTy call_int1 (by rfl) T.int (by decide +kernel) (pa_cons (pe_op op_sub (pe_callB call_len_str (by rfl) T.len PySem.boot_len (pa_cons (pv 0) pa_nil)) (pv 2)) pa_nil)) pe_int) pe_int (nomark _))))))), ?_⟩
  have le : (tl t).count c ≤ t.length := by rw [← tl_len]; exact List.count_le_length
  refine ⟨.str t, rfl, ⟨_, rfl⟩, .str (sgS c), rfl, _, _, rfl, rfl, ?_⟩
  rw [count_tl]
  refine ⟨_, rfl, _, _, rfl, rfl, (by show (0 : Int) < 3; decide), rfl, _, rfl, ?_⟩
  have e1 : decide ((fun i j => V.int (i % j)) (((tl t).count c : Nat) : Int) 3 = V.int 0) = decide ((tl t).count c % 3 = 0) := dec_intN (a := (tl t).count c % 3) (b := 0)
  rw [e1]
  by_cases z : (tl t).count c % 3 = 0
  · rw [decide_eq_true z]
    refine iteT ?_
    refine ⟨.str t, rfl, t, rfl, small (by omega), _, rfl, _, _, rfl, rfl, .inl ⟨_, rfl, _, _, rfl, rfl, (by show (0 : Int) < 2; decide), rfl, ?_⟩⟩
    have e2 : decide (V.int ((((t.length : Nat) : Int) - (((tl t).count c : Nat) : Int)) % 2) = V.int 1) = decide (((tl t).length - (tl t).count c) % 2 = 1) := by
      rw [show ((t.length : Nat) : Int) - (((tl t).count c : Nat) : Int) = (((tl t).length - (tl t).count c : Nat) : Int) by rw [tl_len]; omega]
      exact dec_intN (a := ((tl t).length - (tl t).count c) % 2) (b := 1)
    rw [e2]
    by_cases y : ((tl t).length - (tl t).count c) % 2 = 1
    · rw [decide_eq_true y]
      rw [decide_eq_true ⟨z, y⟩] at q
      exact q
    · rw [decide_eq_false y]
      rw [decide_eq_false (fun a => y a.2)] at q
      exact q
  · rw [decide_eq_false z]
    refine iteF ?_
    rw [decide_eq_false (fun a => z a.1)] at q
    exact q
theorem ok_all_marked {f : Addr} {fd : FuncData} (F : Fun K "_law_all_marked" "_law_all_marked" s__law_all_marked f fd) (T : Bare mg) (CM : Callee P w K mg base 1 "_law_is_marked" ["_law_page", "_law_sign"] spIsM) : FnOk P w K mg base CX0 2 f fd ["_law_page", "_law_sign"] spAllM := by
  refine F.ok sc__law_all_marked (fun vs H Q E h => ?_) (fun cdv A outer s H vs Q E hr h => ?_)
  · obtain ⟨t, c, rfl, _⟩ := h
    rfl
  obtain ⟨t, c, rfl, ht, q⟩ := h
  refine ⟨_, (pss_one (ps_ret (pe_lc (own := [("_law_at", 2)]) (g := gName 2) rfl sc__law_all_marked.nd (pi_range2 (by rfl) T.range (pa_cons pe_int (pa_cons (pe_op op_add (pe_callB call_len_str (by rfl) T.len PySem.boot_len (pa_cons (pv 0) pa_nil)) pe_int) pa_nil))) (blkOk_by (N := sc__law_all_markedN) (sc := defScope s__law_all_marked) (by decide +kernel)) (fun _ _ _ _ _ => pg_name (i := 2) sc__law_all_marked.nd rfl (Or.inl rfl)) (fun _ _ _ _ _ => (pts_one (pt_val (pe_call CM.ok hr rfl CM.mg CM.kp CM.b .nil pass0 (pa_cons (pe_slice sl_str (pv 0) po_none (po_some (pv 2))) (pa_cons (pv 1) pa_nil)))))) (fun _ _ _ _ _ => (pe_tup (pa_cons pe_str (pa_cons (pv 2) pa_nil))))))), ?_⟩
  have en : (((t.length : Int) + 1) - 1).toNat = t.length := by omega
  refine ⟨_, rfl, t, rfl, small (by omega), _, _, rfl, rfl, _, _, rfl, ⟨by decide, by decide, by omega, by omega⟩, fun D2 hD2 => lc_range (lo := 1) (n := (((t.length : Int) + 1) - 1).toNat) (fun i H' => PInv H D2 (f64 c (tl t)) i H') (pinv_zero hD2) (fun i H12 hi y => ?_) (fun H12 y => ?_)⟩
  · rw [en] at hi
    refine ⟨rfl, ?_⟩
    refine ⟨.str t, rfl, .int (1 + (i : Int)), rfl, _, rfl, t, rfl, small (by omega), .str (sgS c), rfl, cutS t none (some (1 + (i : Int))), c, rfl, (Nat.le_trans (cutS_length _ _ _) ht), _, rfl, ?_⟩
    have e3 : tl (cutS t none (some (1 + (i : Int)))) = (tl t).take (i + 1) := by rw [one_add]; exact tl_cutS t (i + 1)
    have e4 : ((tl t).take (i + 1)).length = i + 1 := by rw [List.length_take, tl_len]; omega
    rw [e3, e4]
    by_cases z : ((tl t).take (i + 1)).count c % 3 = 0 ∧ (i + 1 - ((tl t).take (i + 1)).count c) % 2 = 1
    · rw [decide_eq_true z]
      refine iteT ?_
      refine ⟨_, rfl, small (by show 2 ≤ 1000; decide), fun T2 nT2 => ?_⟩
      rw [one_add]
      exact pinv_more (o := ("z", i + 1)) hD2 (by omega) y (fun _ _ e => e) nT2 (if_pos z)
    · rw [decide_eq_false z]
      exact iteF (pinv_skip y (fun _ _ e => e) (if_neg z))
  · rw [en, ← tl_len] at y
    exact pinv_end (by rw [tl_len]; omega) y q
end
end Fv
set_option Elab.async false
set_option linter.all false
set_option maxRecDepth 100000
set_option maxHeartbeats 4000000
namespace Fv
open PySem PySem.Spec PyProof.Rows L2 TL LamX NdefX
abbrev N64 : List Str := ["_law_page", "_law_symbols"]
section
variable {P : Program} {w : World} {K : PySem.W.Frag} {mg : Str → Option Value} {base : Heap} {F : LF} {f : Addr} {sy : Str} {most step goal : Nat}
theorem lok64 (h : IsLam F (lamX 4)) (hsy : sy ∈ four6) (CA : Callee P w K mg base 2 "_law_all_marked" ["_law_page", "_law_sign"] spAllM) : LOkA P w K mg base CX0 9 f F (fr6 4) ((ws6 sy most step goal 4).map some) (spL fun l => told6 sy most step goal l 4) := by
  obtain ⟨qual, params, body, scope, cl, c⟩ := F
  obtain ⟨rfl, rfl, rfl⟩ := h
  refine lokA_of (N := N64) (p := "_law_page") (nscope_by (show nscB N64 ["_law_page"] (fr6 4) (lamS (lamX 4)) = true by decide +kernel)) (fun pm ctv u => rfl) (fun A outer s H v Q E hgu hr hsp => ?_)
  obtain ⟨t, rfl, ht, hl, q⟩ := hsp
  have hsl := (four6_ok sy hsy)
  have l1 : atI (tl sy) 0 = some (s6 sy 0) := by
    have hlt : 0 < (tl sy).length := by rw [tl_len]; omega
    have e : (tl sy)[0]? = some (s6 sy 0) := by
      unfold s6
      rw [List.getD_eq_getElem?_getD, List.getElem?_eq_getElem hlt]
      rfl
    exact atI_nat e
  have lG : (">" : Str).length = 1 := by decide +kernel
  have tG : tl (">" : Str) = [62] := by decide +kernel
  refine ⟨_, pe_call CA.ok (hr.mono (by decide)) rfl CA.mg CA.kp CA.b .nil pass0 (pa_cons (pe_op op_add_str (pv 0) pe_str) (pa_cons (pe_ix ix_str (pv 1) pe_int (fun _ _ => rfl)) pa_nil)), ?_⟩
  refine ⟨.str t, rfl, _, _, rfl, rfl, small (by rw [lG]; omega), .str sy, rfl, sy, 0, _, rfl, rfl, small (by omega), l1, t ++ (">" : Str), s6 sy 0, rfl, (by rw [len_app, lG]; omega), fun L refs H' s' hL hr' ho => q L refs H' s' hL hr' ?_⟩
  rw [tl_append, tG, List.length_append] at ho
  exact ho
end
end Fv
set_option Elab.async false
set_option linter.all false
set_option maxRecDepth 100000
set_option maxHeartbeats 4000000
namespace Fv
open PySem PySem.Spec PyProof.Rows L2 TL LamX NdefX
abbrev N65 : List Str := ["_law_page", "_law_symbols"]
section
variable {P : Program} {w : World} {K : PySem.W.Frag} {mg : Str → Option Value} {base : Heap} {F : LF} {f : Addr} {sy : Str} {most step goal : Nat}
theorem lok65 (h : IsLam F (lamX 5)) (hsy : sy ∈ four6) : LOkA P w K mg base CX0 9 f F (fr6 5) ((ws6 sy most step goal 5).map some) (spL fun l => told6 sy most step goal l 5) := by
  obtain ⟨qual, params, body, scope, cl, c⟩ := F
  obtain ⟨rfl, rfl, rfl⟩ := h
  refine lokA_of (N := N65) (p := "_law_page") (nscope_by (show nscB N65 ["_law_page"] (fr6 5) (lamS (lamX 5)) = true by decide +kernel)) (fun pm ctv u => rfl) (fun A outer s H v Q E hgu hr hsp => ?_)
  obtain ⟨t, rfl, ht, hl, q⟩ := hsp
  have nd : N65.Nodup := by decide +kernel
  have hsl := (four6_ok sy hsy)
  have l1 : atI (tl sy) 0 = some (s6 sy 0) := by
    have hlt : 0 < (tl sy).length := by rw [tl_len]; omega
    have e : (tl sy)[0]? = some (s6 sy 0) := by
      unfold s6
      rw [List.getD_eq_getElem?_getD, List.getElem?_eq_getElem hlt]
      rfl
    exact atI_nat e
  have key : decide (V.str (cutS t (some (-1)) none) = V.str (sgS (s6 sy 0))) = decide ((tl t).getLast? = some (s6 sy 0)) := by
    have e : tl (cutS t (some (-1)) none) = (tl t).drop ((tl t).length - 1) := by
      have e0 : tl (cutS t (some (-1)) none) = ((tl t).drop (HT.sIx t.length 0 (some (-1)))).take (HT.sIx t.length t.length none - HT.sIx t.length 0 (some (-1))) := rfl
      have e1 : HT.sIx t.length t.length none = t.length := rfl
      have e2 : HT.sIx t.length 0 (some (-1)) = t.length - 1 := by
        unfold HT.sIx
        simp only
        split <;> omega
      rw [e0, e1, e2, tl_len]
      exact List.take_of_length_le (by rw [List.length_drop, tl_len]; exact Nat.le_refl _)
    have e3 : (V.str (cutS t (some (-1)) none) = V.str (sgS (s6 sy 0))) ↔ (tl t).getLast? = some (s6 sy 0) := by
      refine ⟨fun z => ?_, fun z => ?_⟩
      · injection z with z
        have z := congrArg tl z
        rw [e] at z
        have z : (tl t).drop ((tl t).length - 1) = [s6 sy 0] := z
        rw [List.getLast?_eq_getElem?]
        have := congrArg (fun l : List Nat => l[0]?) z
        simp only [List.getElem?_drop, Nat.add_zero] at this
        exact this
      · have : tl (cutS t (some (-1)) none) = tl (sgS (s6 sy 0)) := by
          rw [e]
          have hne : (tl t) ≠ [] := fun q => by rw [q] at z; cases z
          rw [List.getLast?_eq_getElem?] at z
          have hlt := (List.getElem?_eq_some_iff.mp z).1
          rw [List.drop_eq_getElem_cons hlt, (List.getElem?_eq_some_iff.mp z).2, List.drop_of_length_le (by omega)]
          rfl
        rw [tl_inj this]
    by_cases z : (tl t).getLast? = some (s6 sy 0)
    · rw [decide_eq_true z, decide_eq_true (e3.mpr z)]
    · rw [decide_eq_false z, decide_eq_false (fun q => z (e3.mp q))]
  refine ⟨_, pe_lst (pa_cons (pe_tup (pa_cons (pe_ifExp (pt_cmpR op_eq (pe_slice sl_str (pv 0) (po_some (pe_un un_neg pe_int)) po_none) (pe_ix ix_str (pv 1) pe_int (fun _ _ => rfl)) (nomark _)) pe_str pe_str) (pa_cons pe_int pa_nil))) pa_nil), ?_⟩
  refine ⟨.str t, rfl, 1, rfl, _, rfl, t, rfl, small (by omega), .str sy, rfl, sy, 0, _, rfl, rfl, small (by omega), l1, rfl, _, rfl, ?_⟩
  have e9 : decide (V.str (cutS t (some (-1)) none) = V.str ⟨#[s6 sy 0]⟩) = decide ((tl t).getLast? = some (s6 sy 0)) := key
  rw [e9]
  have told : told6 sy most step goal (tl t) 5 = [(if (tl t).getLast? = some (s6 sy 0) then ("y" : Str) else "x", 0)] := rfl
  by_cases y : (tl t).getLast? = some (s6 sy 0)
  · rw [decide_eq_true y]
    refine iteT ⟨small (by show 2 ≤ 1000; decide), fun T0 n0 => ⟨small (by show 1 ≤ 1000; decide), fun L nL => ?_⟩⟩
    have s0 := same_new n0 (.tup [.str "y", .int 0])
    have s1 := same_new nL (.lst [.ref T0])
    refine q L _ _ (s0.trans s1) upd_same (by show 1 ≤ 100; decide) ?_
    show OutAt _ _ (told6 sy most step goal (tl t) 5)
    rw [told, if_pos y]
    exact .cons ⟨T0, rfl, s1 _ _ upd_same⟩ .nil
  · rw [decide_eq_false y]
    refine iteF ⟨small (by show 2 ≤ 1000; decide), fun T0 n0 => ⟨small (by show 1 ≤ 1000; decide), fun L nL => ?_⟩⟩
    have s0 := same_new n0 (.tup [.str "x", .int 0])
    have s1 := same_new nL (.lst [.ref T0])
    refine q L _ _ (s0.trans s1) upd_same (by show 1 ≤ 100; decide) ?_
    show OutAt _ _ (told6 sy most step goal (tl t) 5)
    rw [told, if_neg y]
    exact .cons ⟨T0, rfl, s1 _ _ upd_same⟩ .nil
end
end Fv
set_option Elab.async false
set_option linter.all false
set_option maxRecDepth 100000
set_option maxHeartbeats 4000000
namespace Fv
open PySem PySem.Spec PyProof.Rows L2 TL LamX NdefX
abbrev N66 : List Str := ["_law_page"]
section
variable {P : Program} {w : World} {K : PySem.W.Frag} {mg : Str → Option Value} {base : Heap} {F : LF} {f : Addr} {sy : Str} {most step goal : Nat}
theorem lok66 (h : IsLam F (lamX 6)) : LOkA P w K mg base CX0 9 f F (fr6 6) ((ws6 sy most step goal 6).map some) (spL fun l => told6 sy most step goal l 6) := by
  obtain ⟨qual, params, body, scope, cl, c⟩ := F
  obtain ⟨rfl, rfl, rfl⟩ := h
  refine lokA_of (N := N66) (p := "_law_page") (nscope_by (show nscB N66 ["_law_page"] (fr6 6) (lamS (lamX 6)) = true by decide +kernel)) (fun pm ctv u => rfl) (fun A outer s H v Q E hgu hr hsp => ?_)
  obtain ⟨t, rfl, ht, hl, q⟩ := hsp
  have nd : N66.Nodup := by decide +kernel
  refine ⟨_, pe_lst (pa_cons (pe_tup (pa_cons pe_str (pa_cons pe_int pa_nil))) pa_nil), ?_⟩
  refine ⟨small (by show 2 ≤ 1000; decide), fun T0 n0 => ⟨small (by show 1 ≤ 1000; decide), fun L nL => ?_⟩⟩
  have s0 := same_new n0 (.tup [.str "x", .int 0])
  have s1 := same_new nL (.lst [.ref T0])
  exact q L _ _ (s0.trans s1) upd_same (by show 1 ≤ 100; decide) (.cons ⟨T0, rfl, s1 _ _ upd_same⟩ .nil)
end
end Fv
set_option Elab.async false
set_option linter.all false
set_option maxRecDepth 100000
set_option maxHeartbeats 4000000
namespace Fv
open PySem PySem.Spec PyProof.Rows L2 TL LamX NdefX
abbrev N67 : List Str := ["_law_page", "_law_at", "_law_sign"]
section
variable {P : Program} {w : World} {K : PySem.W.Frag} {mg : Str → Option Value} {base : Heap} {F : LF} {f : Addr} {sy : Str} {most step goal : Nat}
theorem lok67 (h : IsLam F (lamX 7)) (menum : mg "enumerate" = none) : LOkA P w K mg base CX0 9 f F (fr6 7) ((ws6 sy most step goal 7).map some) (spL fun l => told6 sy most step goal l 7) := by
  obtain ⟨qual, params, body, scope, cl, c⟩ := F
  obtain ⟨rfl, rfl, rfl⟩ := h
  refine lokA_of (N := N67) (p := "_law_page") (nscope_by (show nscB N67 ["_law_page"] (fr6 7) (lamS (lamX 7)) = true by decide +kernel)) (fun pm ctv u => rfl) (fun A outer s H v Q E hgu hr hsp => ?_)
  obtain ⟨t, rfl, ht, hl, q⟩ := hsp
  have nd : N67.Nodup := by decide +kernel
  refine ⟨_, pe_lc (own := [("_law_at", 1), ("_law_sign", 2)]) (g := gTup K 2 (gCons (gName 1) (gCons (gName 2) gNil))) rfl nd (pi_enumS (by rfl) menum (pa_cons (pv 0) (pa_cons pe_int pa_nil))) (blkOk_by (N := N67) (sc := lamS (lamX 7)) (by decide +kernel)) (fun _ _ _ _ _ => pg_tup (by rfl) (pgs_cons (pg_name (i := 1) nd rfl (Or.inl rfl)) (pgs_cons (pg_name (i := 2) nd rfl (Or.inl rfl)) pgs_nil)))
    (fun _ _ _ _ _ => pts_nil) (fun _ _ _ _ _ => pe_tup (pa_cons (pv 2) (pa_cons (pv 1) pa_nil))), ?_⟩
  refine ⟨.str t, rfl, t, 1, rfl, by decide, by decide, fun D2 hD2 => lc_it (walk_enumS (x := t) (k := 1)) (fun i H' => PInv H D2 (f67 (tl t)) i H') (pinv_zero hD2) (fun _ _ _ _ => trivial) (fun i u H12 H' hi y z => ?_) (fun H12 y => ?_)⟩
  · obtain ⟨T1, rfl, nT1, rfl⟩ := z
    have s1 := same_new nT1 (.tup [.int (1 + (i : Nat)), signV t i])
    refine ⟨T1, _, rfl, .inl (.inl upd_same), rfl, _, _, rfl, _, _, rfl, rfl, rfl, ?_⟩
    simp only [tYes, ↓reduceIte]
    refine ⟨_, rfl, _, rfl, small (by show 2 ≤ 1000; decide), fun T2 nT2 => ?_⟩
    rw [one_add] at s1 nT2 ⊢
    exact pinv_more (o := (sgS ((tl t).getD i 0), i + 1)) hD2 (by have : i < t.length := hi; omega) y s1 nT2 rfl
  · rw [← tl_len] at y
    exact pinv_end (by rw [tl_len]; omega) y q
end
end Fv
set_option Elab.async false
set_option linter.all false
set_option maxRecDepth 100000
set_option maxHeartbeats 4000000
namespace Fv
open PySem PySem.Spec PyProof.Rows L2 TL LamX NdefX
abbrev s__law_parity : Stmt := top 50
abbrev sc__law_parityN : List Str := ["_law_symbols", "_law_names", "_law_c", "_law_sign", "_law_lines"]
theorem sc__law_parity : FnScope sc__law_parityN ["_law_symbols", "_law_names"] (defScope s__law_parity) := ⟨rfl, rfl, rfl, by decide +kernel, rfl, by decide +kernel, by decide +kernel⟩
section
variable {P : Program} {w : World} {K : PySem.W.Frag} {mg : Str → Option Value} {base : Heap}
theorem ok_parity {f c1 P1 : Addr} {fd : FuncData} {T : List (Addr × Str)} (F : FunC K "_law_parity" "_law_parity" s__law_parity f fd c1) (TB : TabB base mg c1 P1) (inT : (P1, qL "_law_parity") ∈ T) (one : ∀ p ∈ T, p.1 = P1 → p.2 = qL "_law_parity") :
    FnOkG P w K mg base 1 f fd ["_law_symbols", "_law_names"] (spMk T P1 1) := by
  refine F.okC (js := [3]) sc__law_parity (fun vs H Q E h => ?_) (by decide) (fun j hj => ?_) (fun A outer s H vs Q E hgu hr h => ?_)
  · obtain ⟨sy, a, b, nl, rfl, _⟩ := h
    rfl
  · have : j = 3 := by simpa using hj
    subst this
    exact ⟨_, rfl, by decide +kernel⟩
  obtain ⟨sy, a, b, nl, rfl, hsy, ha, hb, hn, hT, q⟩ := h
  have hsl := four6_ok sy hsy
  have na := (six6_ok a ha).2.2.1
  have nb := (six6_ok b hb).2.2.1
  obtain ⟨at0, at1⟩ := s6_at hsy
  have lc0 : ("      add " : Str).length = 10 := by decide +kernel
  have lc1 : ("      write x" : Str).length = 13 := by decide +kernel
  have lc2 : ("    if " : Str).length = 7 := by decide +kernel
  have lc3 : ("    if at " : Str).length = 10 := by decide +kernel
  have lc4 : ("    right" : Str).length = 9 := by decide +kernel
  have lc5 : ("  while not at >" : Str).length = 16 := by decide +kernel
  have lc6 : (" 1" : Str).length = 2 := by decide +kernel
  have lc7 : (" = 1" : Str).length = 4 := by decide +kernel
  have lc8 : ("cell " : Str).length = 5 := by decide +kernel
  have lc9 : ("main" : Str).length = 4 := by decide +kernel
  refine ⟨_, (ended_cons (ps_asg (pe_tup (pa_cons (pe_ix ix_list (pv 1) pe_int (fun _ _ => rfl)) (pa_cons (pe_ix ix_str (pv 0) pe_int (fun _ _ => rfl)) pa_nil))) (pg_tup (by rfl) (pgs_cons (pg_name (i := 2) sc__law_parity.nd rfl (Or.inl rfl)) (pgs_cons (pg_name (i := 3) sc__law_parity.nd rfl (Or.inr rfl)) pgs_nil))))
(ended_cons (ps_set (i := 4) sc__law_parity.nd rfl (Or.inl rfl) (pe_lst (pa_cons (pe_op op_add_str (pe_op op_add_str pe_str (pv 2)) pe_str) (pa_cons pe_str (pa_cons pe_str (pa_cons pe_str (pa_cons (pe_op op_add_str pe_str (pv 3)) (pa_cons (pe_op op_add_str (pe_op op_add_str pe_str (pv 2)) pe_str) pa_nil))))))))
(ended_cons (ps_set (i := 4) sc__law_parity.nd rfl (Or.inl rfl) (pe_op op_cat (pv 4) (pe_lst (pa_cons (pe_op op_add_str (pe_op op_add_str pe_str (pv 2)) pe_str) (pa_cons pe_str pa_nil)))))
(ended_ret (pe_tup (pa_cons (pv 4) (pa_cons (pe_lamF TB rfl inT one (show freeB (defScope s__law_parity) (lamS (lamX 1)) = true by decide +kernel) rfl) pa_nil))))))), ?_⟩
  have k0 := Kp.nil H
  refine ⟨.ref nl, rfl, nl, _, 0, _, rfl, rfl, .inl (.inl hn), rfl, .str sy, rfl, sy, 0, _, rfl, rfl, small (by omega), at0, small (by show 2 ≤ 1000; decide), fun p0 np => ⟨p0, _, rfl, .inl (.inl upd_same), rfl, _, _, rfl, _, _, rfl, rfl, ?_⟩⟩
  have k1 := k0.push np (.tup [.str a, .str (sgA sy 0)])
  refine ⟨.str (a), rfl, _, _, rfl, rfl, cs (by first | omega | (simp only [len_app]; omega)) (by first | omega | (simp only [len_app]; omega)), _, _, rfl, rfl, cs (by first | omega | (simp only [len_app]; omega)) (by first | omega | (simp only [len_app]; omega)), .str (sgA sy 0), rfl, _, _, rfl, rfl, cs (by first | omega | (simp only [len_app]; omega)) (by show 1 ≤ 100; decide), .str (a), rfl, _, _, rfl, rfl, cs (by first | omega | (simp only [len_app]; omega)) (by first | omega | (simp only [len_app]; omega)), _, _, rfl, rfl, cs (by first | omega | (simp only [len_app]; omega)) (by first | omega | (simp only [len_app]; omega)), small (by show 6 ≤ 1000; decide), fun L0 h0 => ?_⟩
  have k2 := k1.push h0 (.lst [.str (((("cell " : Str)) ++ (a)) ++ ((" 1" : Str))), .str (("main" : Str)), .str (("  while not at >" : Str)), .str (("    right" : Str)), .str ((("    if at " : Str)) ++ (sgA sy 0)), .str (((("      add " : Str)) ++ (a)) ++ ((" 1" : Str)))])
  refine ⟨.ref L0, rfl, .str (a), rfl, _, _, rfl, rfl, cs (by first | omega | (simp only [len_app]; omega)) (by first | omega | (simp only [len_app]; omega)), _, _, rfl, rfl, cs (by first | omega | (simp only [len_app]; omega)) (by first | omega | (simp only [len_app]; omega)), small (by show 2 ≤ 1000; decide), fun L1 h1 => ?_⟩
  have k3 := k2.push h1 (.lst [.str (((("    if " : Str)) ++ (a)) ++ ((" = 1" : Str))), .str (("      write x" : Str))])
  refine ⟨L0, L1, _, _, rfl, rfl, k3.all 1 _ _ rfl, upd_same, small (by show 8 ≤ 1000; decide), fun L2 h2 => ?_⟩
  have k4 := k3.push h2 (.lst ((lines6 sy a b 0 0 0 1).map V.str))
  have TT := hT.ext k4.same
  refine ⟨.ref L2, rfl, TT, fun fL c' H1 b1 T1 n1 lf cf => ⟨small (by show 2 ≤ 1000; decide), fun Tt nT => ⟨fun j hj => ?_, fun l kl nd fresh inj => ?_⟩⟩⟩
  · have : j = 3 := by simpa using hj
    subst this
    exact ⟨_, rfl⟩
  have s4 := same_new nT (.tup [.ref L2, .ref fL])
  have fin := fun most step goal => make_end (sy := sy) (a := a) (b := b) (most := most) (step := step) (goal := goal) (j := 1) (L := L2) (Tt := Tt) (by decide) inT k4 TT upd_same b1 T1 s4 upd_same lf cf kl nd inj (fun p hp => (fresh p hp).2) rfl (fun i y e => by
    match i, e with
    | 0, e => cases e; exact ⟨3, .str (sgA sy 0), by decide, rfl, rfl, rfl⟩
    | i + 1, e => cases e)
  exact q _ _ (fun most step goal => (fin most step goal).1) (fin 0 0 0).2.1 (fin 0 0 0).2.2
end
end Fv
set_option Elab.async false
set_option linter.all false
set_option maxRecDepth 100000
set_option maxHeartbeats 4000000
namespace Fv
open PySem PySem.Spec PyProof.Rows L2 TL LamX NdefX
abbrev s__law_nested : Stmt := top 51
abbrev sc__law_nestedN : List Str := ["_law_symbols", "_law_names", "_law_one", "_law_two", "_law_lines"]
theorem sc__law_nested : FnScope sc__law_nestedN ["_law_symbols", "_law_names"] (defScope s__law_nested) := ⟨rfl, rfl, rfl, by decide +kernel, rfl, by decide +kernel, by decide +kernel⟩
section
variable {P : Program} {w : World} {K : PySem.W.Frag} {mg : Str → Option Value} {base : Heap}
theorem ok_nested {f c1 P1 : Addr} {fd : FuncData} {T : List (Addr × Str)} (F : FunC K "_law_nested" "_law_nested" s__law_nested f fd c1) (TB : TabB base mg c1 P1) (inT : (P1, qL "_law_nested") ∈ T) (one : ∀ p ∈ T, p.1 = P1 → p.2 = qL "_law_nested") :
    FnOkG P w K mg base 1 f fd ["_law_symbols", "_law_names"] (spMk T P1 2) := by
  refine F.okC (js := []) sc__law_nested (fun vs H Q E h => ?_) (by decide) (fun j hj => ?_) (fun A outer s H vs Q E hgu hr h => ?_)
  · obtain ⟨sy, a, b, nl, rfl, _⟩ := h
    rfl
  · cases hj
  obtain ⟨sy, a, b, nl, rfl, hsy, ha, hb, hn, hT, q⟩ := h
  have hsl := four6_ok sy hsy
  have na := (six6_ok a ha).2.2.1
  have nb := (six6_ok b hb).2.2.1
  obtain ⟨at0, at1⟩ := s6_at hsy
  have lc0 : ("  do " : Str).length = 5 := by decide +kernel
  have lc1 : ("  right" : Str).length = 7 := by decide +kernel
  have lc2 : ("  write x" : Str).length = 9 := by decide +kernel
  have lc3 : ("  write y" : Str).length = 9 := by decide +kernel
  have lc4 : ("main" : Str).length = 4 := by decide +kernel
  have lc5 : ("part " : Str).length = 5 := by decide +kernel
  refine ⟨_, (ended_cons (ps_asg (pe_slice sl_list (pv 1) po_none (po_some pe_int)) (pg_unl (by rfl) (pgs_cons (pg_name (i := 2) sc__law_nested.nd rfl (Or.inl rfl)) (pgs_cons (pg_name (i := 3) sc__law_nested.nd rfl (Or.inl rfl)) pgs_nil))))
(ended_cons (ps_set (i := 4) sc__law_nested.nd rfl (Or.inl rfl) (pe_lst (pa_cons (pe_op op_add_str pe_str (pv 2)) (pa_cons pe_str (pa_cons (pe_op op_add_str pe_str (pv 3)) (pa_cons (pe_op op_add_str pe_str (pv 2)) (pa_cons pe_str (pa_cons (pe_op op_add_str pe_str (pv 2)) pa_nil))))))))
(ended_cons (ps_set (i := 4) sc__law_nested.nd rfl (Or.inl rfl) (pe_op op_cat (pv 4) (pe_lst (pa_cons pe_str (pa_cons (pe_op op_add_str pe_str (pv 3)) (pa_cons pe_str (pa_cons (pe_op op_add_str pe_str (pv 3)) pa_nil)))))))
(ended_ret (pe_tup (pa_cons (pv 4) (pa_cons (pe_lamF TB rfl inT one (show freeB (defScope s__law_nested) (lamS (lamX 2)) = true by decide +kernel) rfl) pa_nil))))))), ?_⟩
  have k0 := Kp.nil H
  refine ⟨.ref nl, rfl, _, rfl, nl, _, rfl, .inl (.inl hn), fun p0 np => ⟨p0, _, rfl, .inl (.inl upd_same), rfl, _, _, rfl, _, _, rfl, rfl, ?_⟩⟩
  have k1 := k0.push np (.lst [.str a, .str b])
  refine ⟨.str (a), rfl, _, _, rfl, rfl, cs (by first | omega | (simp only [len_app]; omega)) (by first | omega | (simp only [len_app]; omega)), .str (b), rfl, _, _, rfl, rfl, cs (by first | omega | (simp only [len_app]; omega)) (by first | omega | (simp only [len_app]; omega)), .str (a), rfl, _, _, rfl, rfl, cs (by first | omega | (simp only [len_app]; omega)) (by first | omega | (simp only [len_app]; omega)), .str (a), rfl, _, _, rfl, rfl, cs (by first | omega | (simp only [len_app]; omega)) (by first | omega | (simp only [len_app]; omega)), small (by show 6 ≤ 1000; decide), fun L0 h0 => ?_⟩
  have k2 := k1.push h0 (.lst [.str ((("part " : Str)) ++ (a)), .str (("  write x" : Str)), .str ((("part " : Str)) ++ (b)), .str ((("  do " : Str)) ++ (a)), .str (("  write y" : Str)), .str ((("  do " : Str)) ++ (a))])
  refine ⟨.ref L0, rfl, .str (b), rfl, _, _, rfl, rfl, cs (by first | omega | (simp only [len_app]; omega)) (by first | omega | (simp only [len_app]; omega)), .str (b), rfl, _, _, rfl, rfl, cs (by first | omega | (simp only [len_app]; omega)) (by first | omega | (simp only [len_app]; omega)), small (by show 4 ≤ 1000; decide), fun L1 h1 => ?_⟩
  have k3 := k2.push h1 (.lst [.str (("main" : Str)), .str ((("  do " : Str)) ++ (b)), .str (("  right" : Str)), .str ((("  do " : Str)) ++ (b))])
  refine ⟨L0, L1, _, _, rfl, rfl, k3.all 1 _ _ rfl, upd_same, small (by show 10 ≤ 1000; decide), fun L2 h2 => ?_⟩
  have k4 := k3.push h2 (.lst ((lines6 sy a b 0 0 0 2).map V.str))
  have TT := hT.ext k4.same
  refine ⟨.ref L2, rfl, TT, fun fL c' H1 b1 T1 n1 lf cf => ⟨small (by show 2 ≤ 1000; decide), fun Tt nT => ⟨fun j hj => ?_, fun l kl nd fresh inj => ?_⟩⟩⟩
  · cases hj
  have s4 := same_new nT (.tup [.ref L2, .ref fL])
  have fin := fun most step goal => make_end (sy := sy) (a := a) (b := b) (most := most) (step := step) (goal := goal) (j := 2) (L := L2) (Tt := Tt) (by decide) inT k4 TT upd_same b1 T1 s4 upd_same lf cf kl nd inj (fun p hp => (fresh p hp).2) rfl (fun i y e => by
    match i, e with
    | i, e => cases e)
  exact q _ _ (fun most step goal => (fin most step goal).1) (fin 0 0 0).2.1 (fin 0 0 0).2.2
end
end Fv
set_option Elab.async false
set_option linter.all false
set_option maxRecDepth 100000
set_option maxHeartbeats 4000000
namespace Fv
open PySem PySem.Spec PyProof.Rows L2 TL LamX NdefX
abbrev s__law_stopped : Stmt := top 52
abbrev sc__law_stoppedN : List Str := ["_law_symbols", "_law_names", "_law_lines"]
theorem sc__law_stopped : FnScope sc__law_stoppedN ["_law_symbols", "_law_names"] (defScope s__law_stopped) := ⟨rfl, rfl, rfl, by decide +kernel, rfl, by decide +kernel, by decide +kernel⟩
section
variable {P : Program} {w : World} {K : PySem.W.Frag} {mg : Str → Option Value} {base : Heap}
theorem ok_stopped {f c1 P1 : Addr} {fd : FuncData} {T : List (Addr × Str)} (F : FunC K "_law_stopped" "_law_stopped" s__law_stopped f fd c1) (TB : TabB base mg c1 P1) (inT : (P1, qL "_law_stopped") ∈ T) (one : ∀ p ∈ T, p.1 = P1 → p.2 = qL "_law_stopped") :
    FnOkG P w K mg base 1 f fd ["_law_symbols", "_law_names"] (spMk T P1 3) := by
  refine F.okC (js := [0]) sc__law_stopped (fun vs H Q E h => ?_) (by decide) (fun j hj => ?_) (fun A outer s H vs Q E hgu hr h => ?_)
  · obtain ⟨sy, a, b, nl, rfl, _⟩ := h
    rfl
  · obtain rfl := List.mem_singleton.mp hj
    exact ⟨_, rfl, by decide +kernel⟩
  obtain ⟨sy, a, b, nl, rfl, hsy, ha, hb, hn, hT, q⟩ := h
  have hsl := four6_ok sy hsy
  have na := (six6_ok a ha).2.2.1
  have nb := (six6_ok b hb).2.2.1
  obtain ⟨at0, at1⟩ := s6_at hsy
  refine ⟨_, (ended_cons (ps_set (i := 2) sc__law_stopped.nd rfl (Or.inl rfl) (pe_lst (pa_cons (pe_op op_add_str pe_str (pe_ix ix_list (pv 1) pe_int (fun _ _ => rfl))) (pa_cons (pe_op op_add_str pe_str (pe_ix ix_str (pv 0) pe_int (fun _ _ => rfl))) (pa_cons pe_str (pa_cons pe_str (pa_cons pe_str (pa_cons pe_str pa_nil))))))))
(ended_cons (ps_set (i := 2) sc__law_stopped.nd rfl (Or.inl rfl) (pe_op op_cat (pv 2) (pe_lst (pa_cons (pe_op op_add_str pe_str (pe_ix ix_list (pv 1) pe_int (fun _ _ => rfl))) (pa_cons pe_str pa_nil)))))
(ended_ret (pe_tup (pa_cons (pv 2) (pa_cons (pe_lamF TB rfl inT one (show freeB (defScope s__law_stopped) (lamS (lamX 3)) = true by decide +kernel) rfl) pa_nil)))))), ?_⟩
  refine ⟨.ref nl, rfl, nl, _, 0, _, rfl, rfl, .inl (.inl hn), rfl, _, _, rfl, rfl, cs (by decide +kernel) (by omega), .str sy, rfl, sy, 1, _, rfl, rfl, small (by omega), at1, _, _, rfl, rfl, cs (by decide +kernel) (by show 1 ≤ 100; decide), small (by show 6 ≤ 1000; decide), fun L0 h0 => ?_⟩
  have k1 := (Kp.nil H).push h0 (.lst [.str (("part " : Str) ++ a), .str (("  if at " : Str) ++ sgS (s6 sy 1)), .str "    stop", .str "main", .str "  while not at >", .str "    right"])
  refine ⟨.ref L0, rfl, .ref nl, rfl, nl, _, 0, _, rfl, rfl, .inl (.inl (k1.same _ _ hn)), rfl, _, _, rfl, rfl, cs (by decide +kernel) (by omega), small (by show 2 ≤ 1000; decide), fun L1 h1 => ?_⟩
  have k2 := k1.push h1 (.lst [.str (("    do " : Str) ++ a), .str "    copy"])
  refine ⟨L0, L1, _, _, rfl, rfl, k2.all 1 _ _ rfl, upd_same, small (by show 8 ≤ 1000; decide), fun L2 h2 => ?_⟩
  have k3 := k2.push h2 (.lst ((lines6 sy a b 0 0 0 3).map V.str))
  have T3 := hT.ext k3.same
  refine ⟨.ref L2, rfl, T3, fun fL c' H1 b1 T1 n1 lf cf => ⟨small (by show 2 ≤ 1000; decide), fun Tt nT => ⟨fun j hj => ?_, fun l kl nd fresh inj => ?_⟩⟩⟩
  · obtain rfl := List.mem_singleton.mp hj
    exact ⟨_, rfl⟩
  have s4 := same_new nT (.tup [.ref L2, .ref fL])
  have fin := fun most step goal => make_end (sy := sy) (a := a) (b := b) (most := most) (step := step) (goal := goal) (j := 3) (L := L2) (Tt := Tt) (by decide) inT k3 T3 upd_same b1 T1 s4 upd_same lf cf kl nd inj (fun p hp => (fresh p hp).2) rfl (fun i y e => by
    match i, e with
    | 0, e => cases e; exact ⟨0, .str sy, .head _, rfl, rfl, rfl⟩
    | i + 1, e => cases e)
  exact q _ _ (fun most step goal => (fin most step goal).1) (fin 0 0 0).2.1 (fin 0 0 0).2.2
end
end Fv
set_option Elab.async false
set_option linter.all false
set_option maxRecDepth 100000
set_option maxHeartbeats 4000000
namespace Fv
open PySem PySem.Spec PyProof.Rows L2 TL LamX NdefX
abbrev s__law_two_cells : Stmt := top 55
abbrev sc__law_two_cellsN : List Str := ["_law_symbols", "_law_names", "_law_u", "_law_v", "_law_lines"]
theorem sc__law_two_cells : FnScope sc__law_two_cellsN ["_law_symbols", "_law_names"] (defScope s__law_two_cells) := ⟨rfl, rfl, rfl, by decide +kernel, rfl, by decide +kernel, by decide +kernel⟩
section
variable {P : Program} {w : World} {K : PySem.W.Frag} {mg : Str → Option Value} {base : Heap}
theorem ok_two_cells {f c1 P1 : Addr} {fd : FuncData} {T : List (Addr × Str)} (F : FunC K "_law_two_cells" "_law_two_cells" s__law_two_cells f fd c1) (TB : TabB base mg c1 P1) (inT : (P1, qL "_law_two_cells") ∈ T) (one : ∀ p ∈ T, p.1 = P1 → p.2 = qL "_law_two_cells") :
    FnOkG P w K mg base 1 f fd ["_law_symbols", "_law_names"] (spMk T P1 4) := by
  refine F.okC (js := [0]) sc__law_two_cells (fun vs H Q E h => ?_) (by decide) (fun j hj => ?_) (fun A outer s H vs Q E hgu hr h => ?_)
  · obtain ⟨sy, a, b, nl, rfl, _⟩ := h
    rfl
  · have : j = 0 := by simpa using hj
    subst this
    exact ⟨_, rfl, by decide +kernel⟩
  obtain ⟨sy, a, b, nl, rfl, hsy, ha, hb, hn, hT, q⟩ := h
  have hsl := four6_ok sy hsy
  have na := (six6_ok a ha).2.2.1
  have nb := (six6_ok b hb).2.2.1
  obtain ⟨at0, at1⟩ := s6_at hsy
  have lc0 : ("        write z" : Str).length = 15 := by decide +kernel
  have lc1 : ("      add " : Str).length = 10 := by decide +kernel
  have lc2 : ("      if not " : Str).length = 13 := by decide +kernel
  have lc3 : ("    else" : Str).length = 8 := by decide +kernel
  have lc4 : ("    if " : Str).length = 7 := by decide +kernel
  have lc5 : ("    if at " : Str).length = 10 := by decide +kernel
  have lc6 : ("    right" : Str).length = 9 := by decide +kernel
  have lc7 : ("  while not at >" : Str).length = 16 := by decide +kernel
  have lc8 : (" 1" : Str).length = 2 := by decide +kernel
  have lc9 : (" 2" : Str).length = 2 := by decide +kernel
  have lc10 : (" = 0" : Str).length = 4 := by decide +kernel
  have lc11 : ("cell " : Str).length = 5 := by decide +kernel
  have lc12 : ("main" : Str).length = 4 := by decide +kernel
  refine ⟨_, (ended_cons (ps_asg (pe_slice sl_list (pv 1) po_none (po_some pe_int)) (pg_unl (by rfl) (pgs_cons (pg_name (i := 2) sc__law_two_cells.nd rfl (Or.inl rfl)) (pgs_cons (pg_name (i := 3) sc__law_two_cells.nd rfl (Or.inl rfl)) pgs_nil))))
(ended_cons (ps_set (i := 4) sc__law_two_cells.nd rfl (Or.inl rfl) (pe_lst (pa_cons (pe_op op_add_str (pe_op op_add_str pe_str (pv 2)) pe_str) (pa_cons (pe_op op_add_str (pe_op op_add_str pe_str (pv 3)) pe_str) (pa_cons pe_str (pa_cons pe_str (pa_cons pe_str (pa_cons (pe_op op_add_str pe_str (pe_ix ix_str (pv 0) pe_int (fun _ _ => rfl))) pa_nil))))))))
(ended_cons (ps_set (i := 4) sc__law_two_cells.nd rfl (Or.inl rfl) (pe_op op_cat (pv 4) (pe_lst (pa_cons (pe_op op_add_str (pe_op op_add_str pe_str (pv 2)) pe_str) (pa_cons pe_str (pa_cons (pe_op op_add_str (pe_op op_add_str pe_str (pv 3)) pe_str) (pa_cons (pe_op op_add_str (pe_op op_add_str pe_str (pv 2)) pe_str) pa_nil)))))))
(ended_cons (ps_set (i := 4) sc__law_two_cells.nd rfl (Or.inl rfl) (pe_op op_cat (pv 4) (pe_lst (pa_cons (pe_op op_add_str (pe_op op_add_str pe_str (pv 3)) pe_str) (pa_cons pe_str pa_nil)))))
(ended_ret (pe_tup (pa_cons (pv 4) (pa_cons (pe_lamF TB rfl inT one (show freeB (defScope s__law_two_cells) (lamS (lamX 4)) = true by decide +kernel) rfl) pa_nil)))))))), ?_⟩
  have k0 := Kp.nil H
  refine ⟨.ref nl, rfl, _, rfl, nl, _, rfl, .inl (.inl hn), fun p0 np => ⟨p0, _, rfl, .inl (.inl upd_same), rfl, _, _, rfl, _, _, rfl, rfl, ?_⟩⟩
  have k1 := k0.push np (.lst [.str a, .str b])
  refine ⟨.str (a), rfl, _, _, rfl, rfl, cs (by first | omega | (simp only [len_app]; omega)) (by first | omega | (simp only [len_app]; omega)), _, _, rfl, rfl, cs (by first | omega | (simp only [len_app]; omega)) (by first | omega | (simp only [len_app]; omega)), .str (b), rfl, _, _, rfl, rfl, cs (by first | omega | (simp only [len_app]; omega)) (by first | omega | (simp only [len_app]; omega)), _, _, rfl, rfl, cs (by first | omega | (simp only [len_app]; omega)) (by first | omega | (simp only [len_app]; omega)), .str sy, rfl, sy, 0, _, rfl, rfl, small (by omega), at0, _, _, rfl, rfl, cs (by first | omega | (simp only [len_app]; omega)) (by show 1 ≤ 100; decide), small (by show 6 ≤ 1000; decide), fun L0 h0 => ?_⟩
  have k2 := k1.push h0 (.lst [.str (((("cell " : Str)) ++ (a)) ++ ((" 2" : Str))), .str (((("cell " : Str)) ++ (b)) ++ ((" 1" : Str))), .str (("main" : Str)), .str (("  while not at >" : Str)), .str (("    right" : Str)), .str ((("    if at " : Str)) ++ (sgA sy 0))])
  refine ⟨.ref L0, rfl, .str (a), rfl, _, _, rfl, rfl, cs (by first | omega | (simp only [len_app]; omega)) (by first | omega | (simp only [len_app]; omega)), _, _, rfl, rfl, cs (by first | omega | (simp only [len_app]; omega)) (by first | omega | (simp only [len_app]; omega)), .str (b), rfl, _, _, rfl, rfl, cs (by first | omega | (simp only [len_app]; omega)) (by first | omega | (simp only [len_app]; omega)), _, _, rfl, rfl, cs (by first | omega | (simp only [len_app]; omega)) (by first | omega | (simp only [len_app]; omega)), .str (a), rfl, _, _, rfl, rfl, cs (by first | omega | (simp only [len_app]; omega)) (by first | omega | (simp only [len_app]; omega)), _, _, rfl, rfl, cs (by first | omega | (simp only [len_app]; omega)) (by first | omega | (simp only [len_app]; omega)), small (by show 4 ≤ 1000; decide), fun L1 h1 => ?_⟩
  have k3 := k2.push h1 (.lst [.str (((("      add " : Str)) ++ (a)) ++ ((" 1" : Str))), .str (("    else" : Str)), .str (((("      add " : Str)) ++ (b)) ++ ((" 1" : Str))), .str (((("    if " : Str)) ++ (a)) ++ ((" = 0" : Str)))])
  refine ⟨L0, L1, _, _, rfl, rfl, k3.all 1 _ _ rfl, upd_same, small (by show 10 ≤ 1000; decide), fun L2 h2 => ?_⟩
  have k4 := k3.push h2 (.lst [.str (((("cell " : Str)) ++ (a)) ++ ((" 2" : Str))), .str (((("cell " : Str)) ++ (b)) ++ ((" 1" : Str))), .str (("main" : Str)), .str (("  while not at >" : Str)), .str (("    right" : Str)), .str ((("    if at " : Str)) ++ (sgA sy 0)), .str (((("      add " : Str)) ++ (a)) ++ ((" 1" : Str))), .str (("    else" : Str)), .str (((("      add " : Str)) ++ (b)) ++ ((" 1" : Str))), .str (((("    if " : Str)) ++ (a)) ++ ((" = 0" : Str)))])
  refine ⟨.ref L2, rfl, .str (b), rfl, _, _, rfl, rfl, cs (by first | omega | (simp only [len_app]; omega)) (by first | omega | (simp only [len_app]; omega)), _, _, rfl, rfl, cs (by first | omega | (simp only [len_app]; omega)) (by first | omega | (simp only [len_app]; omega)), small (by show 2 ≤ 1000; decide), fun L3 h3 => ?_⟩
  have k5 := k4.push h3 (.lst [.str (((("      if not " : Str)) ++ (b)) ++ ((" = 0" : Str))), .str (("        write z" : Str))])
  refine ⟨L2, L3, _, _, rfl, rfl, k5.all 1 _ _ rfl, upd_same, small (by show 12 ≤ 1000; decide), fun L4 h4 => ?_⟩
  have k6 := k5.push h4 (.lst ((lines6 sy a b 0 0 0 4).map V.str))
  have TT := hT.ext k6.same
  refine ⟨.ref L4, rfl, TT, fun fL c' H1 b1 T1 n1 lf cf => ⟨small (by show 2 ≤ 1000; decide), fun Tt nT => ⟨fun j hj => ?_, fun l kl nd fresh inj => ?_⟩⟩⟩
  · have : j = 0 := by simpa using hj
    subst this
    exact ⟨_, rfl⟩
  have s4 := same_new nT (.tup [.ref L4, .ref fL])
  have fin := fun most step goal => make_end (sy := sy) (a := a) (b := b) (most := most) (step := step) (goal := goal) (j := 4) (L := L4) (Tt := Tt) (by decide) inT k6 TT upd_same b1 T1 s4 upd_same lf cf kl nd inj (fun p hp => (fresh p hp).2) rfl (fun i y e => by
    match i, e with
    | 0, e => cases e; exact ⟨0, .str sy, by decide, rfl, rfl, rfl⟩
    | i + 1, e => cases e)
  exact q _ _ (fun most step goal => (fin most step goal).1) (fin 0 0 0).2.1 (fin 0 0 0).2.2
end
end Fv
set_option Elab.async false
set_option linter.all false
set_option maxRecDepth 100000
set_option maxHeartbeats 4000000
namespace Fv
open PySem PySem.Spec PyProof.Rows L2 TL LamX NdefX
abbrev s__law_remembered : Stmt := top 56
abbrev sc__law_rememberedN : List Str := ["_law_symbols", "_law_names", "_law_c", "_law_lines"]
theorem sc__law_remembered : FnScope sc__law_rememberedN ["_law_symbols", "_law_names"] (defScope s__law_remembered) := ⟨rfl, rfl, rfl, by decide +kernel, rfl, by decide +kernel, by decide +kernel⟩
section
variable {P : Program} {w : World} {K : PySem.W.Frag} {mg : Str → Option Value} {base : Heap}
theorem ok_remembered {f c1 P1 : Addr} {fd : FuncData} {T : List (Addr × Str)} (F : FunC K "_law_remembered" "_law_remembered" s__law_remembered f fd c1) (TB : TabB base mg c1 P1) (inT : (P1, qL "_law_remembered") ∈ T) (one : ∀ p ∈ T, p.1 = P1 → p.2 = qL "_law_remembered") :
    FnOkG P w K mg base 1 f fd ["_law_symbols", "_law_names"] (spMk T P1 5) := by
  refine F.okC (js := [0]) sc__law_remembered (fun vs H Q E h => ?_) (by decide) (fun j hj => ?_) (fun A outer s H vs Q E hgu hr h => ?_)
  · obtain ⟨sy, a, b, nl, rfl, _⟩ := h
    rfl
  · have : j = 0 := by simpa using hj
    subst this
    exact ⟨_, rfl, by decide +kernel⟩
  obtain ⟨sy, a, b, nl, rfl, hsy, ha, hb, hn, hT, q⟩ := h
  have hsl := four6_ok sy hsy
  have na := (six6_ok a ha).2.2.1
  have nb := (six6_ok b hb).2.2.1
  obtain ⟨at0, at1⟩ := s6_at hsy
  have lc0 : ("    left" : Str).length = 8 := by decide +kernel
  have lc1 : ("    right" : Str).length = 9 := by decide +kernel
  have lc2 : ("    set " : Str).length = 8 := by decide +kernel
  have lc3 : ("    write x" : Str).length = 11 := by decide +kernel
  have lc4 : ("    write y" : Str).length = 11 := by decide +kernel
  have lc5 : ("  else" : Str).length = 6 := by decide +kernel
  have lc6 : ("  if " : Str).length = 5 := by decide +kernel
  have lc7 : ("  if at " : Str).length = 8 := by decide +kernel
  have lc8 : ("  left" : Str).length = 6 := by decide +kernel
  have lc9 : ("  while not at <" : Str).length = 16 := by decide +kernel
  have lc10 : ("  while not at >" : Str).length = 16 := by decide +kernel
  have lc11 : (" 1" : Str).length = 2 := by decide +kernel
  have lc12 : (" = 1" : Str).length = 4 := by decide +kernel
  have lc13 : ("cell " : Str).length = 5 := by decide +kernel
  have lc14 : ("main" : Str).length = 4 := by decide +kernel
  refine ⟨_, (ended_cons (ps_set (i := 2) sc__law_remembered.nd rfl (Or.inl rfl) (pe_ix ix_list (pv 1) pe_int (fun _ _ => rfl)))
(ended_cons (ps_set (i := 3) sc__law_remembered.nd rfl (Or.inl rfl) (pe_lst (pa_cons (pe_op op_add_str (pe_op op_add_str pe_str (pv 2)) pe_str) (pa_cons pe_str (pa_cons pe_str (pa_cons pe_str (pa_cons pe_str (pa_cons (pe_op op_add_str pe_str (pe_ix ix_str (pv 0) pe_int (fun _ _ => rfl))) pa_nil))))))))
(ended_cons (ps_set (i := 3) sc__law_remembered.nd rfl (Or.inl rfl) (pe_op op_cat (pv 3) (pe_lst (pa_cons (pe_op op_add_str (pe_op op_add_str pe_str (pv 2)) pe_str) (pa_cons pe_str (pa_cons pe_str (pa_cons (pe_op op_add_str (pe_op op_add_str pe_str (pv 2)) pe_str) (pa_cons pe_str pa_nil))))))))
(ended_ret (pe_tup (pa_cons (pe_op op_cat (pv 3) (pe_lst (pa_cons pe_str (pa_cons pe_str pa_nil)))) (pa_cons (pe_lamF TB rfl inT one (show freeB (defScope s__law_remembered) (lamS (lamX 5)) = true by decide +kernel) rfl) pa_nil))))))), ?_⟩
  have k0 := Kp.nil H
  refine ⟨.ref nl, rfl, nl, _, 0, _, rfl, rfl, .inl (.inl hn), rfl, ?_⟩
  refine ⟨.str (a), rfl, _, _, rfl, rfl, cs (by first | omega | (simp only [len_app]; omega)) (by first | omega | (simp only [len_app]; omega)), _, _, rfl, rfl, cs (by first | omega | (simp only [len_app]; omega)) (by first | omega | (simp only [len_app]; omega)), .str sy, rfl, sy, 0, _, rfl, rfl, small (by omega), at0, _, _, rfl, rfl, cs (by first | omega | (simp only [len_app]; omega)) (by show 1 ≤ 100; decide), small (by show 6 ≤ 1000; decide), fun L0 h0 => ?_⟩
  have k1 := k0.push h0 (.lst [.str (((("cell " : Str)) ++ (a)) ++ ((" 1" : Str))), .str (("main" : Str)), .str (("  while not at >" : Str)), .str (("    right" : Str)), .str (("  left" : Str)), .str ((("  if at " : Str)) ++ (sgA sy 0))])
  refine ⟨.ref L0, rfl, .str (a), rfl, _, _, rfl, rfl, cs (by first | omega | (simp only [len_app]; omega)) (by first | omega | (simp only [len_app]; omega)), _, _, rfl, rfl, cs (by first | omega | (simp only [len_app]; omega)) (by first | omega | (simp only [len_app]; omega)), .str (a), rfl, _, _, rfl, rfl, cs (by first | omega | (simp only [len_app]; omega)) (by first | omega | (simp only [len_app]; omega)), _, _, rfl, rfl, cs (by first | omega | (simp only [len_app]; omega)) (by first | omega | (simp only [len_app]; omega)), small (by show 5 ≤ 1000; decide), fun L1 h1 => ?_⟩
  have k2 := k1.push h1 (.lst [.str (((("    set " : Str)) ++ (a)) ++ ((" 1" : Str))), .str (("  while not at <" : Str)), .str (("    left" : Str)), .str (((("  if " : Str)) ++ (a)) ++ ((" = 1" : Str))), .str (("    write y" : Str))])
  refine ⟨L0, L1, _, _, rfl, rfl, k2.all 1 _ _ rfl, upd_same, small (by show 11 ≤ 1000; decide), fun L2 h2 => ?_⟩
  have k3 := k2.push h2 (.lst [.str (((("cell " : Str)) ++ (a)) ++ ((" 1" : Str))), .str (("main" : Str)), .str (("  while not at >" : Str)), .str (("    right" : Str)), .str (("  left" : Str)), .str ((("  if at " : Str)) ++ (sgA sy 0)), .str (((("    set " : Str)) ++ (a)) ++ ((" 1" : Str))), .str (("  while not at <" : Str)), .str (("    left" : Str)), .str (((("  if " : Str)) ++ (a)) ++ ((" = 1" : Str))), .str (("    write y" : Str))])
  refine ⟨.ref L2, rfl, small (by show 2 ≤ 1000; decide), fun L3 h3 => ?_⟩
  have k4 := k3.push h3 (.lst [.str (("  else" : Str)), .str (("    write x" : Str))])
  refine ⟨L2, L3, _, _, rfl, rfl, k4.all 1 _ _ rfl, upd_same, small (by show 13 ≤ 1000; decide), fun L4 h4 => ?_⟩
  have k5 := k4.push h4 (.lst ((lines6 sy a b 0 0 0 5).map V.str))
  have TT := hT.ext k5.same
  refine ⟨TT, fun fL c' H1 b1 T1 n1 lf cf => ⟨small (by show 2 ≤ 1000; decide), fun Tt nT => ⟨fun j hj => ?_, fun l kl nd fresh inj => ?_⟩⟩⟩
  · have : j = 0 := by simpa using hj
    subst this
    exact ⟨_, rfl⟩
  have s4 := same_new nT (.tup [.ref L4, .ref fL])
  have fin := fun most step goal => make_end (sy := sy) (a := a) (b := b) (most := most) (step := step) (goal := goal) (j := 5) (L := L4) (Tt := Tt) (by decide) inT k5 TT upd_same b1 T1 s4 upd_same lf cf kl nd inj (fun p hp => (fresh p hp).2) rfl (fun i y e => by
    match i, e with
    | 0, e => cases e; exact ⟨0, .str sy, by decide, rfl, rfl, rfl⟩
    | i + 1, e => cases e)
  exact q _ _ (fun most step goal => (fin most step goal).1) (fin 0 0 0).2.1 (fin 0 0 0).2.2
end
end Fv
set_option Elab.async false
set_option linter.all false
set_option maxRecDepth 100000
set_option maxHeartbeats 4000000
namespace Fv
open PySem PySem.Spec PyProof.Rows L2 TL LamX NdefX
/-! ### what the top has written -/
theorem tup_in {K : PySem.W.Frag} {a : Addr} {od : Option Addr} {its : Array Value} {n : Nat} {sl : Array (Option Value)} {xs : List V} (h : K.lookup a = some ⟨.type "tuple", od, .seq its n, sl⟩) (hz : its.size ≤ 1000) (r : Vals xs its.toList) : ∀ H, SqT K H a xs :=
  fun _ => .inr ⟨_, its, n, h, rfl, rfl, small hz, r⟩
/-- the tables of seven defs -/
def tabs7 (cs : List (Addr × Addr)) : List (Addr × Str) :=
  match cs with
  | [(_, P0), (_, P1), (_, P2), (_, P3), (_, P4), (_, P5), (_, P6)] => [(P0, qL "_law_counted"), (P1, qL "_law_parity"), (P2, qL "_law_nested"), (P3, qL "_law_stopped"), (P4, qL "_law_two_cells"), (P5, qL "_law_remembered"), (P6, qL "_law_right")]
  | _ => []
theorem one_of : ∀ {T : List (Addr × Str)}, (T.map (·.1)).Nodup → ∀ {P : Addr} {q : Str}, (P, q) ∈ T → ∀ p ∈ T, p.1 = P → p.2 = q
  | [], _, _, _, h => (nomatch h)
  | t :: T, nd, P, q, h => fun p hp e => by
    rw [List.map_cons] at nd
    have n := (List.nodup_cons.mp nd).1
    rcases List.mem_cons.mp h with h | h
    · rcases List.mem_cons.mp hp with hp | hp
      · rw [hp, ← h]
      · exact absurd (List.mem_map.mpr ⟨p, hp, e⟩) (by rw [← h] at n; exact n)
    · rcases List.mem_cons.mp hp with hp | hp
      · rw [hp] at e
        exact absurd (List.mem_map.mpr ⟨(P, q), h, e.symm⟩) n
      · exact one_of (List.nodup_cons.mp nd).2 h p hp e
theorem all_mk {l : PySem.W.OpenLaw} {w : World} {K : PySem.W.Frag} {h : Heap} {mg : Str → Option Value} {fa : Addr} (X : K.In h) (G : h.Ns mainGlobals mg) (hfa : mg "law" = some (.ref fa))
    {C CS CP c0 c1 c2 c3 c4 c5 c6 P0 P1 P2 P3 P4 P5 P6 CC aMv f_link f_parse f_iol f_iio f_let f_fst f_step f_ends f_nxl f_hol f_res f_cea f_lat f_ist f_chk f_mar f_run f_rop f_pot f_take f_of f_k0 f_k1 f_k2 f_k3 f_ism f_alm f_k4 f_k5 f_right f_law f_sin f_pin f_words_at f_read_program f_read_symbols f_read_cell f_read_part f_is_new_name f_read_whole_body f_read_body f_read_statement f_given_by f_setting_by f_sum_by f_condition_by f_gin aV aB aW : Addr}
    {od_link an_link od_parse an_parse od_iol an_iol od_iio an_iio od_let an_let od_fst an_fst od_step an_step od_ends an_ends od_nxl an_nxl od_hol an_hol od_res an_res od_cea an_cea od_lat an_lat od_ist an_ist od_chk an_chk od_mar an_mar od_run an_run od_rop an_rop od_pot an_pot od_take an_take od_of an_of od_k0 an_k0 od_k1 an_k1 od_k2 an_k2 od_k3 an_k3 od_ism an_ism od_alm an_alm od_k4 an_k4 od_k5 an_k5 od_right an_right od_law an_law od_sin an_sin od_pin an_pin od_words_at an_words_at od_read_program an_read_program od_read_symbols an_read_symbols od_read_cell an_read_cell od_read_part an_read_part od_is_new_name an_is_new_name od_read_whole_body an_read_whole_body od_read_body an_read_body od_read_statement an_read_statement od_given_by an_given_by od_setting_by an_setting_by od_sum_by an_sum_by od_condition_by an_condition_by od_gin an_gin : Option Addr}
    {sl_link sl_parse sl_iol sl_iio sl_let sl_fst sl_step sl_ends sl_nxl sl_hol sl_res sl_cea sl_lat sl_ist sl_chk sl_mar sl_run sl_rop sl_pot sl_take sl_of sl_k0 sl_k1 sl_k2 sl_k3 sl_ism sl_alm sl_k4 sl_k5 sl_right sl_law sl_sin sl_pin sl_words_at sl_read_program sl_read_symbols sl_read_cell sl_read_part sl_is_new_name sl_read_whole_body sl_read_body sl_read_statement sl_given_by sl_setting_by sl_sum_by sl_condition_by sl_gin : Array (Option Value)}
    {oc_link kV_link dc_link pm_link ct_link cd_link oc_parse kV_parse dc_parse pm_parse ct_parse cd_parse oc_iol kV_iol dc_iol pm_iol ct_iol cd_iol oc_iio kV_iio dc_iio pm_iio ct_iio cd_iio oc_let kV_let dc_let pm_let ct_let cd_let oc_fst kV_fst dc_fst pm_fst ct_fst cd_fst oc_step kV_step dc_step pm_step ct_step cd_step oc_ends kV_ends dc_ends pm_ends ct_ends cd_ends oc_nxl kV_nxl dc_nxl pm_nxl ct_nxl cd_nxl oc_hol kV_hol dc_hol pm_hol ct_hol cd_hol oc_res kV_res dc_res pm_res ct_res cd_res oc_cea kV_cea dc_cea pm_cea ct_cea cd_cea oc_lat kV_lat dc_lat pm_lat ct_lat cd_lat oc_ist kV_ist dc_ist pm_ist ct_ist cd_ist oc_chk kV_chk dc_chk pm_chk ct_chk cd_chk oc_mar kV_mar dc_mar pm_mar ct_mar cd_mar oc_run kV_run dc_run pm_run ct_run cd_run oc_rop kV_rop dc_rop pm_rop ct_rop cd_rop oc_pot kV_pot dc_pot pm_pot ct_pot cd_pot oc_take kV_take dc_take pm_take ct_take cd_take oc_of kV_of dc_of pm_of ct_of cd_of oc_k0 kV_k0 dc_k0 pm_k0 ct_k0 oc_k1 kV_k1 dc_k1 pm_k1 ct_k1 oc_k2 kV_k2 dc_k2 pm_k2 ct_k2 oc_k3 kV_k3 dc_k3 pm_k3 ct_k3 oc_ism kV_ism dc_ism pm_ism ct_ism cd_ism oc_alm kV_alm dc_alm pm_alm ct_alm cd_alm oc_k4 kV_k4 dc_k4 pm_k4 ct_k4 oc_k5 kV_k5 dc_k5 pm_k5 ct_k5 oc_right kV_right dc_right pm_right ct_right oc_law kV_law dc_law pm_law ct_law cd_law oc_sin kV_sin dc_sin pm_sin ct_sin cd_sin oc_pin kV_pin dc_pin pm_pin ct_pin cd_pin oc_words_at kV_words_at dc_words_at pm_words_at ct_words_at cd_words_at oc_read_program kV_read_program dc_read_program pm_read_program ct_read_program cd_read_program oc_read_symbols kV_read_symbols dc_read_symbols pm_read_symbols ct_read_symbols cd_read_symbols oc_read_cell kV_read_cell dc_read_cell pm_read_cell ct_read_cell cd_read_cell oc_read_part kV_read_part dc_read_part pm_read_part ct_read_part cd_read_part oc_is_new_name kV_is_new_name dc_is_new_name pm_is_new_name ct_is_new_name cd_is_new_name oc_read_whole_body kV_read_whole_body dc_read_whole_body pm_read_whole_body ct_read_whole_body cd_read_whole_body oc_read_body kV_read_body dc_read_body pm_read_body ct_read_body cd_read_body oc_read_statement kV_read_statement dc_read_statement pm_read_statement ct_read_statement cd_read_statement oc_given_by kV_given_by dc_given_by pm_given_by ct_given_by cd_given_by oc_setting_by kV_setting_by dc_setting_by pm_setting_by ct_setting_by cd_setting_by oc_sum_by kV_sum_by dc_sum_by pm_sum_by ct_sum_by cd_sum_by oc_condition_by kV_condition_by dc_condition_by pm_condition_by ct_condition_by cd_condition_by oc_gin kV_gin dc_gin pm_gin ct_gin cd_gin : Value}
    {t1 t2 t3 t4 t5 t6 : Tok}
    {k_aV_0 k_aV_1 k_aV_2 k_aB_0 k_aB_1 k_aB_2 k_aB_3 k_aW_0 k_aW_1 k_aW_2 k_aW_3 k_aW_4 k_aW_5 k_aW_6 k_aW_7 k_aW_8 k_aW_9 k_aW_10 k_aW_11 k_aW_12 k_aW_13 k_aW_14 k_aW_15 k_aW_16 : Tok}
    {od_aV od_aB od_aW : Option Addr}
    {sl_aV sl_aB sl_aW : Array (Option Value)}
    {n_aV n_aB n_aW : Nat}
    {e1 e2 : DictEntry} {n_aMv : Nat} {kk1 kk2 kk3 kk4 : Tok}
    (a_C : PySem.W.nsIn K mainGlobals "Parser" = some (some (.ref C)))
    (pg_C : PySem.W.plainGet K C Str.empty = true)
    (hd_C : PySem.W.hasDictIn K C = true)
    (po_C : PySem.W.plainOver K C = true)
    (sa_C : PySem.W.findIn K (.ref C) "__setattr__" = some (some (.builtin "object.__setattr__")))
    (mk_C : PySem.W.makesIn K C = true)
    (kc_C : PySem.W.keepIn K (.ref C) = true)
    (n_C_lines : PySem.W.findIn K (.ref C) "lines" = some none)
    (n_C_number : PySem.W.findIn K (.ref C) "number" = some none)
    (n_C_symbols : PySem.W.findIn K (.ref C) "symbols" = some none)
    (n_C_mosts : PySem.W.findIn K (.ref C) "mosts" = some none)
    (n_C_starts : PySem.W.findIn K (.ref C) "starts" = some none)
    (n_C_statements : PySem.W.findIn K (.ref C) "statements" = some none)
    (n_C_first : PySem.W.findIn K (.ref C) "first" = some none)
    (a_CS : PySem.W.nsIn K mainGlobals "Statement" = some (some (.ref CS)))
    (pg_CS : PySem.W.plainGet K CS Str.empty = true)
    (hd_CS : PySem.W.hasDictIn K CS = true)
    (po_CS : PySem.W.plainOver K CS = true)
    (sa_CS : PySem.W.findIn K (.ref CS) "__setattr__" = some (some (.builtin "object.__setattr__")))
    (mk_CS : PySem.W.makesIn K CS = true)
    (kc_CS : PySem.W.keepIn K (.ref CS) = true)
    (n_CS_line : PySem.W.findIn K (.ref CS) "line" = some none)
    (n_CS_word : PySem.W.findIn K (.ref CS) "word" = some none)
    (n_CS_given : PySem.W.findIn K (.ref CS) "given" = some none)
    (n_CS_inside : PySem.W.findIn K (.ref CS) "inside" = some none)
    (n_CS_otherwise : PySem.W.findIn K (.ref CS) "otherwise" = some none)
    (n_CS_follow : PySem.W.findIn K (.ref CS) "follow" = some none)
    (a_CP : PySem.W.nsIn K mainGlobals "Program" = some (some (.ref CP)))
    (pg_CP : PySem.W.plainGet K CP Str.empty = true)
    (hd_CP : PySem.W.hasDictIn K CP = true)
    (po_CP : PySem.W.plainOver K CP = true)
    (sa_CP : PySem.W.findIn K (.ref CP) "__setattr__" = some (some (.builtin "object.__setattr__")))
    (mk_CP : PySem.W.makesIn K CP = true)
    (kc_CP : PySem.W.keepIn K (.ref CP) = true)
    (n_CP_text : PySem.W.findIn K (.ref CP) "text" = some none)
    (n_CP_symbols : PySem.W.findIn K (.ref CP) "symbols" = some none)
    (n_CP_cells : PySem.W.findIn K (.ref CP) "cells" = some none)
    (n_CP_parts : PySem.W.findIn K (.ref CP) "parts" = some none)
    (n_CP_statements : PySem.W.findIn K (.ref CP) "statements" = some none)
    (n_CP_first : PySem.W.findIn K (.ref CP) "first" = some none)
    (n_CP_letters : PySem.W.findIn K (.ref CP) "letters" = some none)
    (a_link : PySem.W.nsIn K mainGlobals "link" = some (some (.ref f_link)))
    (l_link : K.lookup f_link = some ⟨oc_link, od_link, .func (PySem.W.fnOf "link" "link" (defArgs s_link) (defBody s_link) (defScope s_link) .none kV_link dc_link pm_link an_link cd_link ct_link), sl_link⟩)
    (c_link : PySem.W.codeIn K cd_link "link" = true)
    (k_link : PySem.W.keepIn K (.ref f_link) = true)
    (a_parse : PySem.W.nsIn K mainGlobals "parse" = some (some (.ref f_parse)))
    (l_parse : K.lookup f_parse = some ⟨oc_parse, od_parse, .func (PySem.W.fnOf "parse" "parse" (defArgs s_parse) (defBody s_parse) (defScope s_parse) .none kV_parse dc_parse pm_parse an_parse cd_parse ct_parse), sl_parse⟩)
    (c_parse : PySem.W.codeIn K cd_parse "parse" = true)
    (k_parse : PySem.W.keepIn K (.ref f_parse) = true)
    (a_iol : PySem.W.nsIn K mainGlobals "is_of_letters" = some (some (.ref f_iol)))
    (l_iol : K.lookup f_iol = some ⟨oc_iol, od_iol, .func (PySem.W.fnOf "is_of_letters" "is_of_letters" (defArgs s_is_of_letters) (defBody s_is_of_letters) (defScope s_is_of_letters) .none kV_iol dc_iol pm_iol an_iol cd_iol ct_iol), sl_iol⟩)
    (c_iol : PySem.W.codeIn K cd_iol "is_of_letters" = true)
    (k_iol : PySem.W.keepIn K (.ref f_iol) = true)
    (a_iio : PySem.W.nsIn K mainGlobals "is_in_order" = some (some (.ref f_iio)))
    (l_iio : K.lookup f_iio = some ⟨oc_iio, od_iio, .func (PySem.W.fnOf "is_in_order" "is_in_order" (defArgs s_is_in_order) (defBody s_is_in_order) (defScope s_is_in_order) .none kV_iio dc_iio pm_iio an_iio cd_iio ct_iio), sl_iio⟩)
    (c_iio : PySem.W.codeIn K cd_iio "is_in_order" = true)
    (k_iio : PySem.W.keepIn K (.ref f_iio) = true)
    (a_let : PySem.W.nsIn K mainGlobals "letters_of" = some (some (.ref f_let)))
    (l_let : K.lookup f_let = some ⟨oc_let, od_let, .func (PySem.W.fnOf "letters_of" "letters_of" (defArgs s_letters_of) (defBody s_letters_of) (defScope s_letters_of) .none kV_let dc_let pm_let an_let cd_let ct_let), sl_let⟩)
    (c_let : PySem.W.codeIn K cd_let "letters_of" = true)
    (k_let : PySem.W.keepIn K (.ref f_let) = true)
    (a_fst : PySem.W.nsIn K mainGlobals "first_state" = some (some (.ref f_fst)))
    (l_fst : K.lookup f_fst = some ⟨oc_fst, od_fst, .func (PySem.W.fnOf "first_state" "first_state" (defArgs s_first_state) (defBody s_first_state) (defScope s_first_state) .none kV_fst dc_fst pm_fst an_fst cd_fst ct_fst), sl_fst⟩)
    (c_fst : PySem.W.codeIn K cd_fst "first_state" = true)
    (k_fst : PySem.W.keepIn K (.ref f_fst) = true)
    (a_step : PySem.W.nsIn K mainGlobals "step" = some (some (.ref f_step)))
    (l_step : K.lookup f_step = some ⟨oc_step, od_step, .func (PySem.W.fnOf "step" "step" (defArgs s_step) (defBody s_step) (defScope s_step) .none kV_step dc_step pm_step an_step cd_step ct_step), sl_step⟩)
    (c_step : PySem.W.codeIn K cd_step "step" = true)
    (k_step : PySem.W.keepIn K (.ref f_step) = true)
    (a_ends : PySem.W.nsIn K mainGlobals "ends_run" = some (some (.ref f_ends)))
    (l_ends : K.lookup f_ends = some ⟨oc_ends, od_ends, .func (PySem.W.fnOf "ends_run" "ends_run" (defArgs s_ends_run) (defBody s_ends_run) (defScope s_ends_run) .none kV_ends dc_ends pm_ends an_ends cd_ends ct_ends), sl_ends⟩)
    (c_ends : PySem.W.codeIn K cd_ends "ends_run" = true)
    (k_ends : PySem.W.keepIn K (.ref f_ends) = true)
    (a_nxl : PySem.W.nsIn K mainGlobals "next_line" = some (some (.ref f_nxl)))
    (l_nxl : K.lookup f_nxl = some ⟨oc_nxl, od_nxl, .func (PySem.W.fnOf "next_line" "next_line" (defArgs s_next_line) (defBody s_next_line) (defScope s_next_line) .none kV_nxl dc_nxl pm_nxl an_nxl cd_nxl ct_nxl), sl_nxl⟩)
    (c_nxl : PySem.W.codeIn K cd_nxl "next_line" = true)
    (k_nxl : PySem.W.keepIn K (.ref f_nxl) = true)
    (a_hol : PySem.W.nsIn K mainGlobals "holds" = some (some (.ref f_hol)))
    (l_hol : K.lookup f_hol = some ⟨oc_hol, od_hol, .func (PySem.W.fnOf "holds" "holds" (defArgs s_holds) (defBody s_holds) (defScope s_holds) .none kV_hol dc_hol pm_hol an_hol cd_hol ct_hol), sl_hol⟩)
    (c_hol : PySem.W.codeIn K cd_hol "holds" = true)
    (k_hol : PySem.W.keepIn K (.ref f_hol) = true)
    (a_res : PySem.W.nsIn K mainGlobals "resumed" = some (some (.ref f_res)))
    (l_res : K.lookup f_res = some ⟨oc_res, od_res, .func (PySem.W.fnOf "resumed" "resumed" (defArgs s_resumed) (defBody s_resumed) (defScope s_resumed) .none kV_res dc_res pm_res an_res cd_res ct_res), sl_res⟩)
    (c_res : PySem.W.codeIn K cd_res "resumed" = true)
    (k_res : PySem.W.keepIn K (.ref f_res) = true)
    (a_cea : PySem.W.nsIn K mainGlobals "cells_after" = some (some (.ref f_cea)))
    (l_cea : K.lookup f_cea = some ⟨oc_cea, od_cea, .func (PySem.W.fnOf "cells_after" "cells_after" (defArgs s_cells_after) (defBody s_cells_after) (defScope s_cells_after) .none kV_cea dc_cea pm_cea an_cea cd_cea ct_cea), sl_cea⟩)
    (c_cea : PySem.W.codeIn K cd_cea "cells_after" = true)
    (k_cea : PySem.W.keepIn K (.ref f_cea) = true)
    (a_lat : PySem.W.nsIn K mainGlobals "letter_at" = some (some (.ref f_lat)))
    (l_lat : K.lookup f_lat = some ⟨oc_lat, od_lat, .func (PySem.W.fnOf "letter_at" "letter_at" (defArgs s_letter_at) (defBody s_letter_at) (defScope s_letter_at) .none kV_lat dc_lat pm_lat an_lat cd_lat ct_lat), sl_lat⟩)
    (c_lat : PySem.W.codeIn K cd_lat "letter_at" = true)
    (k_lat : PySem.W.keepIn K (.ref f_lat) = true)
    (a_ist : PySem.W.nsIn K mainGlobals "is_text" = some (some (.ref f_ist)))
    (l_ist : K.lookup f_ist = some ⟨oc_ist, od_ist, .func (PySem.W.fnOf "is_text" "is_text" (defArgs s_is_text) (defBody s_is_text) (defScope s_is_text) .none kV_ist dc_ist pm_ist an_ist cd_ist ct_ist), sl_ist⟩)
    (c_ist : PySem.W.codeIn K cd_ist "is_text" = true)
    (k_ist : PySem.W.keepIn K (.ref f_ist) = true)
    (a_chk : PySem.W.nsIn K mainGlobals "check_text" = some (some (.ref f_chk)))
    (l_chk : K.lookup f_chk = some ⟨oc_chk, od_chk, .func (PySem.W.fnOf "check_text" "check_text" (defArgs s_check_text) (defBody s_check_text) (defScope s_check_text) .none kV_chk dc_chk pm_chk an_chk cd_chk ct_chk), sl_chk⟩)
    (c_chk : PySem.W.codeIn K cd_chk "check_text" = true)
    (k_chk : PySem.W.keepIn K (.ref f_chk) = true)
    (a_mar : PySem.W.nsIn K mainGlobals "marked" = some (some (.ref f_mar)))
    (l_mar : K.lookup f_mar = some ⟨oc_mar, od_mar, .func (PySem.W.fnOf "marked" "marked" (defArgs s_marked) (defBody s_marked) (defScope s_marked) .none kV_mar dc_mar pm_mar an_mar cd_mar ct_mar), sl_mar⟩)
    (c_mar : PySem.W.codeIn K cd_mar "marked" = true)
    (k_mar : PySem.W.keepIn K (.ref f_mar) = true)
    (a_run : PySem.W.nsIn K mainGlobals "run" = some (some (.ref f_run)))
    (l_run : K.lookup f_run = some ⟨oc_run, od_run, .func (PySem.W.fnOf "run" "run" (defArgs s_run) (defBody s_run) (defScope s_run) .none kV_run dc_run pm_run an_run cd_run ct_run), sl_run⟩)
    (c_run : PySem.W.codeIn K cd_run "run" = true)
    (k_run : PySem.W.keepIn K (.ref f_run) = true)
    (a_rop : PySem.W.nsIn K mainGlobals "run_of_program" = some (some (.ref f_rop)))
    (l_rop : K.lookup f_rop = some ⟨oc_rop, od_rop, .func (PySem.W.fnOf "run_of_program" "run_of_program" (defArgs s_run_of_program) (defBody s_run_of_program) (defScope s_run_of_program) .none kV_rop dc_rop pm_rop an_rop cd_rop ct_rop), sl_rop⟩)
    (c_rop : PySem.W.codeIn K cd_rop "run_of_program" = true)
    (k_rop : PySem.W.keepIn K (.ref f_rop) = true)
    (a_pot : PySem.W.nsIn K mainGlobals "_law_pot_of" = some (some (.ref f_pot)))
    (l_pot : K.lookup f_pot = some ⟨oc_pot, od_pot, .func (PySem.W.fnOf "_law_pot_of" "_law_pot_of" (defArgs s__law_pot_of) (defBody s__law_pot_of) (defScope s__law_pot_of) .none kV_pot dc_pot pm_pot an_pot cd_pot ct_pot), sl_pot⟩)
    (c_pot : PySem.W.codeIn K cd_pot "_law_pot_of" = true)
    (k_pot : PySem.W.keepIn K (.ref f_pot) = true)
    (a_take : PySem.W.nsIn K mainGlobals "_law_take" = some (some (.ref f_take)))
    (l_take : K.lookup f_take = some ⟨oc_take, od_take, .func (PySem.W.fnOf "_law_take" "_law_take" (defArgs s__law_take) (defBody s__law_take) (defScope s__law_take) .none kV_take dc_take pm_take an_take cd_take ct_take), sl_take⟩)
    (c_take : PySem.W.codeIn K cd_take "_law_take" = true)
    (k_take : PySem.W.keepIn K (.ref f_take) = true)
    (a_of : PySem.W.nsIn K mainGlobals "_law_of" = some (some (.ref f_of)))
    (l_of : K.lookup f_of = some ⟨oc_of, od_of, .func (PySem.W.fnOf "_law_of" "_law_of" (defArgs s__law_of) (defBody s__law_of) (defScope s__law_of) .none kV_of dc_of pm_of an_of cd_of ct_of), sl_of⟩)
    (c_of : PySem.W.codeIn K cd_of "_law_of" = true)
    (k_of : PySem.W.keepIn K (.ref f_of) = true)
    (a_k0 : PySem.W.nsIn K mainGlobals "_law_counted" = some (some (.ref f_k0)))
    (l_k0 : K.lookup f_k0 = some ⟨oc_k0, od_k0, .func (PySem.W.fnOf "_law_counted" "_law_counted" (defArgs s__law_counted) (defBody s__law_counted) (defScope s__law_counted) .none kV_k0 dc_k0 pm_k0 an_k0 (.ref c0) ct_k0), sl_k0⟩)
    (c_k0 : PySem.W.codeIn K (.ref c0) "_law_counted" = true)
    (k_k0 : PySem.W.keepIn K (.ref f_k0) = true)
    (a_k1 : PySem.W.nsIn K mainGlobals "_law_parity" = some (some (.ref f_k1)))
    (l_k1 : K.lookup f_k1 = some ⟨oc_k1, od_k1, .func (PySem.W.fnOf "_law_parity" "_law_parity" (defArgs s__law_parity) (defBody s__law_parity) (defScope s__law_parity) .none kV_k1 dc_k1 pm_k1 an_k1 (.ref c1) ct_k1), sl_k1⟩)
    (c_k1 : PySem.W.codeIn K (.ref c1) "_law_parity" = true)
    (k_k1 : PySem.W.keepIn K (.ref f_k1) = true)
    (a_k2 : PySem.W.nsIn K mainGlobals "_law_nested" = some (some (.ref f_k2)))
    (l_k2 : K.lookup f_k2 = some ⟨oc_k2, od_k2, .func (PySem.W.fnOf "_law_nested" "_law_nested" (defArgs s__law_nested) (defBody s__law_nested) (defScope s__law_nested) .none kV_k2 dc_k2 pm_k2 an_k2 (.ref c2) ct_k2), sl_k2⟩)
    (c_k2 : PySem.W.codeIn K (.ref c2) "_law_nested" = true)
    (k_k2 : PySem.W.keepIn K (.ref f_k2) = true)
    (a_k3 : PySem.W.nsIn K mainGlobals "_law_stopped" = some (some (.ref f_k3)))
    (l_k3 : K.lookup f_k3 = some ⟨oc_k3, od_k3, .func (PySem.W.fnOf "_law_stopped" "_law_stopped" (defArgs s__law_stopped) (defBody s__law_stopped) (defScope s__law_stopped) .none kV_k3 dc_k3 pm_k3 an_k3 (.ref c3) ct_k3), sl_k3⟩)
    (c_k3 : PySem.W.codeIn K (.ref c3) "_law_stopped" = true)
    (k_k3 : PySem.W.keepIn K (.ref f_k3) = true)
    (a_ism : PySem.W.nsIn K mainGlobals "_law_is_marked" = some (some (.ref f_ism)))
    (l_ism : K.lookup f_ism = some ⟨oc_ism, od_ism, .func (PySem.W.fnOf "_law_is_marked" "_law_is_marked" (defArgs s__law_is_marked) (defBody s__law_is_marked) (defScope s__law_is_marked) .none kV_ism dc_ism pm_ism an_ism cd_ism ct_ism), sl_ism⟩)
    (c_ism : PySem.W.codeIn K cd_ism "_law_is_marked" = true)
    (k_ism : PySem.W.keepIn K (.ref f_ism) = true)
    (a_alm : PySem.W.nsIn K mainGlobals "_law_all_marked" = some (some (.ref f_alm)))
    (l_alm : K.lookup f_alm = some ⟨oc_alm, od_alm, .func (PySem.W.fnOf "_law_all_marked" "_law_all_marked" (defArgs s__law_all_marked) (defBody s__law_all_marked) (defScope s__law_all_marked) .none kV_alm dc_alm pm_alm an_alm cd_alm ct_alm), sl_alm⟩)
    (c_alm : PySem.W.codeIn K cd_alm "_law_all_marked" = true)
    (k_alm : PySem.W.keepIn K (.ref f_alm) = true)
    (a_k4 : PySem.W.nsIn K mainGlobals "_law_two_cells" = some (some (.ref f_k4)))
    (l_k4 : K.lookup f_k4 = some ⟨oc_k4, od_k4, .func (PySem.W.fnOf "_law_two_cells" "_law_two_cells" (defArgs s__law_two_cells) (defBody s__law_two_cells) (defScope s__law_two_cells) .none kV_k4 dc_k4 pm_k4 an_k4 (.ref c4) ct_k4), sl_k4⟩)
    (c_k4 : PySem.W.codeIn K (.ref c4) "_law_two_cells" = true)
    (k_k4 : PySem.W.keepIn K (.ref f_k4) = true)
    (a_k5 : PySem.W.nsIn K mainGlobals "_law_remembered" = some (some (.ref f_k5)))
    (l_k5 : K.lookup f_k5 = some ⟨oc_k5, od_k5, .func (PySem.W.fnOf "_law_remembered" "_law_remembered" (defArgs s__law_remembered) (defBody s__law_remembered) (defScope s__law_remembered) .none kV_k5 dc_k5 pm_k5 an_k5 (.ref c5) ct_k5), sl_k5⟩)
    (c_k5 : PySem.W.codeIn K (.ref c5) "_law_remembered" = true)
    (k_k5 : PySem.W.keepIn K (.ref f_k5) = true)
    (a_right : PySem.W.nsIn K mainGlobals "_law_right" = some (some (.ref f_right)))
    (l_right : K.lookup f_right = some ⟨oc_right, od_right, .func (PySem.W.fnOf "_law_right" "_law_right" (defArgs s__law_right) (defBody s__law_right) (defScope s__law_right) .none kV_right dc_right pm_right an_right (.ref c6) ct_right), sl_right⟩)
    (c_right : PySem.W.codeIn K (.ref c6) "_law_right" = true)
    (k_right : PySem.W.keepIn K (.ref f_right) = true)
    (a_law : PySem.W.nsIn K mainGlobals "law" = some (some (.ref f_law)))
    (l_law : K.lookup f_law = some ⟨oc_law, od_law, .func (PySem.W.fnOf "law" "law" (defArgs s_law) (defBody s_law) (defScope s_law) .none kV_law dc_law pm_law an_law cd_law ct_law), sl_law⟩)
    (c_law : PySem.W.codeIn K cd_law "law" = true)
    (k_law : PySem.W.keepIn K (.ref f_law) = true)
    (a_sin : PySem.W.findIn K (.ref CS) "__init__" = some (some (.ref f_sin)))
    (i_sin : PySem.W.isFn K (.ref f_sin) = true)
    (l_sin : K.lookup f_sin = some ⟨oc_sin, od_sin, .func (PySem.W.fnOf "__init__" "Statement.__init__" (defArgs s_Statement___init__) (defBody s_Statement___init__) (defScope s_Statement___init__) .none kV_sin dc_sin pm_sin an_sin cd_sin ct_sin), sl_sin⟩)
    (c_sin : PySem.W.codeIn K cd_sin "Statement.__init__" = true)
    (k_sin : PySem.W.keepIn K (.ref f_sin) = true)
    (a_pin : PySem.W.findIn K (.ref C) "__init__" = some (some (.ref f_pin)))
    (i_pin : PySem.W.isFn K (.ref f_pin) = true)
    (l_pin : K.lookup f_pin = some ⟨oc_pin, od_pin, .func (PySem.W.fnOf "__init__" "Parser.__init__" (defArgs s_Parser_init) (defBody s_Parser_init) (defScope s_Parser_init) .none kV_pin dc_pin pm_pin an_pin cd_pin ct_pin), sl_pin⟩)
    (c_pin : PySem.W.codeIn K cd_pin "Parser.__init__" = true)
    (k_pin : PySem.W.keepIn K (.ref f_pin) = true)
    (a_words_at : PySem.W.findIn K (.ref C) "words_at" = some (some (.ref f_words_at)))
    (i_words_at : PySem.W.isFn K (.ref f_words_at) = true)
    (l_words_at : K.lookup f_words_at = some ⟨oc_words_at, od_words_at, .func (PySem.W.fnOf "words_at" "Parser.words_at" (defArgs s_Parser_words_at) (defBody s_Parser_words_at) (defScope s_Parser_words_at) .none kV_words_at dc_words_at pm_words_at an_words_at cd_words_at ct_words_at), sl_words_at⟩)
    (c_words_at : PySem.W.codeIn K cd_words_at "Parser.words_at" = true)
    (k_words_at : PySem.W.keepIn K (.ref f_words_at) = true)
    (a_read_program : PySem.W.findIn K (.ref C) "read_program" = some (some (.ref f_read_program)))
    (i_read_program : PySem.W.isFn K (.ref f_read_program) = true)
    (l_read_program : K.lookup f_read_program = some ⟨oc_read_program, od_read_program, .func (PySem.W.fnOf "read_program" "Parser.read_program" (defArgs s_Parser_read_program) (defBody s_Parser_read_program) (defScope s_Parser_read_program) .none kV_read_program dc_read_program pm_read_program an_read_program cd_read_program ct_read_program), sl_read_program⟩)
    (c_read_program : PySem.W.codeIn K cd_read_program "Parser.read_program" = true)
    (k_read_program : PySem.W.keepIn K (.ref f_read_program) = true)
    (a_read_symbols : PySem.W.findIn K (.ref C) "read_symbols" = some (some (.ref f_read_symbols)))
    (i_read_symbols : PySem.W.isFn K (.ref f_read_symbols) = true)
    (l_read_symbols : K.lookup f_read_symbols = some ⟨oc_read_symbols, od_read_symbols, .func (PySem.W.fnOf "read_symbols" "Parser.read_symbols" (defArgs s_Parser_read_symbols) (defBody s_Parser_read_symbols) (defScope s_Parser_read_symbols) .none kV_read_symbols dc_read_symbols pm_read_symbols an_read_symbols cd_read_symbols ct_read_symbols), sl_read_symbols⟩)
    (c_read_symbols : PySem.W.codeIn K cd_read_symbols "Parser.read_symbols" = true)
    (k_read_symbols : PySem.W.keepIn K (.ref f_read_symbols) = true)
    (a_read_cell : PySem.W.findIn K (.ref C) "read_cell" = some (some (.ref f_read_cell)))
    (i_read_cell : PySem.W.isFn K (.ref f_read_cell) = true)
    (l_read_cell : K.lookup f_read_cell = some ⟨oc_read_cell, od_read_cell, .func (PySem.W.fnOf "read_cell" "Parser.read_cell" (defArgs s_Parser_read_cell) (defBody s_Parser_read_cell) (defScope s_Parser_read_cell) .none kV_read_cell dc_read_cell pm_read_cell an_read_cell cd_read_cell ct_read_cell), sl_read_cell⟩)
    (c_read_cell : PySem.W.codeIn K cd_read_cell "Parser.read_cell" = true)
    (k_read_cell : PySem.W.keepIn K (.ref f_read_cell) = true)
    (a_read_part : PySem.W.findIn K (.ref C) "read_part" = some (some (.ref f_read_part)))
    (i_read_part : PySem.W.isFn K (.ref f_read_part) = true)
    (l_read_part : K.lookup f_read_part = some ⟨oc_read_part, od_read_part, .func (PySem.W.fnOf "read_part" "Parser.read_part" (defArgs s_Parser_read_part) (defBody s_Parser_read_part) (defScope s_Parser_read_part) .none kV_read_part dc_read_part pm_read_part an_read_part cd_read_part ct_read_part), sl_read_part⟩)
    (c_read_part : PySem.W.codeIn K cd_read_part "Parser.read_part" = true)
    (k_read_part : PySem.W.keepIn K (.ref f_read_part) = true)
    (a_is_new_name : PySem.W.findIn K (.ref C) "is_new_name" = some (some (.ref f_is_new_name)))
    (i_is_new_name : PySem.W.isFn K (.ref f_is_new_name) = true)
    (l_is_new_name : K.lookup f_is_new_name = some ⟨oc_is_new_name, od_is_new_name, .func (PySem.W.fnOf "is_new_name" "Parser.is_new_name" (defArgs s_Parser_is_new_name) (defBody s_Parser_is_new_name) (defScope s_Parser_is_new_name) .none kV_is_new_name dc_is_new_name pm_is_new_name an_is_new_name cd_is_new_name ct_is_new_name), sl_is_new_name⟩)
    (c_is_new_name : PySem.W.codeIn K cd_is_new_name "Parser.is_new_name" = true)
    (k_is_new_name : PySem.W.keepIn K (.ref f_is_new_name) = true)
    (a_read_whole_body : PySem.W.findIn K (.ref C) "read_whole_body" = some (some (.ref f_read_whole_body)))
    (i_read_whole_body : PySem.W.isFn K (.ref f_read_whole_body) = true)
    (l_read_whole_body : K.lookup f_read_whole_body = some ⟨oc_read_whole_body, od_read_whole_body, .func (PySem.W.fnOf "read_whole_body" "Parser.read_whole_body" (defArgs s_Parser_read_whole_body) (defBody s_Parser_read_whole_body) (defScope s_Parser_read_whole_body) .none kV_read_whole_body dc_read_whole_body pm_read_whole_body an_read_whole_body cd_read_whole_body ct_read_whole_body), sl_read_whole_body⟩)
    (c_read_whole_body : PySem.W.codeIn K cd_read_whole_body "Parser.read_whole_body" = true)
    (k_read_whole_body : PySem.W.keepIn K (.ref f_read_whole_body) = true)
    (a_read_body : PySem.W.findIn K (.ref C) "read_body" = some (some (.ref f_read_body)))
    (i_read_body : PySem.W.isFn K (.ref f_read_body) = true)
    (l_read_body : K.lookup f_read_body = some ⟨oc_read_body, od_read_body, .func (PySem.W.fnOf "read_body" "Parser.read_body" (defArgs s_Parser_read_body) (defBody s_Parser_read_body) (defScope s_Parser_read_body) .none kV_read_body dc_read_body pm_read_body an_read_body cd_read_body ct_read_body), sl_read_body⟩)
    (c_read_body : PySem.W.codeIn K cd_read_body "Parser.read_body" = true)
    (k_read_body : PySem.W.keepIn K (.ref f_read_body) = true)
    (a_read_statement : PySem.W.findIn K (.ref C) "read_statement" = some (some (.ref f_read_statement)))
    (i_read_statement : PySem.W.isFn K (.ref f_read_statement) = true)
    (l_read_statement : K.lookup f_read_statement = some ⟨oc_read_statement, od_read_statement, .func (PySem.W.fnOf "read_statement" "Parser.read_statement" (defArgs s_Parser_read_statement) (defBody s_Parser_read_statement) (defScope s_Parser_read_statement) .none kV_read_statement dc_read_statement pm_read_statement an_read_statement cd_read_statement ct_read_statement), sl_read_statement⟩)
    (c_read_statement : PySem.W.codeIn K cd_read_statement "Parser.read_statement" = true)
    (k_read_statement : PySem.W.keepIn K (.ref f_read_statement) = true)
    (a_given_by : PySem.W.findIn K (.ref C) "given_by" = some (some (.ref f_given_by)))
    (i_given_by : PySem.W.isFn K (.ref f_given_by) = true)
    (l_given_by : K.lookup f_given_by = some ⟨oc_given_by, od_given_by, .func (PySem.W.fnOf "given_by" "Parser.given_by" (defArgs s_Parser_given_by) (defBody s_Parser_given_by) (defScope s_Parser_given_by) .none kV_given_by dc_given_by pm_given_by an_given_by cd_given_by ct_given_by), sl_given_by⟩)
    (c_given_by : PySem.W.codeIn K cd_given_by "Parser.given_by" = true)
    (k_given_by : PySem.W.keepIn K (.ref f_given_by) = true)
    (a_setting_by : PySem.W.findIn K (.ref C) "setting_by" = some (some (.ref f_setting_by)))
    (i_setting_by : PySem.W.isFn K (.ref f_setting_by) = true)
    (l_setting_by : K.lookup f_setting_by = some ⟨oc_setting_by, od_setting_by, .func (PySem.W.fnOf "setting_by" "Parser.setting_by" (defArgs s_Parser_setting_by) (defBody s_Parser_setting_by) (defScope s_Parser_setting_by) .none kV_setting_by dc_setting_by pm_setting_by an_setting_by cd_setting_by ct_setting_by), sl_setting_by⟩)
    (c_setting_by : PySem.W.codeIn K cd_setting_by "Parser.setting_by" = true)
    (k_setting_by : PySem.W.keepIn K (.ref f_setting_by) = true)
    (a_sum_by : PySem.W.findIn K (.ref C) "sum_by" = some (some (.ref f_sum_by)))
    (i_sum_by : PySem.W.isFn K (.ref f_sum_by) = true)
    (l_sum_by : K.lookup f_sum_by = some ⟨oc_sum_by, od_sum_by, .func (PySem.W.fnOf "sum_by" "Parser.sum_by" (defArgs s_Parser_sum_by) (defBody s_Parser_sum_by) (defScope s_Parser_sum_by) .none kV_sum_by dc_sum_by pm_sum_by an_sum_by cd_sum_by ct_sum_by), sl_sum_by⟩)
    (c_sum_by : PySem.W.codeIn K cd_sum_by "Parser.sum_by" = true)
    (k_sum_by : PySem.W.keepIn K (.ref f_sum_by) = true)
    (a_condition_by : PySem.W.findIn K (.ref C) "condition_by" = some (some (.ref f_condition_by)))
    (i_condition_by : PySem.W.isFn K (.ref f_condition_by) = true)
    (l_condition_by : K.lookup f_condition_by = some ⟨oc_condition_by, od_condition_by, .func (PySem.W.fnOf "condition_by" "Parser.condition_by" (defArgs s_Parser_condition_by) (defBody s_Parser_condition_by) (defScope s_Parser_condition_by) .none kV_condition_by dc_condition_by pm_condition_by an_condition_by cd_condition_by ct_condition_by), sl_condition_by⟩)
    (c_condition_by : PySem.W.codeIn K cd_condition_by "Parser.condition_by" = true)
    (k_condition_by : PySem.W.keepIn K (.ref f_condition_by) = true)
    (a_gin : PySem.W.findIn K (.ref CP) "__init__" = some (some (.ref f_gin)))
    (i_gin : PySem.W.isFn K (.ref f_gin) = true)
    (l_gin : K.lookup f_gin = some ⟨oc_gin, od_gin, .func (PySem.W.fnOf "__init__" "Program.__init__" (defArgs s_Program_init) (defBody s_Program_init) (defScope s_Program_init) .none kV_gin dc_gin pm_gin an_gin cd_gin ct_gin), sl_gin⟩)
    (c_gin : PySem.W.codeIn K cd_gin "Program.__init__" = true)
    (k_gin : PySem.W.keepIn K (.ref f_gin) = true)
    (z_enumerate : PySem.W.nsIn K mainGlobals "enumerate" = some none)
    (z_dict : PySem.W.nsIn K mainGlobals "dict" = some none)
    (z_len : PySem.W.nsIn K mainGlobals "len" = some none)
    (z_int : PySem.W.nsIn K mainGlobals "int" = some none)
    (z_abs : PySem.W.nsIn K mainGlobals "abs" = some none)
    (z_str : PySem.W.nsIn K mainGlobals "str" = some none)
    (z_list : PySem.W.nsIn K mainGlobals "list" = some none)
    (z_tuple : PySem.W.nsIn K mainGlobals "tuple" = some none)
    (z_range : PySem.W.nsIn K mainGlobals "range" = some none)
    (z_all : PySem.W.nsIn K mainGlobals "all" = some none)
    (z_sorted : PySem.W.nsIn K mainGlobals "sorted" = some none)
    (z_set : PySem.W.nsIn K mainGlobals "set" = some none)
    (z_zip : PySem.W.nsIn K mainGlobals "zip" = some none)
    (z_isinstance : PySem.W.nsIn K mainGlobals "isinstance" = some none)
    (z_bool : PySem.W.nsIn K mainGlobals "bool" = some none)
    (z_repr : PySem.W.nsIn K mainGlobals "repr" = some none)
    (z_max : PySem.W.nsIn K mainGlobals "max" = some none)
    (z_min : PySem.W.nsIn K mainGlobals "min" = some none)
    (v_ALPHABET : PySem.W.nsIn K mainGlobals "ALPHABET" = some (some (.str alpha t1)))
    (v_MOST_CELLS : PySem.W.nsIn K mainGlobals "MOST_CELLS" = some (some (.int 2 t2)))
    (v_MOST_PARTS : PySem.W.nsIn K mainGlobals "MOST_PARTS" = some (some (.int 2 t3)))
    (v_MOST_STATEMENTS : PySem.W.nsIn K mainGlobals "MOST_STATEMENTS" = some (some (.int 20 t4)))
    (v_MOST_BODIES : PySem.W.nsIn K mainGlobals "MOST_BODIES" = some (some (.int 4 t5)))
    (v_LONGEST_NAME : PySem.W.nsIn K mainGlobals "LONGEST_NAME" = some (some (.int 8 t6)))
    (v_VALUES : PySem.W.nsIn K mainGlobals "VALUES" = some (some (.ref aV)))
    (l_VALUES : K.lookup aV = some ⟨.type "tuple", od_aV, .seq #[.str "0" k_aV_0, .str "1" k_aV_1, .str "2" k_aV_2] n_aV, sl_aV⟩)
    (v_BARE_WORDS : PySem.W.nsIn K mainGlobals "BARE_WORDS" = some (some (.ref aB)))
    (l_BARE_WORDS : K.lookup aB = some ⟨.type "tuple", od_aB, .seq #[.str "right" k_aB_0, .str "left" k_aB_1, .str "copy" k_aB_2, .str "stop" k_aB_3] n_aB, sl_aB⟩)
    (v_WORDS : PySem.W.nsIn K mainGlobals "WORDS" = some (some (.ref aW)))
    (l_WORDS : K.lookup aW = some ⟨.type "tuple", od_aW, .seq #[.str "symbols" k_aW_0, .str "cell" k_aW_1, .str "part" k_aW_2, .str "main" k_aW_3, .str "right" k_aW_4, .str "left" k_aW_5, .str "write" k_aW_6, .str "copy" k_aW_7, .str "set" k_aW_8, .str "add" k_aW_9, .str "if" k_aW_10, .str "else" k_aW_11, .str "while" k_aW_12, .str "do" k_aW_13, .str "stop" k_aW_14, .str "at" k_aW_15, .str "not" k_aW_16] n_aW, sl_aW⟩)
    (v_MOVES : PySem.W.nsIn K mainGlobals "MOVES" = some (some (.ref aMv)))
    (l_MOVES : K.lookup aMv = some ⟨.type "dict", none, .dict #[e1, e2] n_aMv, #[]⟩)
    (q1_MOVES : e1.key = .str "right" kk1)
    (q2_MOVES : e2.key = .str "left" kk2)
    (u1_MOVES : e1.val = .int 1 kk3)
    (u2_MOVES : e2.val = .int (-1) kk4)
    (lit_MOVES : PySem.W.KeysLit w.params [e1, e2])
    (low_MOVES : (aMv == sysModules) = false)
    (a_CC : PySem.W.nsIn K mainGlobals "Chain" = some (some (.ref CC)))
    (hkit : PySem.W.kitOne K (.ref CP) (.ref CC) = some false)
    (i_ha : PySem.W.findIn K (.ref CP) "__class__" = some (some (.builtin "object.__class__")))
    (i_hn : PySem.W.specialIn K (.builtin "object.__class__") "__get__" = some (some (.builtin "getset_descriptor.__get__")))
    (i_htk : PySem.W.takesIn K (.builtin "object.__class__") = some true)
    (i_hm : PySem.W.mroIn K CP (.type "object") = some true)
    (d1 : CP ≠ CS)
    (d2 : CP ≠ C)
    (d3 : C ≠ CS)
    (nT : PySem.W.noTabs K = true)
    (t0_ : PySem.W.tabIn K "_law_counted" = some (c0, P0))
    (t1_ : PySem.W.tabIn K "_law_parity" = some (c1, P1))
    (t2_ : PySem.W.tabIn K "_law_nested" = some (c2, P2))
    (t3_ : PySem.W.tabIn K "_law_stopped" = some (c3, P3))
    (t4_ : PySem.W.tabIn K "_law_two_cells" = some (c4, P4))
    (t5_ : PySem.W.tabIn K "_law_remembered" = some (c5, P5))
    (t6_ : PySem.W.tabIn K "_law_right" = some (c6, P6))
    (dP : ([P0, P1, P2, P3, P4, P5, P6] : List Addr).Nodup) :
    PySem.W.noTabs K = true ∧ (∀ p ∈ [(c0, P0), (c1, P1), (c2, P2), (c3, P3), (c4, P4), (c5, P5), (c6, P6)], ∃ x ∈ (["_law_counted", "_law_parity", "_law_nested", "_law_stopped", "_law_two_cells", "_law_remembered", "_law_right"] : List Str), PySem.W.tabIn K x = some p) ∧ ∃ fd : FuncData, (∀ (s : Shared) (v : Value), BindsTo s fd ⟨[v], []⟩ [("_law_script", v)]) ∧ ∀ base : Heap, K.In base → base.Ns mainGlobals mg → (∀ q ∈ [(c0, P0), (c1, P1), (c2, P2), (c3, P3), (c4, P4), (c5, P5), (c6, P6)], TabB base mg q.1 q.2) → FnOkG l.prog w K mg base 20 fa fd ["_law_script"] (spLaw K (tabs7 [(c0, P0), (c1, P1), (c2, P2), (c3, P3), (c4, P4), (c5, P5), (c6, P6)])) := by
  have e := hfa.symm.trans (PySem.W.mg_of X G a_law)
  cases e
  have F_link := fun_mk (st := s_link) l_link c_link k_link
  have b_link := F_link.binds (ps := ["body", "end"]) fun _ _ _ _ _ _ us hl => match us, hl with | [_, _], _ => rfl
  have m_link := PySem.W.mg_of X G a_link
  have F_parse := fun_mk (st := s_parse) l_parse c_parse k_parse
  have b_parse := F_parse.binds (ps := ["text"]) fun _ _ _ _ _ _ us hl => match us, hl with | [_], _ => rfl
  have m_parse := PySem.W.mg_of X G a_parse
  have F_iol := fun_mk (st := s_is_of_letters) l_iol c_iol k_iol
  have b_iol := F_iol.binds (ps := ["word"]) fun _ _ _ _ _ _ us hl => match us, hl with | [_], _ => rfl
  have m_iol := PySem.W.mg_of X G a_iol
  have F_iio := fun_mk (st := s_is_in_order) l_iio c_iio k_iio
  have b_iio := F_iio.binds (ps := ["word", "order"]) fun _ _ _ _ _ _ us hl => match us, hl with | [_, _], _ => rfl
  have m_iio := PySem.W.mg_of X G a_iio
  have F_let := fun_mk (st := s_letters_of) l_let c_let k_let
  have b_let := F_let.binds (ps := ["program"]) fun _ _ _ _ _ _ us hl => match us, hl with | [_], _ => rfl
  have m_let := PySem.W.mg_of X G a_let
  have F_fst := fun_mk (st := s_first_state) l_fst c_fst k_fst
  have b_fst := F_fst.binds (ps := ["program"]) fun _ _ _ _ _ _ us hl => match us, hl with | [_], _ => rfl
  have m_fst := PySem.W.mg_of X G a_fst
  have F_step := fun_mk (st := s_step) l_step c_step k_step
  have b_step := F_step.binds (ps := ["program", "state", "sign"]) fun _ _ _ _ _ _ us hl => match us, hl with | [_, _, _], _ => rfl
  have m_step := PySem.W.mg_of X G a_step
  have F_ends := fun_mk (st := s_ends_run) l_ends c_ends k_ends
  have b_ends := F_ends.binds (ps := ["word", "sign"]) fun _ _ _ _ _ _ us hl => match us, hl with | [_, _], _ => rfl
  have m_ends := PySem.W.mg_of X G a_ends
  have F_nxl := fun_mk (st := s_next_line) l_nxl c_nxl k_nxl
  have b_nxl := F_nxl.binds (ps := ["statement", "sign", "cells"]) fun _ _ _ _ _ _ us hl => match us, hl with | [_, _, _], _ => rfl
  have m_nxl := PySem.W.mg_of X G a_nxl
  have F_hol := fun_mk (st := s_holds) l_hol c_hol k_hol
  have b_hol := F_hol.binds (ps := ["condition", "sign", "cells"]) fun _ _ _ _ _ _ us hl => match us, hl with | [_, _, _], _ => rfl
  have m_hol := PySem.W.mg_of X G a_hol
  have F_res := fun_mk (st := s_resumed) l_res c_res k_res
  have b_res := F_res.binds (ps := ["program", "outer", "line"]) fun _ _ _ _ _ _ us hl => match us, hl with | [_, _, _], _ => rfl
  have m_res := PySem.W.mg_of X G a_res
  have F_cea := fun_mk (st := s_cells_after) l_cea c_cea k_cea
  have b_cea := F_cea.binds (ps := ["program", "statement", "cells"]) fun _ _ _ _ _ _ us hl => match us, hl with | [_, _, _], _ => rfl
  have m_cea := PySem.W.mg_of X G a_cea
  have F_lat := fun_mk (st := s_letter_at) l_lat c_lat k_lat
  have b_lat := F_lat.binds (ps := ["statement", "sign"]) fun _ _ _ _ _ _ us hl => match us, hl with | [_, _], _ => rfl
  have m_lat := PySem.W.mg_of X G a_lat
  have F_ist := fun_mk (st := s_is_text) l_ist c_ist k_ist
  have b_ist := F_ist.binds (ps := ["machine", "value"]) fun _ _ _ _ _ _ us hl => match us, hl with | [_, _], _ => rfl
  have m_ist := PySem.W.mg_of X G a_ist
  have F_chk := fun_mk (st := s_check_text) l_chk c_chk k_chk
  have b_chk := F_chk.binds (ps := ["machine", "text"]) fun _ _ _ _ _ _ us hl => match us, hl with | [_, _], _ => rfl
  have m_chk := PySem.W.mg_of X G a_chk
  have F_mar := fun_mk (st := s_marked) l_mar c_mar k_mar
  have b_mar := F_mar.binds (ps := ["text"]) fun _ _ _ _ _ _ us hl => match us, hl with | [_], _ => rfl
  have m_mar := PySem.W.mg_of X G a_mar
  have F_run := fun_mk (st := s_run) l_run c_run k_run
  have b_run := F_run.binds (ps := ["machine", "text"]) fun _ _ _ _ _ _ us hl => match us, hl with | [_, _], _ => rfl
  have m_run := PySem.W.mg_of X G a_run
  have F_rop := fun_mk (st := s_run_of_program) l_rop c_rop k_rop
  have b_rop := F_rop.binds (ps := ["program", "text"]) fun _ _ _ _ _ _ us hl => match us, hl with | [_, _], _ => rfl
  have m_rop := PySem.W.mg_of X G a_rop
  have F_pot := fun_mk (st := s__law_pot_of) l_pot c_pot k_pot
  have b_pot := F_pot.binds (ps := ["_law_script", "_law_k"]) fun _ _ _ _ _ _ us hl => match us, hl with | [_, _], _ => rfl
  have m_pot := PySem.W.mg_of X G a_pot
  have F_take := fun_mk (st := s__law_take) l_take c_take k_take
  have b_take := F_take.binds (ps := ["_law_pot", "_law_upto"]) fun _ _ _ _ _ _ us hl => match us, hl with | [_, _], _ => rfl
  have m_take := PySem.W.mg_of X G a_take
  have F_of := fun_mk (st := s__law_of) l_of c_of k_of
  have b_of := F_of.binds (ps := ["_law_pot", "_law_some"]) fun _ _ _ _ _ _ us hl => match us, hl with | [_, _], _ => rfl
  have m_of := PySem.W.mg_of X G a_of
  have F_k0 := fun_mk (st := s__law_counted) l_k0 c_k0 k_k0
  have b_k0 := F_k0.binds (ps := ["_law_symbols", "_law_names", "_law_most", "_law_step", "_law_goal"]) fun _ _ _ _ _ _ us hl => match us, hl with | [_, _, _, _, _], _ => rfl
  have m_k0 := PySem.W.mg_of X G a_k0
  have F_k1 := fun_mk (st := s__law_parity) l_k1 c_k1 k_k1
  have b_k1 := F_k1.binds (ps := ["_law_symbols", "_law_names"]) fun _ _ _ _ _ _ us hl => match us, hl with | [_, _], _ => rfl
  have m_k1 := PySem.W.mg_of X G a_k1
  have F_k2 := fun_mk (st := s__law_nested) l_k2 c_k2 k_k2
  have b_k2 := F_k2.binds (ps := ["_law_symbols", "_law_names"]) fun _ _ _ _ _ _ us hl => match us, hl with | [_, _], _ => rfl
  have m_k2 := PySem.W.mg_of X G a_k2
  have F_k3 := fun_mk (st := s__law_stopped) l_k3 c_k3 k_k3
  have b_k3 := F_k3.binds (ps := ["_law_symbols", "_law_names"]) fun _ _ _ _ _ _ us hl => match us, hl with | [_, _], _ => rfl
  have m_k3 := PySem.W.mg_of X G a_k3
  have F_ism := fun_mk (st := s__law_is_marked) l_ism c_ism k_ism
  have b_ism := F_ism.binds (ps := ["_law_page", "_law_sign"]) fun _ _ _ _ _ _ us hl => match us, hl with | [_, _], _ => rfl
  have m_ism := PySem.W.mg_of X G a_ism
  have F_alm := fun_mk (st := s__law_all_marked) l_alm c_alm k_alm
  have b_alm := F_alm.binds (ps := ["_law_page", "_law_sign"]) fun _ _ _ _ _ _ us hl => match us, hl with | [_, _], _ => rfl
  have m_alm := PySem.W.mg_of X G a_alm
  have F_k4 := fun_mk (st := s__law_two_cells) l_k4 c_k4 k_k4
  have b_k4 := F_k4.binds (ps := ["_law_symbols", "_law_names"]) fun _ _ _ _ _ _ us hl => match us, hl with | [_, _], _ => rfl
  have m_k4 := PySem.W.mg_of X G a_k4
  have F_k5 := fun_mk (st := s__law_remembered) l_k5 c_k5 k_k5
  have b_k5 := F_k5.binds (ps := ["_law_symbols", "_law_names"]) fun _ _ _ _ _ _ us hl => match us, hl with | [_, _], _ => rfl
  have m_k5 := PySem.W.mg_of X G a_k5
  have F_right := fun_mk (st := s__law_right) l_right c_right k_right
  have b_right := F_right.binds (ps := ["_law_pot"]) fun _ _ _ _ _ _ us hl => match us, hl with | [_], _ => rfl
  have m_right := PySem.W.mg_of X G a_right
  have F_law := fun_mk (st := s_law) l_law c_law k_law
  have b_law := F_law.binds (ps := ["_law_script"]) fun _ _ _ _ _ _ us hl => match us, hl with | [_], _ => rfl
  have m_law := PySem.W.mg_of X G a_law
  have N_k0 : FunC K "_law_counted" "_law_counted" s__law_counted f_k0 (PySem.W.fnOf "_law_counted" "_law_counted" (defArgs s__law_counted) (defBody s__law_counted) (defScope s__law_counted) .none kV_k0 dc_k0 pm_k0 an_k0 (.ref c0) ct_k0) c0 := ⟨⟨oc_k0, od_k0, kV_k0, dc_k0, pm_k0, an_k0, ct_k0, sl_k0, rfl, l_k0, c_k0⟩⟩
  have N_k1 : FunC K "_law_parity" "_law_parity" s__law_parity f_k1 (PySem.W.fnOf "_law_parity" "_law_parity" (defArgs s__law_parity) (defBody s__law_parity) (defScope s__law_parity) .none kV_k1 dc_k1 pm_k1 an_k1 (.ref c1) ct_k1) c1 := ⟨⟨oc_k1, od_k1, kV_k1, dc_k1, pm_k1, an_k1, ct_k1, sl_k1, rfl, l_k1, c_k1⟩⟩
  have N_k2 : FunC K "_law_nested" "_law_nested" s__law_nested f_k2 (PySem.W.fnOf "_law_nested" "_law_nested" (defArgs s__law_nested) (defBody s__law_nested) (defScope s__law_nested) .none kV_k2 dc_k2 pm_k2 an_k2 (.ref c2) ct_k2) c2 := ⟨⟨oc_k2, od_k2, kV_k2, dc_k2, pm_k2, an_k2, ct_k2, sl_k2, rfl, l_k2, c_k2⟩⟩
  have N_k3 : FunC K "_law_stopped" "_law_stopped" s__law_stopped f_k3 (PySem.W.fnOf "_law_stopped" "_law_stopped" (defArgs s__law_stopped) (defBody s__law_stopped) (defScope s__law_stopped) .none kV_k3 dc_k3 pm_k3 an_k3 (.ref c3) ct_k3) c3 := ⟨⟨oc_k3, od_k3, kV_k3, dc_k3, pm_k3, an_k3, ct_k3, sl_k3, rfl, l_k3, c_k3⟩⟩
  have N_k4 : FunC K "_law_two_cells" "_law_two_cells" s__law_two_cells f_k4 (PySem.W.fnOf "_law_two_cells" "_law_two_cells" (defArgs s__law_two_cells) (defBody s__law_two_cells) (defScope s__law_two_cells) .none kV_k4 dc_k4 pm_k4 an_k4 (.ref c4) ct_k4) c4 := ⟨⟨oc_k4, od_k4, kV_k4, dc_k4, pm_k4, an_k4, ct_k4, sl_k4, rfl, l_k4, c_k4⟩⟩
  have N_k5 : FunC K "_law_remembered" "_law_remembered" s__law_remembered f_k5 (PySem.W.fnOf "_law_remembered" "_law_remembered" (defArgs s__law_remembered) (defBody s__law_remembered) (defScope s__law_remembered) .none kV_k5 dc_k5 pm_k5 an_k5 (.ref c5) ct_k5) c5 := ⟨⟨oc_k5, od_k5, kV_k5, dc_k5, pm_k5, an_k5, ct_k5, sl_k5, rfl, l_k5, c_k5⟩⟩
  have N_right : FunC K "_law_right" "_law_right" s__law_right f_right (PySem.W.fnOf "_law_right" "_law_right" (defArgs s__law_right) (defBody s__law_right) (defScope s__law_right) .none kV_right dc_right pm_right an_right (.ref c6) ct_right) c6 := ⟨⟨oc_right, od_right, kV_right, dc_right, pm_right, an_right, ct_right, sl_right, rfl, l_right, c_right⟩⟩
  have F_sin := fun_mk (st := s_Statement___init__) l_sin c_sin k_sin
  have b_sin := F_sin.binds (ps := ["self", "line", "word", "given"]) fun _ _ _ _ _ _ us hl => match us, hl with | [_, _, _, _], _ => rfl
  have m_sin : Meth K CS "__init__" f_sin := ⟨a_sin, i_sin, k_sin⟩
  have F_pin := fun_mk (st := s_Parser_init) l_pin c_pin k_pin
  have b_pin := F_pin.binds (ps := ["self", "text"]) fun _ _ _ _ _ _ us hl => match us, hl with | [_, _], _ => rfl
  have m_pin : Meth K C "__init__" f_pin := ⟨a_pin, i_pin, k_pin⟩
  have F_words_at := fun_mk (st := s_Parser_words_at) l_words_at c_words_at k_words_at
  have b_words_at := F_words_at.binds (ps := ["self", "depth"]) fun _ _ _ _ _ _ us hl => match us, hl with | [_, _], _ => rfl
  have m_words_at : Meth K C "words_at" f_words_at := ⟨a_words_at, i_words_at, k_words_at⟩
  have F_read_program := fun_mk (st := s_Parser_read_program) l_read_program c_read_program k_read_program
  have b_read_program := F_read_program.binds (ps := ["self"]) fun _ _ _ _ _ _ us hl => match us, hl with | [_], _ => rfl
  have m_read_program : Meth K C "read_program" f_read_program := ⟨a_read_program, i_read_program, k_read_program⟩
  have F_read_symbols := fun_mk (st := s_Parser_read_symbols) l_read_symbols c_read_symbols k_read_symbols
  have b_read_symbols := F_read_symbols.binds (ps := ["self"]) fun _ _ _ _ _ _ us hl => match us, hl with | [_], _ => rfl
  have m_read_symbols : Meth K C "read_symbols" f_read_symbols := ⟨a_read_symbols, i_read_symbols, k_read_symbols⟩
  have F_read_cell := fun_mk (st := s_Parser_read_cell) l_read_cell c_read_cell k_read_cell
  have b_read_cell := F_read_cell.binds (ps := ["self"]) fun _ _ _ _ _ _ us hl => match us, hl with | [_], _ => rfl
  have m_read_cell : Meth K C "read_cell" f_read_cell := ⟨a_read_cell, i_read_cell, k_read_cell⟩
  have F_read_part := fun_mk (st := s_Parser_read_part) l_read_part c_read_part k_read_part
  have b_read_part := F_read_part.binds (ps := ["self"]) fun _ _ _ _ _ _ us hl => match us, hl with | [_], _ => rfl
  have m_read_part : Meth K C "read_part" f_read_part := ⟨a_read_part, i_read_part, k_read_part⟩
  have F_is_new_name := fun_mk (st := s_Parser_is_new_name) l_is_new_name c_is_new_name k_is_new_name
  have b_is_new_name := F_is_new_name.binds (ps := ["self", "word"]) fun _ _ _ _ _ _ us hl => match us, hl with | [_, _], _ => rfl
  have m_is_new_name : Meth K C "is_new_name" f_is_new_name := ⟨a_is_new_name, i_is_new_name, k_is_new_name⟩
  have F_read_whole_body := fun_mk (st := s_Parser_read_whole_body) l_read_whole_body c_read_whole_body k_read_whole_body
  have b_read_whole_body := F_read_whole_body.binds (ps := ["self"]) fun _ _ _ _ _ _ us hl => match us, hl with | [_], _ => rfl
  have m_read_whole_body : Meth K C "read_whole_body" f_read_whole_body := ⟨a_read_whole_body, i_read_whole_body, k_read_whole_body⟩
  have F_read_body := fun_mk (st := s_Parser_read_body) l_read_body c_read_body k_read_body
  have b_read_body := F_read_body.binds (ps := ["self", "depth"]) fun _ _ _ _ _ _ us hl => match us, hl with | [_, _], _ => rfl
  have m_read_body : Meth K C "read_body" f_read_body := ⟨a_read_body, i_read_body, k_read_body⟩
  have F_read_statement := fun_mk (st := s_Parser_read_statement) l_read_statement c_read_statement k_read_statement
  have b_read_statement := F_read_statement.binds (ps := ["self", "depth"]) fun _ _ _ _ _ _ us hl => match us, hl with | [_, _], _ => rfl
  have m_read_statement : Meth K C "read_statement" f_read_statement := ⟨a_read_statement, i_read_statement, k_read_statement⟩
  have F_given_by := fun_mk (st := s_Parser_given_by) l_given_by c_given_by k_given_by
  have b_given_by := F_given_by.binds (ps := ["self", "words"]) fun _ _ _ _ _ _ us hl => match us, hl with | [_, _], _ => rfl
  have m_given_by : Meth K C "given_by" f_given_by := ⟨a_given_by, i_given_by, k_given_by⟩
  have F_setting_by := fun_mk (st := s_Parser_setting_by) l_setting_by c_setting_by k_setting_by
  have b_setting_by := F_setting_by.binds (ps := ["self", "words"]) fun _ _ _ _ _ _ us hl => match us, hl with | [_, _], _ => rfl
  have m_setting_by : Meth K C "setting_by" f_setting_by := ⟨a_setting_by, i_setting_by, k_setting_by⟩
  have F_sum_by := fun_mk (st := s_Parser_sum_by) l_sum_by c_sum_by k_sum_by
  have b_sum_by := F_sum_by.binds (ps := ["self", "words"]) fun _ _ _ _ _ _ us hl => match us, hl with | [_, _], _ => rfl
  have m_sum_by : Meth K C "sum_by" f_sum_by := ⟨a_sum_by, i_sum_by, k_sum_by⟩
  have F_condition_by := fun_mk (st := s_Parser_condition_by) l_condition_by c_condition_by k_condition_by
  have b_condition_by := F_condition_by.binds (ps := ["self", "words"]) fun _ _ _ _ _ _ us hl => match us, hl with | [_, _], _ => rfl
  have m_condition_by : Meth K C "condition_by" f_condition_by := ⟨a_condition_by, i_condition_by, k_condition_by⟩
  have F_gin := fun_mk (st := s_Program_init) l_gin c_gin k_gin
  have b_gin := F_gin.binds (ps := ["self", "text"]) fun _ _ _ _ _ _ us hl => match us, hl with | [_, _], _ => rfl
  have m_gin : Meth K CP "__init__" f_gin := ⟨a_gin, i_gin, k_gin⟩
  have T_C : PTxt K C := ⟨⟨pg_C, hd_C, po_C, sa_C⟩, n_C_lines, n_C_number, n_C_symbols, n_C_mosts, n_C_starts, n_C_statements, n_C_first⟩
  have g_C := PySem.W.mg_of X G a_C
  have T_CS : STxt K CS := ⟨⟨pg_CS, hd_CS, po_CS, sa_CS⟩, n_CS_line, n_CS_word, n_CS_given, n_CS_inside, n_CS_otherwise, n_CS_follow⟩
  have g_CS := PySem.W.mg_of X G a_CS
  have T_CP : GTxt K CP := ⟨⟨pg_CP, hd_CP, po_CP, sa_CP⟩, n_CP_text, n_CP_symbols, n_CP_cells, n_CP_parts, n_CP_statements, n_CP_first, n_CP_letters⟩
  have g_CP := PySem.W.mg_of X G a_CP
  have y_enumerate := PySem.W.mg_none_of X G z_enumerate
  have y_dict := PySem.W.mg_none_of X G z_dict
  have y_len := PySem.W.mg_none_of X G z_len
  have y_int := PySem.W.mg_none_of X G z_int
  have y_abs := PySem.W.mg_none_of X G z_abs
  have y_str := PySem.W.mg_none_of X G z_str
  have y_list := PySem.W.mg_none_of X G z_list
  have y_tuple := PySem.W.mg_none_of X G z_tuple
  have y_range := PySem.W.mg_none_of X G z_range
  have y_all := PySem.W.mg_none_of X G z_all
  have y_sorted := PySem.W.mg_none_of X G z_sorted
  have y_set := PySem.W.mg_none_of X G z_set
  have y_zip := PySem.W.mg_none_of X G z_zip
  have y_isinstance := PySem.W.mg_none_of X G z_isinstance
  have y_bool := PySem.W.mg_none_of X G z_bool
  have y_repr := PySem.W.mg_none_of X G z_repr
  have y_max := PySem.W.mg_none_of X G z_max
  have y_min := PySem.W.mg_none_of X G z_min
  have T : Bare mg := ⟨y_len, y_int, y_abs, y_str, y_list, y_tuple, y_range⟩
  have T1 : Consts K mg := ⟨⟨_, PySem.W.mg_of X G v_ALPHABET⟩, ⟨_, PySem.W.mg_of X G v_MOST_CELLS⟩, ⟨_, PySem.W.mg_of X G v_MOST_PARTS⟩, ⟨_, PySem.W.mg_of X G v_MOST_STATEMENTS⟩, ⟨_, PySem.W.mg_of X G v_MOST_BODIES⟩, ⟨_, PySem.W.mg_of X G v_LONGEST_NAME⟩, y_all, y_sorted, y_set⟩
  have T2 : Consts2 K mg := ⟨⟨_, PySem.W.mg_of X G v_VALUES, tup_in l_VALUES (Nat.le_of_ble_eq_true rfl) (.cons ⟨_, rfl⟩ (.cons ⟨_, rfl⟩ (.cons ⟨_, rfl⟩ .nil)))⟩, ⟨_, PySem.W.mg_of X G v_BARE_WORDS, tup_in l_BARE_WORDS (Nat.le_of_ble_eq_true rfl) (.cons ⟨_, rfl⟩ (.cons ⟨_, rfl⟩ (.cons ⟨_, rfl⟩ (.cons ⟨_, rfl⟩ .nil))))⟩, ⟨_, PySem.W.mg_of X G v_WORDS, tup_in l_WORDS (Nat.le_of_ble_eq_true rfl) (.cons ⟨_, rfl⟩ (.cons ⟨_, rfl⟩ (.cons ⟨_, rfl⟩ (.cons ⟨_, rfl⟩ (.cons ⟨_, rfl⟩ (.cons ⟨_, rfl⟩ (.cons ⟨_, rfl⟩ (.cons ⟨_, rfl⟩ (.cons ⟨_, rfl⟩ (.cons ⟨_, rfl⟩ (.cons ⟨_, rfl⟩ (.cons ⟨_, rfl⟩ (.cons ⟨_, rfl⟩ (.cons ⟨_, rfl⟩ (.cons ⟨_, rfl⟩ (.cons ⟨_, rfl⟩ (.cons ⟨_, rfl⟩ .nil)))))))))))))))))⟩⟩
  refine ⟨nT, fun p hp => ?_, PySem.W.fnOf "law" "law" (defArgs s_law) (defBody s_law) (defScope s_law) .none kV_law dc_law pm_law an_law cd_law ct_law, fun s v => .of_eq rfl, fun base _ _ TBs => ?_⟩
  · simp only [List.mem_cons, List.not_mem_nil, or_false] at hp
    rcases hp with rfl | rfl | rfl | rfl | rfl | rfl | rfl
    · exact ⟨_, .head _, t0_⟩
    · exact ⟨_, .tail _ (.head _), t1_⟩
    · exact ⟨_, .tail _ (.tail _ (.head _)), t2_⟩
    · exact ⟨_, .tail _ (.tail _ (.tail _ (.head _))), t3_⟩
    · exact ⟨_, .tail _ (.tail _ (.tail _ (.tail _ (.head _)))), t4_⟩
    · exact ⟨_, .tail _ (.tail _ (.tail _ (.tail _ (.tail _ (.head _))))), t5_⟩
    · exact ⟨_, .tail _ (.tail _ (.tail _ (.tail _ (.tail _ (.tail _ (.head _)))))), t6_⟩
  have CT : Callee l.prog w K mg base 1 "_law_take" ["_law_pot", "_law_upto"] spTake := ⟨f_take, _, ok_take F_take T, m_take, k_take, b_take⟩
  have CO : Callee l.prog w K mg base 2 "_law_of" ["_law_pot", "_law_some"] (spOf K) := ⟨f_of, _, ok_of F_of T CT, m_of, k_of, b_of⟩
  have CPot : Callee l.prog w K mg base 1 "_law_pot_of" ["_law_script", "_law_k"] (spPotOf K) := ⟨f_pot, _, ok_pot_of F_pot T, m_pot, k_pot, b_pot⟩
  have CLet : Callee l.prog w K mg base 1 "is_of_letters" ["word"] (spText1 ofLetters) := ⟨f_iol, _, ok_is_of_letters F_iol T1, m_iol, k_iol, b_iol⟩
  have COrd : Callee l.prog w K mg base 1 "is_in_order" ["word", "order"] spOrder := ⟨f_iio, _, ok_is_in_order F_iio T1, m_iio, k_iio, b_iio⟩
  have MW : Meter l.prog w K mg base C 1 "words_at" ["self", "depth"] (spWords C) := ⟨f_words_at, _, ok_words_at F_words_at T T_C, m_words_at, b_words_at⟩
  have MSet : Meter l.prog w K mg base C 1 "setting_by" ["self", "words"] (spSetting K C) := ⟨f_setting_by, _, ok_setting_by F_setting_by T T2 T_C, m_setting_by, b_setting_by⟩
  have MSum : Meter l.prog w K mg base C 1 "sum_by" ["self", "words"] (spSum K C) := ⟨f_sum_by, _, ok_sum_by F_sum_by T T_C, m_sum_by, b_sum_by⟩
  have MCo : Meter l.prog w K mg base C 2 "condition_by" ["self", "words"] (spCond K C) := ⟨f_condition_by, _, ok_condition_by F_condition_by T T_C COrd MSet, m_condition_by, b_condition_by⟩
  have MGi : Meter l.prog w K mg base C 3 "given_by" ["self", "words"] (spGiven K C) := ⟨f_given_by, _, ok_given_by F_given_by T T2 T_C CLet MSet MSum MCo, m_given_by, b_given_by⟩
  let MI : Maker l.prog w K mg base CS 1 "Statement" ["self", "line", "word", "given"] (spStInit CS) := ⟨f_sin, _, ok_st_init F_sin T_CS, ⟨mk_CS, a_sin, i_sin, kc_CS⟩, g_CS, b_sin⟩
  have OB : FnOk l.prog w K mg base CX0 12 f_read_body _ ["self", "depth"] (spBod C CS 1) := ok_bodies F_read_body F_read_statement m_read_body m_read_statement b_read_body b_read_statement T T1 T_C T_CS MW MGi MI 4 (by decide)
  have MBo : Meter l.prog w K mg base C 12 "read_body" ["self", "depth"] (spBod C CS 1) := ⟨f_read_body, _, OB, m_read_body, b_read_body⟩
  have CLi : Callee l.prog w K mg base 5 "link" ["body", "end"] (spLink CS 5) := ⟨f_link, _, ok_link F_link T_CS y_zip m_link b_link 5, m_link, k_link, b_link⟩
  have MWh : Meter l.prog w K mg base C 13 "read_whole_body" ["self"] (spWhole C CS) := ⟨f_read_whole_body, _, ok_read_whole_body F_read_whole_body T_C T_CS MBo CLi, m_read_whole_body, b_read_whole_body⟩
  have MNew : Meter l.prog w K mg base C 2 "is_new_name" ["self", "word"] (spNew C) := ⟨f_is_new_name, _, ok_is_new_name F_is_new_name T T1 T2 T_C CLet, m_is_new_name, b_is_new_name⟩
  have MCe : Meter l.prog w K mg base C 3 "read_cell" ["self"] (spCell C CS) := ⟨f_read_cell, _, ok_read_cell F_read_cell T T1 T_C MW MNew, m_read_cell, b_read_cell⟩
  have MPa : Meter l.prog w K mg base C 14 "read_part" ["self"] (spPart C CS) := ⟨f_read_part, _, ok_read_part F_read_part T T1 T_C MW MNew MWh, m_read_part, b_read_part⟩
  have MSy : Meter l.prog w K mg base C 2 "read_symbols" ["self"] (spSyms C CS) := ⟨f_read_symbols, _, ok_read_symbols F_read_symbols T T1 T_C MW COrd, m_read_symbols, b_read_symbols⟩
  have MPr : Meter l.prog w K mg base C 15 "read_program" ["self"] (spProg C CS) := ⟨f_read_program, _, ok_read_program F_read_program T T_C MW MSy MCe MPa MWh, m_read_program, b_read_program⟩
  let MK : Maker l.prog w K mg base C 1 "Parser" ["self", "text"] (spPInit C) := ⟨f_pin, _, ok_parser_init F_pin T_C, ⟨mk_C, a_pin, i_pin, kc_C⟩, g_C, b_pin⟩
  have CPa : Callee l.prog w K mg base 16 "parse" ["text"] (spParse C CS) := ⟨f_parse, _, ok_parse F_parse T y_isinstance T_C d3 MK MPr, m_parse, k_parse, b_parse⟩
  have CLs : Callee l.prog w K mg base 1 "letters_of" ["program"] (spLetters CP CS) := ⟨f_let, _, ok_letters_of F_let T y_set y_sorted T_CP T_CS, m_let, k_let, b_let⟩
  let MG : Maker l.prog w K mg base CP 17 "Program" ["self", "text"] (spGInit CP CS) := ⟨f_gin, _, ok_program_init F_gin T T_C T_CP d1 d2 CPa CLs, ⟨mk_CP, a_gin, i_gin, kc_CP⟩, g_CP, b_gin⟩
  have CS2 : Callee l.prog w K mg base 2 "_law_of" ["_law_pot", "_law_some"] spOfS := ⟨f_of, _, ok_ofS F_of T CT, m_of, k_of, b_of⟩
  have M : MovesK K w mg := moves_mk (PySem.W.mg_of X G v_MOVES) l_MOVES q1_MOVES q2_MOVES u1_MOVES u2_MOVES lit_MOVES low_MOVES
  have CF : Callee l.prog w K mg base 1 "first_state" ["program"] (spFirst CP CS) := ⟨f_fst, _, ok_first_state F_fst T T_CP, m_fst, k_fst, b_fst⟩
  have CE : Callee l.prog w K mg base 1 "ends_run" ["word", "sign"] spEnds := ⟨f_ends, _, ok_ends_run F_ends, m_ends, k_ends, b_ends⟩
  have CH : Callee l.prog w K mg base 1 "holds" ["condition", "sign", "cells"] spHolds := ⟨f_hol, _, ok_holds F_hol, m_hol, k_hol, b_hol⟩
  have CN : Callee l.prog w K mg base 2 "next_line" ["statement", "sign", "cells"] (spNext CS) := ⟨f_nxl, _, ok_next_line F_nxl T_CS CH, m_nxl, k_nxl, b_nxl⟩
  have CR : Callee l.prog w K mg base 1 "resumed" ["program", "outer", "line"] (spRes CP CS) := ⟨f_res, _, ok_resumed F_res T_CP T_CS, m_res, k_res, b_res⟩
  have CCA : Callee l.prog w K mg base 1 "cells_after" ["program", "statement", "cells"] (spCellsA CP CS) := ⟨f_cea, _, ok_cells_after F_cea T_CP T_CS, m_cea, k_cea, b_cea⟩
  have CL : Callee l.prog w K mg base 1 "letter_at" ["statement", "sign"] (spLetter CS) := ⟨f_lat, _, ok_letter_at F_lat T_CS, m_lat, k_lat, b_lat⟩
  have CStep : Callee l.prog w K mg base 3 "step" ["program", "state", "sign"] (spStep CP CS) := ⟨f_step, _, ok_step F_step T_CP T_CS M CE CN CR CCA CL, m_step, k_step, b_step⟩
  have CM : Callee l.prog w K mg base 1 "marked" ["text"] spMarked := ⟨f_mar, _, ok_marked F_mar, m_mar, k_mar, b_mar⟩
  have TI : IsTxt K CP := ⟨i_ha, i_hn, i_htk, i_hm⟩
  have g_CC := PySem.W.mg_of X G a_CC
  have CRp : Callee l.prog w K mg base 4 "run_of_program" ["program", "text"] (spRunG CP CS) := ⟨f_rop, _, ok_run_of_programG F_rop T CM CF CStep, m_rop, k_rop, b_rop⟩
  have CIs : Callee l.prog w K mg base 1 "is_text" ["machine", "value"] (spIsText CP) := ⟨f_ist, _, ok_is_text F_ist T T1 y_isinstance T_CP, m_ist, k_ist, b_ist⟩
  have CK : Callee l.prog w K mg base 2 "check_text" ["machine", "text"] (spCheck CP) := ⟨f_chk, _, ok_check_text F_chk CIs, m_chk, k_chk, b_chk⟩
  have CRun : Callee l.prog w K mg base 5 "run" ["machine", "text"] (spRunV CP CS) := ⟨f_run, _, run_valid (ok_runX F_run T_CP TI y_isinstance g_CC hkit CK CRp), m_run, k_run, b_run⟩
  have TT : tabs7 [(c0, P0), (c1, P1), (c2, P2), (c3, P3), (c4, P4), (c5, P5), (c6, P6)] = [(P0, qL "_law_counted"), (P1, qL "_law_parity"), (P2, qL "_law_nested"), (P3, qL "_law_stopped"), (P4, qL "_law_two_cells"), (P5, qL "_law_remembered"), (P6, qL "_law_right")] := rfl
  rw [TT]
  have one := fun {P : Addr} {q : Str} => one_of (T := [(P0, qL "_law_counted"), (P1, qL "_law_parity"), (P2, qL "_law_nested"), (P3, qL "_law_stopped"), (P4, qL "_law_two_cells"), (P5, qL "_law_remembered"), (P6, qL "_law_right")]) dP (P := P) (q := q)
  have B0 : TabB base mg c0 P0 := TBs _ (.head _)
  have in0 : (P0, qL "_law_counted") ∈ [(P0, qL "_law_counted"), (P1, qL "_law_parity"), (P2, qL "_law_nested"), (P3, qL "_law_stopped"), (P4, qL "_law_two_cells"), (P5, qL "_law_remembered"), (P6, qL "_law_right")] := .head _
  have B1 : TabB base mg c1 P1 := TBs _ (.tail _ (.head _))
  have in1 : (P1, qL "_law_parity") ∈ [(P0, qL "_law_counted"), (P1, qL "_law_parity"), (P2, qL "_law_nested"), (P3, qL "_law_stopped"), (P4, qL "_law_two_cells"), (P5, qL "_law_remembered"), (P6, qL "_law_right")] := .tail _ (.head _)
  have B2 : TabB base mg c2 P2 := TBs _ (.tail _ (.tail _ (.head _)))
  have in2 : (P2, qL "_law_nested") ∈ [(P0, qL "_law_counted"), (P1, qL "_law_parity"), (P2, qL "_law_nested"), (P3, qL "_law_stopped"), (P4, qL "_law_two_cells"), (P5, qL "_law_remembered"), (P6, qL "_law_right")] := .tail _ (.tail _ (.head _))
  have B3 : TabB base mg c3 P3 := TBs _ (.tail _ (.tail _ (.tail _ (.head _))))
  have in3 : (P3, qL "_law_stopped") ∈ [(P0, qL "_law_counted"), (P1, qL "_law_parity"), (P2, qL "_law_nested"), (P3, qL "_law_stopped"), (P4, qL "_law_two_cells"), (P5, qL "_law_remembered"), (P6, qL "_law_right")] := .tail _ (.tail _ (.tail _ (.head _)))
  have B4 : TabB base mg c4 P4 := TBs _ (.tail _ (.tail _ (.tail _ (.tail _ (.head _)))))
  have in4 : (P4, qL "_law_two_cells") ∈ [(P0, qL "_law_counted"), (P1, qL "_law_parity"), (P2, qL "_law_nested"), (P3, qL "_law_stopped"), (P4, qL "_law_two_cells"), (P5, qL "_law_remembered"), (P6, qL "_law_right")] := .tail _ (.tail _ (.tail _ (.tail _ (.head _))))
  have B5 : TabB base mg c5 P5 := TBs _ (.tail _ (.tail _ (.tail _ (.tail _ (.tail _ (.head _))))))
  have in5 : (P5, qL "_law_remembered") ∈ [(P0, qL "_law_counted"), (P1, qL "_law_parity"), (P2, qL "_law_nested"), (P3, qL "_law_stopped"), (P4, qL "_law_two_cells"), (P5, qL "_law_remembered"), (P6, qL "_law_right")] := .tail _ (.tail _ (.tail _ (.tail _ (.tail _ (.head _)))))
  have B6 : TabB base mg c6 P6 := TBs _ (.tail _ (.tail _ (.tail _ (.tail _ (.tail _ (.tail _ (.head _)))))))
  have in6 : (P6, qL "_law_right") ∈ [(P0, qL "_law_counted"), (P1, qL "_law_parity"), (P2, qL "_law_nested"), (P3, qL "_law_stopped"), (P4, qL "_law_two_cells"), (P5, qL "_law_remembered"), (P6, qL "_law_right")] := .tail _ (.tail _ (.tail _ (.tail _ (.tail _ (.tail _ (.head _))))))
  have O0 := ok_counted (P := l.prog) (w := w) N_k0 B0 in0 (one in0) T
  have O1 := ok_parity (P := l.prog) (w := w) N_k1 B1 in1 (one in1)
  have O2 := ok_nested (P := l.prog) (w := w) N_k2 B2 in2 (one in2)
  have O3 := ok_stopped (P := l.prog) (w := w) N_k3 B3 in3 (one in3)
  have O4 := ok_two_cells (P := l.prog) (w := w) N_k4 B4 in4 (one in4)
  have O5 := ok_remembered (P := l.prog) (w := w) N_k5 B5 in5 (one in5)
  have CIm : Callee l.prog w K mg base 1 "_law_is_marked" ["_law_page", "_law_sign"] spIsM := ⟨f_ism, _, ok_is_marked F_ism T, m_ism, k_ism, b_ism⟩
  have CAm : Callee l.prog w K mg base 2 "_law_all_marked" ["_law_page", "_law_sign"] spAllM := ⟨f_alm, _, ok_all_marked F_alm T CIm, m_alm, k_alm, b_alm⟩
  have LA : LamAll l.prog w K mg base := fun sy most step goal hsy hm hs hg j hj F f h => by
    simp only [eight, List.mem_cons, List.not_mem_nil, or_false] at hj
    rcases hj with rfl | rfl | rfl | rfl | rfl | rfl | rfl | rfl
    · exact lok60 h T y_enumerate hm hs hg
    · exact lok61 h T hsy
    · exact lok62 h
    · exact lok63 h y_enumerate hsy
    · exact lok64 h hsy CAm
    · exact lok65 h hsy
    · exact lok66 h
    · exact lok67 h y_enumerate
  have ORi := ok_right N_right B6 in6 (one in6) T y_repr CO CT CS2 MG CRun LA ⟨f_k0, _, O0, m_k0, k_k0, b_k0⟩ in0 ⟨f_k5, _, O5, m_k5, k_k5, b_k5⟩ in5 m_k1 m_k2 m_k3 m_k4 (fun i g e => by
    match i, e with
    | 0, e => cases e; exact ⟨_, P1, _, O1, k_k1, b_k1, in1⟩
    | 1, e => cases e; exact ⟨_, P2, _, O2, k_k2, b_k2, in2⟩
    | 2, e => cases e; exact ⟨_, P3, _, O3, k_k3, b_k3, in3⟩
    | 3, e => cases e; exact ⟨_, P4, _, O4, k_k4, b_k4, in4⟩
    | i + 4, e => cases e)
  exact ok_law F_law T y_all y_max y_min CPot ORi m_right k_right b_right
end Fv
open PySem PySem.W PyProof.Rows L2
set_option maxRecDepth 100000 in
set_option maxHeartbeats 0 in
theorem PySem.Challenge.cw_fewgoings_k06_parts_and_cells_in_closed_holds : PySem.Challenge.rw_fewgoings_k06_parts_and_cells_in_closed.Holds := by
  w_on; o_law; k_head; (case hw => w_witness2)
  k_fill
  refine' Fv.walk_TG (l := PySem.Challenge.rw_fewgoings_k06_parts_and_cells_in_closed) (n := 63) (k := 20) (x := "_law_script") (sp := fun cs K => Fv.spLaw K (Fv.tabs7 cs)) rfl (by decide) rfl ⟨rfl, by decide, by decide⟩ (fun w h Y => PySem.W.km_in_of Y) ["_law_counted", "_law_parity", "_law_nested", "_law_stopped", "_law_two_cells", "_law_remembered", "_law_right"] [(_, _), (_, _), (_, _), (_, _), (_, _), (_, _), (_, _)] ?rec ?F (fun K H a ns hl isT hS => ⟨a, ns, rfl, hS, hl, fun p hp => ?tb, fun _ => rfl⟩)
  case rec => decide +kernel
  case F =>
    intro w mg fa h KX G hmg
    refine' Fv.all_mk KX G hmg ?a_C ?pg_C ?hd_C ?po_C ?sa_C ?mk_C ?kc_C ?n_C_lines ?n_C_number ?n_C_symbols ?n_C_mosts ?n_C_starts ?n_C_statements ?n_C_first ?a_CS ?pg_CS ?hd_CS ?po_CS ?sa_CS ?mk_CS ?kc_CS ?n_CS_line ?n_CS_word ?n_CS_given ?n_CS_inside ?n_CS_otherwise ?n_CS_follow ?a_CP ?pg_CP ?hd_CP ?po_CP ?sa_CP ?mk_CP ?kc_CP ?n_CP_text ?n_CP_symbols ?n_CP_cells ?n_CP_parts ?n_CP_statements ?n_CP_first ?n_CP_letters ?a_link ?l_link ?c_link ?k_link ?a_parse ?l_parse ?c_parse ?k_parse ?a_iol ?l_iol ?c_iol ?k_iol ?a_iio ?l_iio ?c_iio ?k_iio ?a_let ?l_let ?c_let ?k_let ?a_fst ?l_fst ?c_fst ?k_fst ?a_step ?l_step ?c_step ?k_step ?a_ends ?l_ends ?c_ends ?k_ends ?a_nxl ?l_nxl ?c_nxl ?k_nxl ?a_hol ?l_hol ?c_hol ?k_hol ?a_res ?l_res ?c_res ?k_res ?a_cea ?l_cea ?c_cea ?k_cea ?a_lat ?l_lat ?c_lat ?k_lat ?a_ist ?l_ist ?c_ist ?k_ist ?a_chk ?l_chk ?c_chk ?k_chk ?a_mar ?l_mar ?c_mar ?k_mar ?a_run ?l_run ?c_run ?k_run ?a_rop ?l_rop ?c_rop ?k_rop ?a_pot ?l_pot ?c_pot ?k_pot ?a_take ?l_take ?c_take ?k_take ?a_of ?l_of ?c_of ?k_of ?a_k0 ?l_k0 ?c_k0 ?k_k0 ?a_k1 ?l_k1 ?c_k1 ?k_k1 ?a_k2 ?l_k2 ?c_k2 ?k_k2 ?a_k3 ?l_k3 ?c_k3 ?k_k3 ?a_ism ?l_ism ?c_ism ?k_ism ?a_alm ?l_alm ?c_alm ?k_alm ?a_k4 ?l_k4 ?c_k4 ?k_k4 ?a_k5 ?l_k5 ?c_k5 ?k_k5 ?a_right ?l_right ?c_right ?k_right ?a_law ?l_law ?c_law ?k_law ?a_sin ?i_sin ?l_sin ?c_sin ?k_sin ?a_pin ?i_pin ?l_pin ?c_pin ?k_pin ?a_words_at ?i_words_at ?l_words_at ?c_words_at ?k_words_at ?a_read_program ?i_read_program ?l_read_program ?c_read_program ?k_read_program ?a_read_symbols ?i_read_symbols ?l_read_symbols ?c_read_symbols ?k_read_symbols ?a_read_cell ?i_read_cell ?l_read_cell ?c_read_cell ?k_read_cell ?a_read_part ?i_read_part ?l_read_part ?c_read_part ?k_read_part ?a_is_new_name ?i_is_new_name ?l_is_new_name ?c_is_new_name ?k_is_new_name ?a_read_whole_body ?i_read_whole_body ?l_read_whole_body ?c_read_whole_body ?k_read_whole_body ?a_read_body ?i_read_body ?l_read_body ?c_read_body ?k_read_body ?a_read_statement ?i_read_statement ?l_read_statement ?c_read_statement ?k_read_statement ?a_given_by ?i_given_by ?l_given_by ?c_given_by ?k_given_by ?a_setting_by ?i_setting_by ?l_setting_by ?c_setting_by ?k_setting_by ?a_sum_by ?i_sum_by ?l_sum_by ?c_sum_by ?k_sum_by ?a_condition_by ?i_condition_by ?l_condition_by ?c_condition_by ?k_condition_by ?a_gin ?i_gin ?l_gin ?c_gin ?k_gin ?z_enumerate ?z_dict ?z_len ?z_int ?z_abs ?z_str ?z_list ?z_tuple ?z_range ?z_all ?z_sorted ?z_set ?z_zip ?z_isinstance ?z_bool ?z_repr ?z_max ?z_min ?v_ALPHABET ?v_MOST_CELLS ?v_MOST_PARTS ?v_MOST_STATEMENTS ?v_MOST_BODIES ?v_LONGEST_NAME ?v_VALUES ?l_VALUES ?v_BARE_WORDS ?l_BARE_WORDS ?v_WORDS ?l_WORDS ?v_MOVES ?l_MOVES ?q1_MOVES ?q2_MOVES ?u1_MOVES ?u2_MOVES ?lit_MOVES ?low_MOVES ?a_CC ?hkit ?i_ha ?i_hn ?i_htk ?i_hm ?d1 ?d2 ?d3 ?nT ?t0_ ?t1_ ?t2_ ?t3_ ?t4_ ?t5_ ?t6_ ?dP
    (case a_C => k_is)
    (case pg_C => k_is)
    (case hd_C => k_is)
    (case po_C => k_is)
    (case sa_C => k_is)
    (case mk_C => k_is)
    (case kc_C => k_is)
    (case n_C_lines => k_is)
    (case n_C_number => k_is)
    (case n_C_symbols => k_is)
    (case n_C_mosts => k_is)
    (case n_C_starts => k_is)
    (case n_C_statements => k_is)
    (case n_C_first => k_is)
    (case a_CS => k_is)
    (case pg_CS => k_is)
    (case hd_CS => k_is)
    (case po_CS => k_is)
    (case sa_CS => k_is)
    (case mk_CS => k_is)
    (case kc_CS => k_is)
    (case n_CS_line => k_is)
    (case n_CS_word => k_is)
    (case n_CS_given => k_is)
    (case n_CS_inside => k_is)
    (case n_CS_otherwise => k_is)
    (case n_CS_follow => k_is)
    (case a_CP => k_is)
    (case pg_CP => k_is)
    (case hd_CP => k_is)
    (case po_CP => k_is)
    (case sa_CP => k_is)
    (case mk_CP => k_is)
    (case kc_CP => k_is)
    (case n_CP_text => k_is)
    (case n_CP_symbols => k_is)
    (case n_CP_cells => k_is)
    (case n_CP_parts => k_is)
    (case n_CP_statements => k_is)
    (case n_CP_first => k_is)
    (case n_CP_letters => k_is)
    (case a_link => k_is)
    (case l_link => k_is)
    (case c_link => k_is)
    (case k_link => k_is)
    (case a_parse => k_is)
    (case l_parse => k_is)
    (case c_parse => k_is)
    (case k_parse => k_is)
    (case a_iol => k_is)
    (case l_iol => k_is)
    (case c_iol => k_is)
    (case k_iol => k_is)
    (case a_iio => k_is)
    (case l_iio => k_is)
    (case c_iio => k_is)
    (case k_iio => k_is)
    (case a_let => k_is)
    (case l_let => k_is)
    (case c_let => k_is)
    (case k_let => k_is)
    (case a_fst => k_is)
    (case l_fst => k_is)
    (case c_fst => k_is)
    (case k_fst => k_is)
    (case a_step => k_is)
    (case l_step => k_is)
    (case c_step => k_is)
    (case k_step => k_is)
    (case a_ends => k_is)
    (case l_ends => k_is)
    (case c_ends => k_is)
    (case k_ends => k_is)
    (case a_nxl => k_is)
    (case l_nxl => k_is)
    (case c_nxl => k_is)
    (case k_nxl => k_is)
    (case a_hol => k_is)
    (case l_hol => k_is)
    (case c_hol => k_is)
    (case k_hol => k_is)
    (case a_res => k_is)
    (case l_res => k_is)
    (case c_res => k_is)
    (case k_res => k_is)
    (case a_cea => k_is)
    (case l_cea => k_is)
    (case c_cea => k_is)
    (case k_cea => k_is)
    (case a_lat => k_is)
    (case l_lat => k_is)
    (case c_lat => k_is)
    (case k_lat => k_is)
    (case a_ist => k_is)
    (case l_ist => k_is)
    (case c_ist => k_is)
    (case k_ist => k_is)
    (case a_chk => k_is)
    (case l_chk => k_is)
    (case c_chk => k_is)
    (case k_chk => k_is)
    (case a_mar => k_is)
    (case l_mar => k_is)
    (case c_mar => k_is)
    (case k_mar => k_is)
    (case a_run => k_is)
    (case l_run => k_is)
    (case c_run => k_is)
    (case k_run => k_is)
    (case a_rop => k_is)
    (case l_rop => k_is)
    (case c_rop => k_is)
    (case k_rop => k_is)
    (case a_pot => k_is)
    (case l_pot => k_is)
    (case c_pot => k_is)
    (case k_pot => k_is)
    (case a_take => k_is)
    (case l_take => k_is)
    (case c_take => k_is)
    (case k_take => k_is)
    (case a_of => k_is)
    (case l_of => k_is)
    (case c_of => k_is)
    (case k_of => k_is)
    (case a_k0 => k_is)
    (case l_k0 => k_is)
    (case c_k0 => k_is)
    (case k_k0 => k_is)
    (case a_k1 => k_is)
    (case l_k1 => k_is)
    (case c_k1 => k_is)
    (case k_k1 => k_is)
    (case a_k2 => k_is)
    (case l_k2 => k_is)
    (case c_k2 => k_is)
    (case k_k2 => k_is)
    (case a_k3 => k_is)
    (case l_k3 => k_is)
    (case c_k3 => k_is)
    (case k_k3 => k_is)
    (case a_ism => k_is)
    (case l_ism => k_is)
    (case c_ism => k_is)
    (case k_ism => k_is)
    (case a_alm => k_is)
    (case l_alm => k_is)
    (case c_alm => k_is)
    (case k_alm => k_is)
    (case a_k4 => k_is)
    (case l_k4 => k_is)
    (case c_k4 => k_is)
    (case k_k4 => k_is)
    (case a_k5 => k_is)
    (case l_k5 => k_is)
    (case c_k5 => k_is)
    (case k_k5 => k_is)
    (case a_right => k_is)
    (case l_right => k_is)
    (case c_right => k_is)
    (case k_right => k_is)
    (case a_law => k_is)
    (case l_law => k_is)
    (case c_law => k_is)
    (case k_law => k_is)
    (case a_sin => k_is)
    (case i_sin => k_is)
    (case l_sin => k_is)
    (case c_sin => k_is)
    (case k_sin => k_is)
    (case a_pin => k_is)
    (case i_pin => k_is)
    (case l_pin => k_is)
    (case c_pin => k_is)
    (case k_pin => k_is)
    (case a_words_at => k_is)
    (case i_words_at => k_is)
    (case l_words_at => k_is)
    (case c_words_at => k_is)
    (case k_words_at => k_is)
    (case a_read_program => k_is)
    (case i_read_program => k_is)
    (case l_read_program => k_is)
    (case c_read_program => k_is)
    (case k_read_program => k_is)
    (case a_read_symbols => k_is)
    (case i_read_symbols => k_is)
    (case l_read_symbols => k_is)
    (case c_read_symbols => k_is)
    (case k_read_symbols => k_is)
    (case a_read_cell => k_is)
    (case i_read_cell => k_is)
    (case l_read_cell => k_is)
    (case c_read_cell => k_is)
    (case k_read_cell => k_is)
    (case a_read_part => k_is)
    (case i_read_part => k_is)
    (case l_read_part => k_is)
    (case c_read_part => k_is)
    (case k_read_part => k_is)
    (case a_is_new_name => k_is)
    (case i_is_new_name => k_is)
    (case l_is_new_name => k_is)
    (case c_is_new_name => k_is)
    (case k_is_new_name => k_is)
    (case a_read_whole_body => k_is)
    (case i_read_whole_body => k_is)
    (case l_read_whole_body => k_is)
    (case c_read_whole_body => k_is)
    (case k_read_whole_body => k_is)
    (case a_read_body => k_is)
    (case i_read_body => k_is)
    (case l_read_body => k_is)
    (case c_read_body => k_is)
    (case k_read_body => k_is)
    (case a_read_statement => k_is)
    (case i_read_statement => k_is)
    (case l_read_statement => k_is)
    (case c_read_statement => k_is)
    (case k_read_statement => k_is)
    (case a_given_by => k_is)
    (case i_given_by => k_is)
    (case l_given_by => k_is)
    (case c_given_by => k_is)
    (case k_given_by => k_is)
    (case a_setting_by => k_is)
    (case i_setting_by => k_is)
    (case l_setting_by => k_is)
    (case c_setting_by => k_is)
    (case k_setting_by => k_is)
    (case a_sum_by => k_is)
    (case i_sum_by => k_is)
    (case l_sum_by => k_is)
    (case c_sum_by => k_is)
    (case k_sum_by => k_is)
    (case a_condition_by => k_is)
    (case i_condition_by => k_is)
    (case l_condition_by => k_is)
    (case c_condition_by => k_is)
    (case k_condition_by => k_is)
    (case a_gin => k_is)
    (case i_gin => k_is)
    (case l_gin => k_is)
    (case c_gin => k_is)
    (case k_gin => k_is)
    (case z_enumerate => k_is)
    (case z_dict => k_is)
    (case z_len => k_is)
    (case z_int => k_is)
    (case z_abs => k_is)
    (case z_str => k_is)
    (case z_list => k_is)
    (case z_tuple => k_is)
    (case z_range => k_is)
    (case z_all => k_is)
    (case z_sorted => k_is)
    (case z_set => k_is)
    (case z_zip => k_is)
    (case z_isinstance => k_is)
    (case z_bool => k_is)
    (case z_repr => k_is)
    (case z_max => k_is)
    (case z_min => k_is)
    (case v_ALPHABET => k_is)
    (case v_MOST_CELLS => k_is)
    (case v_MOST_PARTS => k_is)
    (case v_MOST_STATEMENTS => k_is)
    (case v_MOST_BODIES => k_is)
    (case v_LONGEST_NAME => k_is)
    (case v_VALUES => k_is)
    (case l_VALUES => k_is)
    (case v_BARE_WORDS => k_is)
    (case l_BARE_WORDS => k_is)
    (case v_WORDS => k_is)
    (case l_WORDS => k_is)
    (case v_MOVES => first | k_is | rfl)
    (case l_MOVES => first | k_is | rfl)
    (case q1_MOVES => first | k_is | rfl)
    (case q2_MOVES => first | k_is | rfl)
    (case u1_MOVES => first | k_is | rfl)
    (case u2_MOVES => first | k_is | rfl)
    (case lit_MOVES => exact ⟨⟨_, _, rfl, rfl⟩, ⟨_, _, rfl, rfl⟩, trivial⟩)
    (case low_MOVES => first | k_is | rfl)
    (case a_CC => k_is)
    (case hkit => kit_is)
    (case i_ha => k_is)
    (case i_hn => k_is)
    (case i_htk => k_is)
    (case i_hm => k_is)
    (case d1 => decide)
    (case d2 => decide)
    (case d3 => decide)
    (case nT => first | k_is | rfl)
    (case t0_ => first | k_is | rfl)
    (case t1_ => first | k_is | rfl)
    (case t2_ => first | k_is | rfl)
    (case t3_ => first | k_is | rfl)
    (case t4_ => first | k_is | rfl)
    (case t5_ => first | k_is | rfl)
    (case t6_ => first | k_is | rfl)
    (case dP => decide)
  case tb =>
    simp only [Fv.tabs7, List.mem_cons, List.not_mem_nil, or_false] at hp
    rcases hp with rfl | rfl | rfl | rfl | rfl | rfl | rfl
    · exact LamX.TabS.nil (isT _ (.head _))
    · exact LamX.TabS.nil (isT _ (.tail _ (.head _)))
    · exact LamX.TabS.nil (isT _ (.tail _ (.tail _ (.head _))))
    · exact LamX.TabS.nil (isT _ (.tail _ (.tail _ (.tail _ (.head _)))))
    · exact LamX.TabS.nil (isT _ (.tail _ (.tail _ (.tail _ (.tail _ (.head _))))))
    · exact LamX.TabS.nil (isT _ (.tail _ (.tail _ (.tail _ (.tail _ (.tail _ (.head _)))))))
    · exact LamX.TabS.nil (isT _ (.tail _ (.tail _ (.tail _ (.tail _ (.tail _ (.tail _ (.head _))))))))
