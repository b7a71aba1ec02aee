import PyProof.Rows.All
import Wide.All
import OpenK.AllK
import Wide.FinOn
import HandS.ForMost
import HandS.Wide
import HandS.IsInst
import HandS.TupAny
import HandS.Style
import HandS.Deep
import HandS.Conv
import HandS.Codes
import KE.KRevSl
import HandS.ForExc
import HandS.Lambda
import HandS.TryMany
import HandS.ExcInit
import HandS.ExcField
import HandS.Zip
import HandS.Walk
import HandS.More
import HandS.Comp
import HandS.ExcOwn
import PyProof.EnumMake
import PyProof.Draws
import KE.GoesMore
import HandS.ReplaceList
import HandS.ReplaceLit
import HandS.Replace
import HandS.SetTxt0
import HandS.Words
import HandS.Text
import PyProof.StrOps
import PyProof.P3Eq
import HandS.EndTab
import KE.KNestM
import PySem.Challenge.RW_alldeeds_k05_whole_longest_beginnings
set_option Elab.async false
set_option linter.all false
set_option maxRecDepth 100000
namespace My
open PySem L2

/-! ### the text by places -/
def top (i : Nat) : Stmt := PySem.Challenge.pw_alldeeds_k05_whole_longest_beginnings.main.body.getD i (.Pass ⟨0, 0, 0, 0⟩)

/-! ### a def that may be called -/
structure Cal (P : Program) (w : World) (K : PySem.W.Frag) (mg : Str → Option Value) (base : Heap) (x : Str) (k : Nat) (ps : List Str) (sp : Sp) where
  f : Addr
  fd : FuncData
  ok : FnOk P w K mg base CX0 k f fd ps sp
  m : mg x = some (.ref f)
  kp : PySem.W.keepIn K (.ref f) = true
  b : Binds K fd ps []
section
variable {X : Cx} {k j : Nat} {ps : List Str} {sp : Sp} {x : Str} {p pos : Pos} {e : Expr} {es : List Expr} {t : TA}
theorem pe_callC (C : Cal X.prog X.w X.K X.mg X.base x k ps sp) (hr : Room j X.A) (ha : PA X (e :: es) t) (hk : k ≤ j := by omega) (hg : Gl X x := by rfl) (hdb : (x == ("__debug__" : Str)) = false := by decide)
    (he : starEach (e :: es) X.env = (false, eval e X.env) :: starEach es X.env := by rfl) (hpl : (backTo pos (starEach es X.env)).any (·.1) = false := by rfl) :
    PE X (.Call (.Name x p) (e :: es) [] pos) (tCall sp [] E0 t) := pe_call C.ok (hr.mono hk) hg C.m C.kp C.b .nil pass0 ha hdb he hpl
theorem pe_globE {v : V} (h : ∃ u, X.mg x = some u ∧ RelV v u) (hg : Gl X x := by rfl) (hd : (x == ("__debug__" : Str)) = false := by decide) : PE X (.Name x pos) (tC v) := by
  obtain ⟨u, hm, r⟩ := h
  exact pe_glob hg hm r hd
end

/-! ### heaps: all but the object at d is kept -/
def Keep (d : Addr) (H H' : Hp) : Prop := ∀ b o, b ≠ d → H b = some o → H' b = some o
def IsDk (H : Hp) (d : Addr) : Prop := ∃ kvs : List (Key × V), H d = some (.dK kvs)
theorem Keep.refl (d : Addr) (H : Hp) : Keep d H H := fun _ _ _ h => h
theorem Keep.trans {d : Addr} {H H1 H2 : Hp} (a : Keep d H H1) (b : Keep d H1 H2) : Keep d H H2 := fun c o n h => b c o n (a c o n h)
theorem Same.toKeep {d : Addr} {H H' : Hp} (s : Same H H') : Keep d H H' := fun c o _ h => s c o h
theorem same_new {H : Hp} {p : Addr} (h : H p = none) (o : HO) : Same H (upd H p o) := fun b u q => by rw [upd_ne (ne_of_none q h)]; exact q
theorem keep_put {d : Addr} {H : Hp} (o : HO) : Keep d H (upd H d o) := fun b u n q => by rw [upd_ne n]; exact q
theorem rd_keep {d : Addr} {H H' : Hp} {a : Addr} {o : HO} (hd : IsDk H d) (k : Keep d H H') (ho : ∀ kvs, o ≠ .dK kvs) (r : Rd H a o) : Rd H' a o := by
  obtain ⟨kvs, hd⟩ := hd
  have ne : a ≠ d := by
    rintro rfl
    rcases r with r | ⟨ob, r⟩
    · rw [hd] at r; exact ho _ (Option.some.inj r).symm
    · rw [hd] at r; cases r
  rcases r with r | ⟨ob, r⟩
  · exact .inl (k _ _ ne r)
  · exact .inr ⟨ob, k _ _ ne r⟩
variable {K : PySem.W.Frag}
theorem seqL_keep {d : Addr} {H H' : Hp} {a : Addr} {xs : List V} (hd : IsDk H d) (k : Keep d H H') (r : SqL K H a xs) : SqL K H' a xs := by
  rcases r with r | r
  · exact .inl (rd_keep hd k (fun _ z => by cases z) r)
  · exact .inr r
theorem seqT_keep {d : Addr} {H H' : Hp} {a : Addr} {xs : List V} (hd : IsDk H d) (k : Keep d H H') (r : SqT K H a xs) : SqT K H' a xs := by
  rcases r with r | r
  · exact .inl (rd_keep hd k (fun _ z => by cases z) r)
  · exact .inr r
mutual
theorem dp_keep {d : Addr} {H H' : Hp} (hd : IsDk H d) (k : Keep d H H') : ∀ (D : PyData) (v : V), Dp K H v D → Dp K H' v D
  | .none, _, h => by cases h; exact .non
  | .bool b, _, h => by cases h; exact .bl b
  | .int i, _, h => by cases h; exact .int i
  | .str x, _, h => by cases h; exact .str x
  | .list ds, _, h => by cases h with | lst hs ha => exact .lst (seqL_keep hd k hs) (dpAll_keep hd k ds _ ha)
  | .tuple ds, _, h => by cases h with | tup hs ha => exact .tup (seqT_keep hd k hs) (dpAll_keep hd k ds _ ha)
  | .dict _, _, h => by cases h
theorem dpAll_keep {d : Addr} {H H' : Hp} (hd : IsDk H d) (k : Keep d H H') : ∀ (Ds : List PyData) (vs : List V), DpAll K H vs Ds → DpAll K H' vs Ds
  | [], _, h => by cases h; exact .nil
  | D :: Ds, _, h => by cases h with | cons h1 h2 => exact .cons (dp_keep hd k D _ h1) (dpAll_keep hd k Ds _ h2)
end
/-- .. the same where nothing is changed -/
theorem rd_same {H H' : Hp} {a : Addr} {o : HO} (k : Same H H') (r : Rd H a o) : Rd H' a o := by
  rcases r with r | ⟨ob, r⟩
  · exact .inl (k _ _ r)
  · exact .inr ⟨ob, k _ _ r⟩
theorem seqT_same {H H' : Hp} {a : Addr} {xs : List V} (k : Same H H') (r : SqT K H a xs) : SqT K H' a xs := by
  rcases r with r | r
  · exact .inl (rd_same k r)
  · exact .inr r
mutual
theorem dp_same {H H' : Hp} (k : Same H H') : ∀ (D : PyData) (v : V), Dp K H v D → Dp K H' v D
  | .none, _, h => by cases h; exact .non
  | .bool b, _, h => by cases h; exact .bl b
  | .int i, _, h => by cases h; exact .int i
  | .str x, _, h => by cases h; exact .str x
  | .list ds, _, h => by cases h with | lst hs ha => exact .lst (k.seq hs) (dpAll_same k ds _ ha)
  | .tuple ds, _, h => by cases h with | tup hs ha => exact .tup (seqT_same k hs) (dpAll_same k ds _ ha)
  | .dict _, _, h => by cases h
theorem dpAll_same {H H' : Hp} (k : Same H H') : ∀ (Ds : List PyData) (vs : List V), DpAll K H vs Ds → DpAll K H' vs Ds
  | [], _, h => by cases h; exact .nil
  | D :: Ds, _, h => by cases h with | cons h1 h2 => exact .cons (dp_same k D _ h1) (dpAll_same k Ds _ h2)
end

/-! ### what isinstance says of data -/
def tagOf : PyData → String
  | .none => "NoneType" | .bool _ => "bool" | .int _ => "int" | .str _ => "str" | .list _ => "list" | .tuple _ => "tuple" | .dict _ => "dict"
theorem tyx_of {H : Hp} {v : V} {D : PyData} (h : Dp K H v D) : TyX K H v (.type (tagOf D)) := by
  cases h with
  | non => exact .base .non
  | bl b => exact .base (.bl b)
  | int i => exact .base (.int i)
  | str x => exact .base (.str x)
  | lst hs _ =>
    rcases hs with (hs | ⟨o, hs⟩) | ⟨o, its, n, lk, c, _⟩
    · exact .base (.lst hs)
    · exact .base (.frz hs)
    · exact .kList lk c
  | tup hs _ =>
    rcases hs with (hs | ⟨o, hs⟩) | ⟨o, its, n, lk, c, _⟩
    · exact .base (.tup hs)
    · exact .fTuple hs
    · exact .kTuple lk c
def isStrD : PyData → Bool | .str _ => true | _ => false
def isTupD : PyData → Bool | .tuple _ => true | _ => false
def isBoolD : PyData → Bool | .bool _ => true | _ => false
theorem kit_str (D : PyData) : PySem.W.kitOne K (.type (tagOf D)) (.type "str") = some (isStrD D) := by
  cases D <;> (refine kit_ty ?_; simp only [tagOf, isStrD]; decide +kernel)
theorem kit_tuple (D : PyData) : PySem.W.kitOne K (.type (tagOf D)) (.type "tuple") = some (isTupD D) := by
  cases D <;> (refine kit_ty ?_; simp only [tagOf, isTupD]; decide +kernel)
theorem kit_bool (D : PyData) : PySem.W.kitOne K (.type (tagOf D)) (.type "bool") = some (isBoolD D) := by
  cases D <;> (refine kit_ty ?_; simp only [tagOf, isBoolD]; decide +kernel)
theorem kit_dict_str : PySem.W.kitOne K (.type "dict") (.type "str") = some false := kit_ty (by decide +kernel)
theorem kit_dict_tuple : PySem.W.kitOne K (.type "dict") (.type "tuple") = some false := kit_ty (by decide +kernel)

/-! ### a comprehension over a text -/
theorem lc_str {x : Str} {g : TG} {tt : TT} {te : TE} {vs : List Nat} {σ : St} {H1 : Hp} {D : Addr} {Qd : Hp → Prop} (Pv : Nat → Hp → Prop) (h0 : Pv 0 (upd H1 D (.lst [])))
    (hs : ∀ i c H, x.cps.toList[i]? = some c → Pv i H → g (.str ⟨#[c]⟩) (wipe σ vs) H fun σ2 H2 => wipe σ2 vs = wipe σ vs ∧ tt σ2 H2 fun b H3 =>
      if b = true then te σ2 H3 fun y H4 => ∃ acc, H4 D = some (.lst acc) ∧ acc.length < sizeLine ∧ Pv (i + 1) (upd H4 D (.lst (acc ++ [y]))) else Pv (i + 1) H3) (hd : ∀ H, Pv x.cps.toList.length H → Qd H) :
    ∃ W : Nat → Nat → Hp → Prop, (∃ m, W 0 m (upd H1 D (.lst []))) ∧ ∀ i m H, W i m H →
      ((Its x).stop i H ∧ Qd H) ∨ ((Its x).go i H ∧ ∃ Nx : Hp → Prop, (∀ H', Nx H' → ∃ m', m' < m ∧ W (i + 1) m' H') ∧ ∀ x_1 H', (Its x).yld i H x_1 H' → g x_1 (wipe σ vs) H' fun σ2 H2 => wipe σ2 vs = wipe σ vs ∧ tt σ2 H2 fun b H3 =>
        if b = true then te σ2 H3 fun y H4 => ∃ acc, H4 D = some (.lst acc) ∧ acc.length < sizeLine ∧ Nx (upd H4 D (.lst (acc ++ [y]))) else Nx H3) := by
  refine ⟨fun i m H => m = x.cps.size - i ∧ i ≤ x.cps.size ∧ Pv i H, ⟨x.cps.size, by simp, Nat.zero_le _, h0⟩, ?_⟩
  rintro i m H ⟨rfl, hi, p⟩
  by_cases hlt : i < x.cps.size
  · refine .inr ⟨hlt, Pv (i + 1), fun H' p' => ⟨x.cps.size - (i + 1), by omega, rfl, hlt, p'⟩, fun v H' y => ?_⟩
    obtain ⟨e, c, hc, ev⟩ := y
    subst e ev
    exact hs i c _ (by rw [Array.getElem?_toList]; exact hc) p
  · have e : i = x.cps.size := by omega
    subst e
    exact .inl ⟨Nat.le_refl _, hd H p⟩
theorem same_fresh {H H' : Hp} {D : Addr} {o : HO} (k : Same H H') (n : H D = none) : Same H (upd H' D o) := fun b u q => by rw [upd_ne (ne_of_none q n)]; exact k _ _ q
theorem keep_fresh {d : Addr} {H H' : Hp} {D : Addr} {o : HO} (k : Keep d H H') (n : H D = none) : Keep d H (upd H' D o) := fun b u nd q => by rw [upd_ne (ne_of_none q n)]; exact k _ _ nd q
theorem take_next {α : Type} {xs : List α} {i : Nat} {c : α} (h : xs[i]? = some c) : xs.take (i + 1) = xs.take i ++ [c] := by
  rw [List.take_add_one, h]
  rfl

/-! ### names and forms -/
def zLetters : Str := Str.ofString "abcdefghijklmnopqrstuvwxyz"
def zDigits : Str := Str.ofString "0123456789"
def isL (c : Nat) : Bool := decide (c ∈ zLetters.cps.toList)
def isLD (c : Nat) : Bool := isL c || decide (c ∈ zDigits.cps.toList)
def isName (z : Str) : Bool := decide (1 ≤ z.length ∧ z.length ≤ 12) && ((z.cps.toList.head?.any isL) && z.cps.toList.all isLD)
def isNameD : PyData → Bool | .str z => isName z | _ => false
theorem inV_str (x : Str) : ∀ zs : List Str, inV (.str x) (zs.map V.str) = decide (x ∈ zs)
  | [] => by simp [inV]
  | z :: zs => by
    have ih := inV_str x zs
    unfold inV at ih ⊢
    rw [List.map_cons, List.any_cons, ih]
    by_cases e : z = x
    · subst e
      simp [eqV]
    · have e' : ¬ x = z := fun q => e q.symm
      simp [eqV, e, e']
def leafW : List Str := [Str.ofString "good", Str.ofString "counter"]
def halfW : List Str := [Str.ofString "both", Str.ofString "between", Str.ofString "offered", Str.ofString "chosen"]
def isForm : Nat → PyData → Bool
  | _, .tuple [.str x, n] => decide (x ∈ leafW) && isNameD n
  | 0, _ => false
  | k + 1, .tuple [.str x, a, b] => decide (x ∈ halfW) && (isForm k a && isForm k b)
  | _ + 1, _ => false
theorem isForm_tup2 (k : Nat) (a n : PyData) : isForm k (.tuple [a, n]) = (match a with | .str x => decide (x ∈ leafW) && isNameD n | _ => false) := by
  cases k <;> cases a <;> rfl
theorem isForm_tup3_0 (a b c : PyData) : isForm 0 (.tuple [a, b, c]) = false := by cases a <;> rfl
theorem isForm_tup3 (k : Nat) (a b c : PyData) : isForm (k + 1) (.tuple [a, b, c]) = (match a with | .str x => decide (x ∈ halfW) && (isForm k b && isForm k c) | _ => false) := by
  cases a <;> rfl
theorem isForm_tup_len (k : Nat) (ds : List PyData) (h2 : ds.length ≠ 2) (h3 : ds.length ≠ 3) : isForm k (.tuple ds) = false := by
  match ds, h2, h3 with
  | [], _, _ => cases k <;> rfl
  | [a], _, _ => cases k <;> cases a <;> rfl
  | [a, b], h, _ => exact absurd rfl h
  | [a, b, c], _, h => exact absurd rfl h
  | a :: b :: c :: d :: r, _, _ => cases k <;> cases a <;> rfl
theorem isForm_not_tup (k : Nat) (D : PyData) (h : isTupD D = false) : isForm k D = false := by
  cases D with
  | tuple ds => cases h
  | _ => cases k <;> rfl
def okStr (z : Str) : Bool := decide (z.length ≤ 1000) && z.cps.toList.all fun c => decide (c < 128)
mutual
def shortD : PyData → Bool
  | .str z => okStr z
  | .list xs => shortAll xs
  | .tuple xs => shortAll xs
  | .dict _ => false
  | _ => true
def shortAll : List PyData → Bool
  | [] => true
  | d :: ds => shortD d && shortAll ds
end
theorem shortAll_cons {d : PyData} {ds : List PyData} (h : shortAll (d :: ds) = true) : shortD d = true ∧ shortAll ds = true := by
  unfold shortAll at h
  exact Bool.and_eq_true_iff.mp h
theorem short_str {D : PyData} (h : shortD D = true) : ∀ z, D = .str z → z.length ≤ 1000 := by
  rintro z rfl
  unfold shortD okStr at h
  exact of_decide_eq_true (Bool.and_eq_true_iff.mp h).1
theorem strOk_of {z : Str} (h : okStr z = true) : PyData.strOk z = true := by
  unfold okStr at h
  unfold PyData.strOk
  have h2 := (Bool.and_eq_true_iff.mp h).2
  rw [List.all_eq_true] at h2
  rw [Array.all_eq_true']
  intro c hc
  have := of_decide_eq_true (h2 c (Array.mem_toList_iff.mpr hc))
  exact decide_eq_true (by omega)
mutual
theorem canLay_of : ∀ D : PyData, shortD D = true → D.canLay0 = true
  | .none, _ => by simp only [PyData.canLay0]
  | .bool _, _ => by simp only [PyData.canLay0]
  | .int _, _ => by simp only [PyData.canLay0]
  | .str x, h => by
    unfold shortD at h
    simp only [PyData.canLay0]
    exact strOk_of h
  | .list xs, h => by
    unfold shortD at h
    simp only [PyData.canLay0]
    exact canLayAll_of xs h
  | .tuple xs, h => by
    unfold shortD at h
    simp only [PyData.canLay0]
    exact canLayAll_of xs h
  | .dict _, h => by cases h
theorem canLayAll_of : ∀ xs : List PyData, shortAll xs = true → PyData.canLayAll0 xs = true
  | [], _ => by simp only [PyData.canLayAll0]
  | x :: xs, h => by
    have h' := shortAll_cons h
    simp only [PyData.canLayAll0, canLay_of x h'.1, canLayAll_of xs h'.2, Bool.and_self]
end
theorem shaped_of {D : PyData} (h : shortD D = true) (d : D.depth ≤ 64) : SeqAt.shaped D = true := by
  unfold SeqAt.shaped
  rw [canLay_of D h, decide_eq_true d]
  rfl
theorem depth_in {d : PyData} {ds : List PyData} (h : d ∈ ds) : d.depth + 1 ≤ (PyData.tuple ds).depth := by
  have key : ∀ ds : List PyData, d ∈ ds → d.depth ≤ PyData.depthAll ds := by
    intro ds
    induction ds with
    | nil => intro h; cases h
    | cons x xs ih =>
      intro h
      simp only [PyData.depthAll]
      rcases List.mem_cons.mp h with rfl | h
      · exact Nat.le_max_left _ _
      · exact Nat.le_trans (ih h) (Nat.le_max_right _ _)
  simp only [PyData.depth]
  have := key ds h
  omega
def memD (d : PyData) (zs : List Str) : Bool := match d with | .str x => decide (x ∈ zs) | _ => false
theorem any_eqv (d : PyData) : ∀ zs : List Str, ((zs.map PyData.str).any fun z => PyData.eqv z d) = memD d zs
  | [] => by cases d <;> rfl
  | z :: zs => by
    rw [List.map_cons, List.any_cons, any_eqv d zs]
    cases d with
    | str x =>
      unfold memD PyData.eqv
      by_cases e : z = x
      · subst e; simp
      · have e' : ¬ x = z := fun q => e q.symm
        simp [e, e']
    | _ => simp [memD, PyData.eqv]
theorem dpAll_strs {H : Hp} : ∀ zs : List Str, DpAll K H (zs.map V.str) (zs.map PyData.str)
  | [] => .nil
  | z :: zs => .cons (.str z) (dpAll_strs zs)
theorem dpAll_len {H : Hp} : ∀ {xs : List V} {ds : List PyData}, DpAll K H xs ds → xs.length = ds.length
  | _, _, .nil => rfl
  | _, _, .cons _ t => congrArg (· + 1) (dpAll_len t)
theorem inV_23 (n : Nat) : inV (.int n) [.int 2, .int 3] = (decide (n = 2) || decide (n = 3)) := by
  unfold inV
  simp only [List.any_cons, List.any_nil, Bool.or_false]
  have h2 : eqV (.int 2) (.int (n : Int)) = decide (n = 2) := by
    by_cases e : n = 2
    · subst e; rfl
    · rw [decide_eq_false e]
      show (if _ then _ else _) = _ <;> simp [eqV] <;> omega
  have h3 : eqV (.int 3) (.int (n : Int)) = decide (n = 3) := by
    by_cases e : n = 3
    · subst e; rfl
    · rw [decide_eq_false e]
      simp [eqV]
      omega
  rw [h2, h3]
end My

set_option Elab.async false
set_option linter.all false
set_option maxRecDepth 100000
namespace My
open PySem L2

structure Txt (K : PySem.W.Frag) (mg : Str → Option Value) where
  isinstance : mg "isinstance" = none
  len : mg "len" = none
  all : mg "all" = none
  str : mg "str" = none
  tuple : mg "tuple" = none
  int : mg "int" = none
  list : mg "list" = none
  abs : mg "abs" = none
  max : mg "max" = none
  min : mg "min" = none
  range : mg "range" = none
  bool : mg "bool" = none
  LETTERS : ∃ u, mg "LETTERS" = some u ∧ RelV (.str zLetters) u
  DIGITS : ∃ u, mg "DIGITS" = some u ∧ RelV (.str zDigits) u
  LONGEST_NAME : ∃ u, mg "LONGEST_NAME" = some u ∧ RelV (.int 12) u
  DEEPEST : ∃ u, mg "DEEPEST" = some u ∧ RelV (.int 12) u

/-- what is said of a name -/
def spName (K : PySem.W.Frag) : Sp := fun vs H Q _ => ∃ v, vs = [v] ∧
  ((∃ D, Dp K H v D ∧ (∀ z, D = .str z → z.length ≤ 1000) ∧ ∀ H', Same H H' → Q (.bl (isNameD D)) H') ∨ ((∃ (a : Addr) (kvs : List (Key × V)), v = .ref a ∧ H a = some (.dK kvs)) ∧ ∀ H', Same H H' → Q (.bl false) H'))

abbrev Nfits_name : List Str := ["value", "sign"]
abbrev Pfits_name : List Str := ["value"]
section
variable {P : Program} {w : World} {K : PySem.W.Frag} {mg : Str → Option Value} {base : Heap} {f : Addr} {fd : FuncData}

end
end My

set_option Elab.async false
set_option linter.all false
set_option maxRecDepth 100000
namespace My
open PySem L2
abbrev Nfits_form : List Str := ["value", "room"]
abbrev Pfits_form : List Str := ["value", "room"]
def spForm (K : PySem.W.Frag) (n : Nat) : Sp := fun vs H Q _ => ∃ (v : V) (k : Nat), vs = [v, .int k] ∧ k < n ∧
  ((∃ D, Dp K H v D ∧ shortD D = true ∧ ∀ H', Same H H' → Q (.bl (isForm k D)) H') ∨ ((∃ (a : Addr) (kvs : List (Key × V)), v = .ref a ∧ H a = some (.dK kvs)) ∧ ∀ H', Same H H' → Q (.bl false) H'))
section
variable {P : Program} {w : World} {K : PySem.W.Frag} {mg : Str → Option Value} {base : Heap} {f : Addr} {fd : FuncData}

end
end My

set_option Elab.async false
set_option linter.all false
set_option maxRecDepth 100000
namespace My
open PySem L2
abbrev N_law_is_name : List Str := ["_law_value", "_law_sign"]
abbrev P_law_is_name : List Str := ["_law_value"]
abbrev N_law_is_form : List Str := ["_law_value", "_law_tall"]
abbrev P_law_is_form : List Str := ["_law_value", "_law_tall"]
abbrev Nis_name : List Str := ["value"]
abbrev Pis_name : List Str := ["value"]
abbrev Nis_form : List Str := ["value"]
abbrev Pis_form : List Str := ["value"]
abbrev N_law_says : List Str := ["_law_told", "_law_due"]
abbrev P_law_says : List Str := ["_law_told", "_law_due"]
def zBoth : Str := Str.ofString "abcdefghijklmnopqrstuvwxyz0123456789"
theorem isLD_both (c : Nat) : decide (c ∈ zBoth.cps.toList) = isLD c := by
  have e : zBoth.cps.toList = zLetters.cps.toList ++ zDigits.cps.toList := by decide +kernel
  unfold isLD isL
  rw [e, ← Bool.decide_or]
  exact decide_eq_decide.mpr List.mem_append
theorem head_some {z : Str} (h : 1 ≤ z.length) : ∃ c, z.cps.toList[0]? = some c := ⟨_, List.getElem?_eq_getElem (by rw [Array.length_toList]; show 0 < z.length; omega)⟩
theorem isName_eq {z : Str} {c : Nat} (h1 : 1 ≤ z.length) (h2 : z.length ≤ 12) (hc : z.cps.toList[0]? = some c) : isName z = (isL c && z.cps.toList.all isLD) := by
  have hh : z.cps.toList.head? = some c := by rw [List.head?_eq_getElem?]; exact hc
  unfold isName
  rw [hh, decide_eq_true ⟨h1, h2⟩]
  rfl
theorem isName_out {z : Str} (h : ¬ (1 ≤ z.length ∧ z.length ≤ 12)) : isName z = false := by
  unfold isName
  rw [decide_eq_false h]
  rfl
theorem isForm_m2 (k : Nat) (a n : PyData) : isForm k (.tuple [a, n]) = (memD a leafW && isNameD n) := by rw [isForm_tup2]; cases a <;> rfl
theorem isForm_m3 (k : Nat) (a b c : PyData) : isForm (k + 1) (.tuple [a, b, c]) = (memD a halfW && (isForm k b && isForm k c)) := by rw [isForm_tup3]; cases a <;> rfl
/-- what is said of a form, all of which may be compared -/
def spFormL (K : PySem.W.Frag) (n : Nat) : Sp := fun vs H Q _ => ∃ (v : V) (k : Nat) (D : PyData), vs = [v, .int k] ∧ k < n ∧ Dp K H v D ∧ shortD D = true ∧ D.depth ≤ 60 ∧ ∀ H', Same H H' → Q (.bl (isForm k D)) H'
def spIsForm (K : PySem.W.Frag) : Sp := fun vs H Q _ => ∃ (v : V), vs = [v] ∧
  ((∃ D, Dp K H v D ∧ shortD D = true ∧ ∀ H', Same H H' → Q (.bl (isForm 12 D)) H') ∨ ((∃ (a : Addr) (kvs : List (Key × V)), v = .ref a ∧ H a = some (.dK kvs)) ∧ ∀ H', Same H H' → Q (.bl false) H'))
def spSays : Sp := fun vs H Q _ => ∃ a b : Bool, vs = [.bl a, .bl b] ∧ Q (.bl (a == b)) H
section
variable {P : Program} {w : World} {K : PySem.W.Frag} {mg : Str → Option Value} {base : Heap} {f : Addr} {fd : FuncData}
end
end My

set_option Elab.async false
set_option linter.all false
set_option maxRecDepth 100000
namespace My
open PySem L2
/-! ### the source of draws -/
def penK (L : Addr) (b l : Int) : List (Key × V) := [(.inr (Str.ofString "cells"), .ref L), (.inr (Str.ofString "begun"), .int b), (.inr (Str.ofString "left"), .int l)]
structure Pen (K : PySem.W.Frag) (H : Hp) (d L : Addr) (ns : List Int) (n : Nat) : Prop where
  ex : ∃ b l : Int, H d = some (.dK (penK L b l)) ∧ 0 ≤ b ∧ b ≤ n
  cells : SqL K H L (ns.map V.int)
  few : ns.length ≤ 63
section
variable {K : PySem.W.Frag} {H H' : Hp} {d L : Addr} {ns : List Int} {n m : Nat}
theorem Pen.isDk (p : Pen K H d L ns n) : IsDk H d := by
  obtain ⟨b, l, h, _⟩ := p.ex
  exact ⟨_, h⟩
theorem Pen.same (p : Pen K H d L ns n) (k : Same H H') : Pen K H' d L ns n := by
  obtain ⟨b, l, h, h0⟩ := p.ex
  exact ⟨⟨b, l, k _ _ h, h0⟩, k.seq p.cells, p.few⟩
theorem Pen.mono (p : Pen K H d L ns n) (h : n ≤ m) : Pen K H d L ns m := by
  obtain ⟨b, l, e, h0, h1⟩ := p.ex
  exact ⟨⟨b, l, e, h0, by omega⟩, p.cells, p.few⟩
/-- .. behind a change elsewhere: D is new since H -/
theorem Pen.fresh {D : Addr} {o : HO} {H0 : Hp} (p : Pen K H d L ns n) (k : Keep d H0 H) (c0 : SqL K H0 L (ns.map V.int)) (hd : IsDk H0 d) (nD : H0 D = none) : Pen K (upd H D o) d L ns n := by
  obtain ⟨b, l, h, h0⟩ := p.ex
  have ne : d ≠ D := by
    obtain ⟨kvs, e⟩ := hd
    exact ne_of_none e nD
  exact ⟨⟨b, l, by rw [upd_ne ne]; exact h, h0⟩, seqL_keep hd (keep_fresh k nD) c0, p.few⟩
theorem Pen.put {b l : Int} (p : Pen K H d L ns n) (h0 : 0 ≤ b) (h1 : b ≤ m) : Pen K (upd H d (.dK (penK L b l))) d L ns m :=
  ⟨⟨b, l, upd_same, h0, h1⟩, seqL_keep p.isDk (keep_put _) p.cells, p.few⟩
theorem get_cells {b l : Int} (h : H d = some (.dK (penK L b l))) : DGet H d (.str (Str.ofString "cells")) (some (.ref L)) := DGet.k (k := .inr (Str.ofString "cells")) h
theorem get_begun {b l : Int} (h : H d = some (.dK (penK L b l))) : DGet H d (.str (Str.ofString "begun")) (some (.int b)) := DGet.k (k := .inr (Str.ofString "begun")) h
theorem get_left {b l : Int} (h : H d = some (.dK (penK L b l))) : DGet H d (.str (Str.ofString "left")) (some (.int l)) := DGet.k (k := .inr (Str.ofString "left")) h
theorem put_begun {b l b' : Int} (h : H d = some (.dK (penK L b l))) : DPut H d (.str (Str.ofString "begun")) (.int b') (upd H d (.dK (penK L b' l))) := DPut.k (k := .inr (Str.ofString "begun")) h (by show 3 < sizeLine; decide)
theorem put_left {b l l' : Int} (h : H d = some (.dK (penK L b l))) : DPut H d (.str (Str.ofString "left")) (.int l') (upd H d (.dK (penK L b l'))) := DPut.k (k := .inr (Str.ofString "left")) h (by show 3 < sizeLine; decide)
theorem dpAll_ints : ∀ ns : List Int, DpAll K H (ns.map V.int) (ns.map PyData.int)
  | [] => .nil
  | n :: ns => .cons (.int n) (dpAll_ints ns)
theorem shaped_ints (ns : List Int) : SeqAt.shaped (.list (ns.map PyData.int)) = true := by
  have h1 : ∀ ns : List Int, PyData.canLayAll0 (ns.map PyData.int) = true := by
    intro ns
    induction ns with
    | nil => simp only [List.map_nil, PyData.canLayAll0]
    | cons n ns ih => simp only [List.map_cons, PyData.canLayAll0, PyData.canLay0, ih, Bool.and_self]
  have h2 : ∀ ns : List Int, PyData.depthAll (ns.map PyData.int) = 0 := by
    intro ns
    induction ns with
    | nil => simp only [List.map_nil, PyData.depthAll]
    | cons n ns ih => simp only [List.map_cons, PyData.depthAll, PyData.depth, ih, Nat.max_self]
  unfold SeqAt.shaped
  simp only [PyData.canLay0, PyData.depth, h1, h2]
  decide
theorem eqv_nil (ns : List Int) : PyData.eqv (.list (ns.map PyData.int)) (.list []) = ns.isEmpty := by
  cases ns <;> simp [PyData.eqv, PyData.eqvAll]
end
abbrev s_law_begin : Stmt := top 31
abbrev N_law_begin : List Str := ["_law_script"]
abbrev P_law_begin : List Str := ["_law_script"]
theorem sc_law_begin : FnScope N_law_begin P_law_begin (defScope s_law_begin) := ⟨rfl, rfl, rfl, by decide +kernel, rfl, by decide +kernel, by decide +kernel⟩
abbrev s_law_draw : Stmt := top 32
abbrev N_law_draw : List Str := ["_law_pen", "_law_span", "_law_digit", "_law_at", "_law_cell", "_law_n"]
abbrev P_law_draw : List Str := ["_law_pen", "_law_span"]
theorem sc_law_draw : FnScope N_law_draw P_law_draw (defScope s_law_draw) := ⟨rfl, rfl, rfl, by decide +kernel, rfl, by decide +kernel, by decide +kernel⟩
abbrev s_law_pick : Stmt := top 33
abbrev N_law_pick : List Str := ["_law_pen", "_law_some"]
abbrev P_law_pick : List Str := ["_law_pen", "_law_some"]
theorem sc_law_pick : FnScope N_law_pick P_law_pick (defScope s_law_pick) := ⟨rfl, rfl, rfl, by decide +kernel, rfl, by decide +kernel, by decide +kernel⟩
def spBegin (K : PySem.W.Frag) : Sp := fun vs H Q _ => ∃ (a : Addr) (ns : List Int), vs = [.ref a] ∧ SqL K H a (ns.map V.int) ∧ ns.length ≤ 63 ∧ ∀ d L H', Same H H' → Pen K H' d L ns 0 → Q (.ref d) H'
def spDraw (K : PySem.W.Frag) : Sp := fun vs H Q _ => ∃ (d L : Addr) (ns : List Int) (n : Nat) (m : Int), vs = [.ref d, .int m] ∧ Pen K H d L ns n ∧ n < 2 ^ 40 ∧ 0 < m ∧ m ≤ 2 ^ 20 ∧
  ∀ (r : Int) H', 0 ≤ r → r < m → Keep d H H' → Pen K H' d L ns (n + 1) → Q (.int r) H'
def spPick (K : PySem.W.Frag) : Sp := fun vs H Q _ => ∃ (d L : Addr) (ns : List Int) (n : Nat) (v : V), vs = [.ref d, v] ∧ Pen K H d L ns n ∧ n < 2 ^ 40 ∧
  ((∃ (a : Addr) (xs : List V), v = .ref a ∧ SqL K H a xs ∧ xs ≠ [] ∧ xs.length ≤ 1000 ∧ ∀ x H', x ∈ xs → Keep d H H' → Pen K H' d L ns (n + 1) → Q x H') ∨
   (∃ z : Str, v = .str z ∧ 1 ≤ z.length ∧ z.length ≤ 1000 ∧ ∀ c H', c ∈ z.cps.toList → Keep d H H' → Pen K H' d L ns (n + 1) → Q (.str ⟨#[c]⟩) H'))
section
variable {P : Program} {w : World} {K : PySem.W.Frag} {mg : Str → Option Value} {base : Heap} {f : Addr} {fd : FuncData}
theorem ok_law_begin (T : Txt K mg) (F : Fun K "_law_begin" "_law_begin" s_law_begin f fd) : FnOk P w K mg base CX0 1 f fd P_law_begin (spBegin K) := by
  refine F.ok sc_law_begin (fun vs H Q E h => ?_) (fun cdv A outer s H vs Q E hr h => ?_)
  · obtain ⟨a, ns, rfl, _⟩ := h
    rfl
  obtain ⟨a, ns, rfl, hS, h63, q⟩ := h
  refine ⟨_, (pss_one (ps_ret (pe_disp (pps_cons pe_str (pe_callTy call_list_of rfl T.list (by decide +kernel) (pa_cons (pe_slice sl_list (pv 0) po_none (po_some pe_int)) pa_nil)) (pps_cons pe_str pe_int (pps_cons pe_str pe_int pps_nil))) (by rfl) (by rfl) (fun z => by cases z) (by decide)))), ?_⟩
  refine fun d nd => ⟨_, rfl, _, rfl, a, _, rfl, (same_new nd _).seq hS, fun p1 n1 => ⟨p1, _, rfl, .inl (SqL.of upd_same), fun p2 n2 => ⟨?_, penK p2 0 0, rfl, by show 3 ≤ 15; decide, ?_⟩⟩⟩
  · have e1 : upd (upd H d (.dK [])) p1 (.lst (cutV (ns.map V.int) none (some 63))) d = some (.dK []) := same_new n1 _ _ _ upd_same
    exact same_new n2 _ _ _ e1
  · have e1 : upd (upd H d (.dK [])) p1 (.lst (cutV (ns.map V.int) none (some 63))) d = some (.dK []) := same_new n1 _ _ _ upd_same
    have ne : p2 ≠ d := fun z => (ne_of_none e1 n2) z.symm
    have c : cutV (ns.map V.int) none (some 63) = ns.map V.int := by
      have el : (ns.map V.int).length = ns.length := List.length_map _
      show (ns.map V.int).take (min 63 (ns.map V.int).length - 0) = _
      rw [Nat.min_eq_right (by omega), Nat.sub_zero, List.take_length]
    refine q d p2 _ ?_ ⟨⟨0, 0, upd_same, by omega, by omega⟩, ?_, h63⟩
    · exact fun b o hb => by
        have nb : b ≠ d := ne_of_none hb nd
        rw [upd_ne nb]
        exact same_new n2 _ _ _ (same_new n1 _ _ _ (same_new nd _ _ _ hb))
    · refine SqL.of ?_
      rw [upd_ne ne, upd_same, c]
theorem ok_law_draw (T : Txt K mg) (F : Fun K "_law_draw" "_law_draw" s_law_draw f fd) : FnOk P w K mg base CX0 1 f fd P_law_draw (spDraw K) := by
  refine F.ok sc_law_draw (fun vs H Q E h => ?_) (fun cdv A outer s H vs Q E hr h => ?_)
  · obtain ⟨d, L, ns, n, m, rfl, _⟩ := h
    rfl
  obtain ⟨d, L, ns, n, m, rfl, p, hn, hm, hm2, q⟩ := h
  refine ⟨_, (pss_cons (ps_if (pt_cmpR op_gt (pe_dget (hu_of hr) (pv 0) pe_str (fun _ _ => rfl)) pe_int (nomark _))
    (pss_cons (ps_set (i := 2) sc_law_draw.nd rfl (Or.inl rfl) (pe_op op_mod (pe_callTy call_int1 rfl T.int (by decide +kernel) (pa_cons (pe_dget (hu_of hr) (pv 0) pe_str (fun _ _ => rfl)) pa_nil)) (pv 1)))
    (pss_cons (ps_dput (hu_of hr) (pv 0) pe_str (pe_op op_fdivW (pe_dget (hu_of hr) (pv 0) pe_str (fun _ _ => rfl)) (pv 1)) rfl)
    (pss_one (ps_ret (pv 2)))))
    pss_nil)
  (pss_cons (ps_set (i := 3) sc_law_draw.nd rfl (Or.inl rfl) (pe_dget (hu_of hr) (pv 0) pe_str (fun _ _ => rfl)))
  (pss_cons (ps_dput (hu_of hr) (pv 0) pe_str (pe_op op_add (pv 3) pe_int) rfl)
  (pss_cons (ps_set (i := 4) sc_law_draw.nd rfl (Or.inl rfl) (pe_op op_add (pe_op op_mul pe_int (pv 3)) pe_int))
  (pss_cons (ps_if (pt_cmpR (op_neD hr.units) (pe_dget (hu_of hr) (pv 0) pe_str (fun _ _ => rfl)) (pe_lst pa_nil) (nomark _))
    (pss_one (ps_set (i := 4) sc_law_draw.nd rfl (Or.inl rfl) (pe_ix ix_list (pe_dget (hu_of hr) (pv 0) pe_str (fun _ _ => rfl)) (pe_op op_mod (pe_callTy call_int1 rfl T.int (by decide +kernel) (pa_cons (pv 3) pa_nil)) (pe_callB call_len rfl T.len (by decide +kernel) (pa_cons (pe_dget (hu_of hr) (pv 0) pe_str (fun _ _ => rfl)) pa_nil))) (fun _ _ => rfl))))
    pss_nil)
  (pss_cons (ps_if (PW.pt (pw_and (pt_cmpR op_lt (pv 3) (pe_callB call_len rfl T.len (by decide +kernel) (pa_cons (pe_dget (hu_of hr) (pv 0) pe_str (fun _ _ => rfl)) pa_nil)) (nomark _)) (pw_and1 (pt_cmpR op_ge (pe_callB call_abs rfl T.abs (by decide +kernel) (pa_cons (pv 4) pa_nil)) (pe_op op_pow pe_int pe_int) (nomark _)))))
    (pss_cons (ps_dput (hu_of hr) (pv 0) pe_str (pe_op op_fdivW (pe_op op_sub (pe_callB call_abs rfl T.abs (by decide +kernel) (pa_cons (pv 4) pa_nil)) (pe_op op_pow pe_int pe_int)) (pv 1)) rfl)
    (pss_one (ps_ret (pe_op op_mod (pe_callTy call_int1 rfl T.int (by decide +kernel) (pa_cons (pe_op op_sub (pe_callB call_abs rfl T.abs (by decide +kernel) (pa_cons (pv 4) pa_nil)) (pe_op op_pow pe_int pe_int)) pa_nil)) (pv 1)))))
    pss_nil)
  (pss_cons (ps_set (i := 5) sc_law_draw.nd rfl (Or.inl rfl) (pe_op op_add (pe_op op_mul (pe_op op_mod (pe_callTy call_int1 rfl T.int (by decide +kernel) (pa_cons (pv 4) pa_nil)) pe_int) pe_int) (pe_op op_mul (pe_op op_mul pe_int (pv 3)) (pv 3))))
  (pss_cons (ps_set (i := 5) sc_law_draw.nd rfl (Or.inl rfl) (pe_op op_mod (pe_callTy call_int1 rfl T.int (by decide +kernel) (pa_cons (pe_op op_add (pe_op op_add (pv 5) (pe_op op_mul pe_int (pv 3))) pe_int) pa_nil)) pe_int))
  (pss_cons (ps_set (i := 5) sc_law_draw.nd rfl (Or.inl rfl) (pe_op op_mod (pe_callTy call_int1 rfl T.int (by decide +kernel) (pa_cons (pe_op op_add (pe_op op_add (pe_op op_add (pe_op op_mul (pv 5) (pv 5)) (pe_op op_mul pe_int (pv 5))) (pe_op op_mul pe_int (pv 3))) pe_int) pa_nil)) pe_int))
  (pss_cons (ps_set (i := 5) sc_law_draw.nd rfl (Or.inl rfl) (pe_op op_mod (pe_callTy call_int1 rfl T.int (by decide +kernel) (pa_cons (pe_op op_add (pe_op op_add (pe_op op_mul (pv 5) (pv 5)) (pe_op op_mul pe_int (pv 5))) (pv 3)) pa_nil)) pe_int))
  (pss_one (ps_ret (pe_op op_mod (pe_callTy call_int1 rfl T.int (by decide +kernel) (pa_cons (pe_op op_fdivW (pe_op op_mod (pe_callTy call_int1 rfl T.int (by decide +kernel) (pa_cons (pe_op op_mul (pv 5) (pe_op op_add (pv 5) pe_int)) pa_nil)) pe_int) pe_int) pa_nil)) (pv 1)))))))))))))), ?_⟩
  obtain ⟨b, l, hd, hb0, hbn⟩ := p.ex
  have hb : -(2 ^ 64) < b ∧ b < 2 ^ 64 := by omega
  have hdiv : L2.CDivW 0 m := wide_div hm (b := 21) (by omega) (by decide) (by decide)
  have kd : IsDk H d := p.isDk
  refine ⟨_, rfl, d, _, rfl, get_left hd, _, _, rfl, rfl, _, rfl, ?_⟩
  refine ite2 (fun c => ?_) (fun c => ?_)
  · refine ⟨_, rfl, d, _, rfl, get_left hd, .inl ⟨_, rfl, _, rfl, _, _, rfl, rfl, hm, ?_⟩⟩
    refine ⟨_, rfl, d, _, rfl, get_left hd, _, rfl, _, _, rfl, rfl, hdiv, _, rfl, d, _, rfl, put_left hd, _, rfl, ?_⟩
    exact q _ _ (Int.emod_nonneg _ (by omega)) (Int.emod_lt_of_pos _ hm) (keep_put _) (p.put hb0 (by omega))
  · refine ⟨_, rfl, d, _, rfl, get_begun hd, ?_⟩
    refine ⟨_, rfl, _, _, rfl, rfl, _, rfl, d, _, rfl, put_begun hd, ?_⟩
    have h1 : upd H d (.dK (penK L (b + 1) l)) d = some (.dK (penK L (b + 1) l)) := upd_same
    have p1 : Pen K (upd H d (.dK (penK L (b + 1) l))) d L ns (n + 1) := p.put (by omega) (by omega)
    have k1 : Keep d H (upd H d (.dK (penK L (b + 1) l))) := keep_put _
    generalize upd H d (.dK (penK L (b + 1) l)) = H1 at h1 p1 k1 ⊢
    refine ⟨_, rfl, _, _, rfl, rfl, .inl ⟨by decide, by decide⟩, _, _, rfl, rfl, ?_⟩
    refine ⟨_, rfl, d, _, rfl, get_cells h1, by show 0 ≤ sizeLine; decide, fun p0 np0 => ⟨.list (ns.map PyData.int), .list [], .lst ((same_new np0 _).seq p1.cells) (dpAll_ints ns), .lst (SqL.of upd_same) .nil, shaped_ints ns, by decide, _, rfl, ?_⟩⟩
    have h2 := same_new np0 (.lst []) _ _ h1
    have p2 := p1.same (same_new np0 (.lst []))
    have k2 : Keep d H (upd H1 p0 (.lst [])) := k1.trans (Same.toKeep (same_new np0 (.lst [])))
    generalize upd H1 p0 (.lst []) = H2 at h2 p2 k2 ⊢
    rw [eqv_nil]
    have hlen : ∀ x, (ns.map V.int).length = x → ns.length = x := fun x e => by rw [List.length_map] at e; exact e
    generalize hcv : (101 * b + 47 : Int) = c0
    refine ite2 (fun c1 => ?a) (fun c1 => ?b)
    case' a =>
      have hne : 0 < ns.length := by
        cases ns with
        | nil => cases c1
        | cons _ _ => exact Nat.succ_pos _
      have hpos : (0 : Int) < ((ns.map V.int).length : Nat) := by rw [List.length_map]; omega
      have hlt : (b % ((ns.map V.int).length : Nat)).toNat < ns.length := by
        have h3 := Int.emod_nonneg b (b := (((ns.map V.int).length : Nat) : Int)) (by omega)
        have h4 := Int.emod_lt_of_pos b hpos
        rw [List.length_map] at *
        omega
      have hat : atI (ns.map V.int) (b % ((ns.map V.int).length : Nat)) = some (V.int ns[(b % ((ns.map V.int).length : Nat)).toNat]) := by
        have h3 := Int.emod_nonneg b (b := (((ns.map V.int).length : Nat) : Int)) (by omega)
        have e := Int.toNat_of_nonneg h3
        have g := atI_nat (xs := ns.map V.int) (j := (b % ((ns.map V.int).length : Nat)).toNat) (v := V.int ns[(b % ((ns.map V.int).length : Nat)).toNat]) (by rw [List.getElem?_map, List.getElem?_eq_getElem hlt]; rfl)
        rw [e] at g
        exact g
      generalize ns[(b % ((ns.map V.int).length : Nat)).toNat] = c2 at hat
      refine ⟨_, rfl, d, _, rfl, get_cells h2, _, rfl, .inl ⟨_, rfl, _, rfl, d, _, rfl, get_cells h2, _, _, rfl, .inl ⟨_, p2.cells, rfl⟩, _, _, rfl, rfl, hpos, L, _, _, _, rfl, rfl, p2.cells, hat, ?_⟩⟩
    all_goals
      refine ⟨_, rfl, _, rfl, d, _, rfl, get_cells h2, _, _, rfl, .inl ⟨_, p2.cells, rfl⟩, _, _, rfl, rfl, _, rfl, ?_⟩
      refine ite2 (fun c4 => ?_) (fun c4 => ?_)
      refine ⟨_, rfl, _, rfl, _, _, rfl, rfl, ⟨by decide, by decide, by decide⟩, _, _, rfl, rfl, _, rfl, ?_⟩
      refine ite2 (fun c5 => ?_) (fun c5 => ?_)
      refine ⟨_, rfl, _, rfl, _, _, rfl, rfl, ⟨by decide, by decide, by decide⟩, _, _, rfl, rfl, _, rfl, _, _, rfl, rfl, hdiv, _, rfl, d, _, rfl, put_left h2, ?_⟩
      refine ⟨_, rfl, _, rfl, _, _, rfl, rfl, ⟨by decide, by decide, by decide⟩, _, _, rfl, rfl, .inl ⟨_, rfl, _, rfl, _, _, rfl, rfl, hm, ?_⟩⟩
      exact q _ _ (Int.emod_nonneg _ (by omega)) (Int.emod_lt_of_pos _ hm) (k2.trans (keep_put _)) (p2.put (by omega) (by omega))
      all_goals
        refine ⟨_, rfl, .inl ⟨_, rfl, _, _, rfl, rfl, (by show (0 : Int) < 2147483423; decide), _, _, rfl, rfl, .inr ⟨by decide, by decide⟩, _, rfl, _, _, rfl, rfl, .inl ⟨by decide, by decide⟩, _, rfl, _, _, rfl, rfl, .inr hb, _, _, rfl, rfl, ?_⟩⟩
        refine ⟨_, rfl, _, rfl, _, _, rfl, rfl, .inl ⟨by decide, by decide⟩, _, _, rfl, rfl, _, _, rfl, rfl, .inl ⟨_, rfl, _, _, rfl, rfl, (by show (0 : Int) < 2147483399; decide), ?_⟩⟩
        refine ⟨_, rfl, _, rfl, _, _, rfl, rfl, .inl ⟨by omega, by omega⟩, _, rfl, _, _, rfl, rfl, .inl ⟨by decide, by decide⟩, _, _, rfl, rfl, _, rfl, _, _, rfl, rfl, .inl ⟨by decide, by decide⟩, _, _, rfl, rfl, _, _, rfl, rfl, .inl ⟨_, rfl, _, _, rfl, rfl, (by show (0 : Int) < 2147483353; decide), ?_⟩⟩
        refine ⟨_, rfl, _, rfl, _, _, rfl, rfl, .inl ⟨by omega, by omega⟩, _, rfl, _, _, rfl, rfl, .inl ⟨by decide, by decide⟩, _, _, rfl, rfl, _, rfl, _, _, rfl, rfl, .inl ⟨_, rfl, _, _, rfl, rfl, (by show (0 : Int) < 2147483323; decide), ?_⟩⟩
        refine ⟨_, rfl, _, rfl, _, _, rfl, rfl, _, _, rfl, rfl, .inl ⟨by omega, by omega⟩, .inl ⟨_, rfl, _, _, rfl, rfl, (by show (0 : Int) < 2147483269; decide), _, _, rfl, rfl, ⟨by decide, by decide⟩, .inl ⟨_, rfl, _, rfl, _, _, rfl, rfl, hm, ?_⟩⟩⟩
        exact q _ _ (Int.emod_nonneg _ (by omega)) (Int.emod_lt_of_pos _ hm) k2 p2
end
end My

set_option Elab.async false
set_option linter.all false
set_option maxRecDepth 100000
namespace My
open PySem L2 SX
theorem atI_int {α : Type} {xs : List α} {r : Int} (h0 : 0 ≤ r) (h1 : r < (xs.length : Int)) : ∃ x, atI xs r = some x ∧ x ∈ xs := by
  have h : r.toNat < xs.length := by omega
  refine ⟨xs[r.toNat], ?_, List.getElem_mem h⟩
  have e := atI_nat (xs := xs) (j := r.toNat) (v := xs[r.toNat]) (List.getElem?_eq_getElem h)
  rw [Int.toNat_of_nonneg h0] at e
  exact e
theorem joinL_signs : ∀ cs : List Nat, TL.joinL [] (cs.map fun c => [c]) = cs
  | [] => rfl
  | [c] => rfl
  | c :: e :: r => by
    have ih := joinL_signs (e :: r)
    simp only [List.map_cons] at ih ⊢
    unfold TL.joinL
    rw [ih]
    rfl
theorem join_signs (cs : List Nat) : Txt.join (Str.ofString "") (cs.map fun c => (⟨#[c]⟩ : Str)) = S cs := by
  have e := join_S [] (cs.map fun c => [c])
  rw [joinL_signs, List.map_map] at e
  exact e
theorem sum_signs : ∀ cs : List Nat, ((cs.map fun c => (⟨#[c]⟩ : Str)).map (·.length)).sum = cs.length
  | [] => rfl
  | c :: cs => by
    have ih := sum_signs cs
    rw [List.map_cons, List.map_cons, List.sum_cons, ih, List.length_cons]
    show 1 + cs.length = cs.length + 1
    omega
theorem isName_cs {c : Nat} {cs : List Nat} (h : isL c = true) (hs : ∀ x ∈ cs, isLD x = true) (hl : cs.length ≤ 11) : isName (S (c :: cs)) = true := by
  have e := isName_eq (z := S (c :: cs)) (c := c) (by rw [S_len]; exact Nat.succ_pos _) (by rw [S_len, List.length_cons]; omega) rfl
  rw [e, h]
  show (true && (c :: cs).all isLD) = true
  rw [Bool.true_and, List.all_eq_true]
  intro x hx
  rcases List.mem_cons.mp hx with rfl | hx
  · unfold isLD
    rw [h]
    rfl
  · exact hs x hx
theorem isLD_asc {c : Nat} (h : isLD c = true) : c < 128 := by
  rw [← isLD_both] at h
  have h2 := of_decide_eq_true h
  have e : ∀ x ∈ zBoth.cps.toList, x < 128 := by decide +kernel
  exact e c h2
theorem okStr_of_name {z : Str} (h : isName z = true) : okStr z = true := by
  have h12 : 1 ≤ z.length ∧ z.length ≤ 12 := by
    by_cases c : 1 ≤ z.length ∧ z.length ≤ 12
    · exact c
    · rw [isName_out c] at h
      cases h
  obtain ⟨c, hc⟩ := head_some h12.1
  rw [isName_eq h12.1 h12.2 hc] at h
  have h2 := (Bool.and_eq_true_iff.mp h).2
  rw [List.all_eq_true] at h2
  unfold okStr
  rw [decide_eq_true (by omega), Bool.true_and, List.all_eq_true]
  intro x hx
  exact decide_eq_true (isLD_asc (h2 x hx))
theorem name_len {z : Str} (h : isName z = true) : 1 ≤ z.length ∧ z.length ≤ 12 := by
  by_cases c : 1 ≤ z.length ∧ z.length ≤ 12
  · exact c
  · rw [isName_out c] at h
    cases h
abbrev s_law_name : Stmt := top 39
abbrev N_law_name : List Str := ["_law_pen", "_law_letters", "_law_many", "_law_rest", "_law_k"]
abbrev P_law_name : List Str := ["_law_pen"]
theorem sc_law_name : FnScope N_law_name P_law_name (defScope s_law_name) := ⟨rfl, rfl, rfl, by decide +kernel, rfl, by decide +kernel, by decide +kernel⟩
abbrev s_law_names : Stmt := top 40
abbrev N_law_names : List Str := ["_law_pen", "_law_most", "_law_k"]
abbrev P_law_names : List Str := ["_law_pen", "_law_most"]
theorem sc_law_names : FnScope N_law_names P_law_names (defScope s_law_names) := ⟨rfl, rfl, rfl, by decide +kernel, rfl, by decide +kernel, by decide +kernel⟩
def spNameOf (K : PySem.W.Frag) : Sp := fun vs H Q _ => ∃ (d L : Addr) (ns : List Int) (n : Nat), vs = [.ref d] ∧ Pen K H d L ns n ∧ n < 2 ^ 39 ∧
  ∀ z H', isName z = true → Keep d H H' → Pen K H' d L ns (n + 13) → Q (.str z) H'
def spNames (K : PySem.W.Frag) : Sp := fun vs H Q _ => ∃ (d L : Addr) (ns : List Int) (n m : Nat), vs = [.ref d, .int m] ∧ Pen K H d L ns n ∧ n < 2 ^ 38 ∧ 0 < m ∧ m ≤ 100 ∧
  ∀ a zs H', (∀ z ∈ zs, isName z = true) → zs ≠ [] → zs.length ≤ 100 → SqL K H' a (zs.map V.str) → Keep d H H' → Pen K H' d L ns (n + 1 + 13 * m) → Q (.ref a) H'
section
variable {P : Program} {w : World} {K : PySem.W.Frag} {mg : Str → Option Value} {base : Heap} {f : Addr} {fd : FuncData}
theorem ok_law_pick (T : Txt K mg) (F : Fun K "_law_pick" "_law_pick" s_law_pick f fd) (C_law_draw : Cal P w K mg base "_law_draw" 1 ["_law_pen", "_law_span"] (spDraw K)) : FnOk P w K mg base CX0 2 f fd P_law_pick (spPick K) := by
  refine F.ok sc_law_pick (fun vs H Q E h => ?_) (fun cdv A outer s H vs Q E hr h => ?_)
  · obtain ⟨d, L, ns, n, v, rfl, _⟩ := h
    rfl
  obtain ⟨d, L, ns, n, v, rfl, p, hn, h⟩ := h
  refine ⟨_, (pss_one (ps_ret (pe_ix ix_seq (pv 1) (pe_callC C_law_draw hr (pa_cons (pv 0) (pa_cons (pe_callB call_len rfl T.len (by decide +kernel) (pa_cons (pv 1) pa_nil)) pa_nil))) (fun _ _ => rfl)))), ?_⟩
  rcases h with ⟨a, xs, rfl, hS, hne, hl, q⟩ | ⟨z, rfl, h1, h2, q⟩
  · have hpos : 0 < xs.length := by
      cases xs with
      | nil => exact absurd rfl hne
      | cons _ _ => exact Nat.succ_pos _
    refine ⟨_, rfl, _, rfl, _, rfl, _, _, rfl, .inl ⟨xs, hS, rfl⟩, d, L, ns, n, (xs.length : Int), rfl, p, hn, by omega, by omega, fun r H' r0 r1 k p' => ?_⟩
    obtain ⟨x, hx, hm⟩ := atI_int (xs := xs) r0 r1
    exact .inl ⟨a, xs, r, x, rfl, rfl, seqL_keep p.isDk k hS, hx, q x H' hm k p'⟩
  · have hz : z.length ≤ sizeLine := Nat.le_of_lt (small1000 h2)
    refine ⟨_, rfl, _, rfl, _, rfl, _, _, rfl, ⟨hz, rfl⟩, d, L, ns, n, (z.length : Int), rfl, p, hn, by omega, by omega, fun r H' r0 r1 k p' => ?_⟩
    have el : z.cps.toList.length = z.length := Array.length_toList
    obtain ⟨x, hx, hm⟩ := atI_int (xs := z.cps.toList) (r := r) r0 (by rw [el]; exact r1)
    exact .inr (.inr ⟨z, r, x, rfl, rfl, hz, hx, q x H' hm k p'⟩)
theorem ok_law_name (T : Txt K mg) (F : Fun K "_law_name" "_law_name" s_law_name f fd) (C_law_pick : Cal P w K mg base "_law_pick" 2 ["_law_pen", "_law_some"] (spPick K)) : FnOk P w K mg base CX0 3 f fd P_law_name (spNameOf K) := by
  refine F.ok sc_law_name (fun vs H Q E h => ?_) (fun cdv A outer s H vs Q E hr h => ?_)
  · obtain ⟨d, L, ns, n, rfl, _⟩ := h
    rfl
  obtain ⟨d, L, ns, n, rfl, p, hn, q⟩ := h
  refine ⟨_, (pss_cons (ps_set (i := 1) sc_law_name.nd rfl (Or.inr rfl) pe_str)
  (pss_cons (ps_set (i := 2) sc_law_name.nd rfl (Or.inl rfl) (pe_callC C_law_pick hr (pa_cons (pv 0) (pa_cons (pe_lst (pa_cons pe_int (pa_cons pe_int (pa_cons pe_int (pa_cons pe_int (pa_cons pe_int (pa_cons pe_int (pa_cons pe_int pa_nil)))))))) pa_nil))))
  (pss_cons (ps_setLc (i := 3) (own := [("_law_k", 4)]) (g := (gName 4)) rfl sc_law_name.nd rfl rfl (sw_true rfl rfl rfl (by decide +kernel)) (pi_range1 rfl T.range (pa_cons (pv 2) pa_nil)) (blkOk_by (own := [("_law_k", 4)]) (N := N_law_name) (sc := defScope s_law_name) (by decide +kernel)) (fun _ _ _ _ _ => (pg_name (i := 4) sc_law_name.nd rfl (Or.inl rfl))) (fun _ _ _ _ _ => pts_nil) (fun _ _ _ _ _ => (pe_callC C_law_pick hr (pa_cons (pv 0) (pa_cons (pe_op op_add_str (pv 1) pe_str) pa_nil)))))
  (pss_one (ps_ret (pe_join pe_str (pe_op op_cat (pe_lst (pa_cons (pe_callC C_law_pick hr (pa_cons (pv 0) (pa_cons (pv 1) pa_nil))) pa_nil)) (pv 3)))))))), ?_⟩
  refine ⟨_, rfl, by show 7 ≤ sizeLine; decide, fun p0 np0 => ?_⟩
  refine ⟨d, L, ns, n, _, rfl, p.same (same_new np0 _), by omega, .inl ⟨p0, _, rfl, SqL.of upd_same, by simp, by show 7 ≤ 1000; decide, fun x H1 hx k1 p1 => ?_⟩⟩
  have k1' : Keep d H H1 := (Same.toKeep (same_new np0 _)).trans k1
  obtain ⟨m, rfl, hm⟩ : ∃ m : Nat, x = V.int m ∧ m ≤ 11 := by
    simp only [List.mem_cons, List.not_mem_nil, or_false] at hx
    rcases hx with rfl | rfl | rfl | rfl | rfl | rfl | rfl <;>
      first | exact ⟨0, rfl, by decide⟩ | exact ⟨1, rfl, by decide⟩ | exact ⟨2, rfl, by decide⟩ | exact ⟨5, rfl, by decide⟩ | exact ⟨10, rfl, by decide⟩ | exact ⟨11, rfl, by decide⟩
  refine ⟨_, rfl, (m : Int), rfl, by omega, by omega, fun D nD => lc_range (lo := 0) (n := (m : Int).toNat)
    (fun i H' => Keep d H1 H' ∧ Pen K H' d L ns (n + 1 + i) ∧ ∃ cs : List Nat, cs.length = i ∧ (∀ c ∈ cs, isLD c = true) ∧ H' D = some (.lst (cs.map fun c => V.str ⟨#[c]⟩))) ?_ (fun i H2 hi ⟨k2, p2, cs, hcs, hld, e⟩ => ?_) (fun H2 ⟨k2, p2, cs, hcs, hld, e⟩ => ?_)⟩
  · exact ⟨Same.toKeep (same_new nD _), p1.fresh (Keep.refl _ _) p1.cells p1.isDk nD, [], rfl, by simp, upd_same⟩
  · refine ⟨rfl, _, rfl, _, rfl, _, _, rfl, rfl, by decide, ?_⟩
    refine ⟨d, L, ns, n + 1 + i, _, rfl, p2, by omega, .inr ⟨zBoth, rfl, by decide +kernel, by decide +kernel, fun c H3 hc k3 p3 => ?_⟩⟩
    have nDd : D ≠ d := by
      obtain ⟨kvs, ed⟩ := p1.isDk
      exact (ne_of_none ed nD).symm
    refine ⟨_, k3 D _ nDd e, small1000 (by rw [List.length_map]; omega), keep_fresh (k2.trans k3) nD, p3.fresh (k2.trans k3) p1.cells p1.isDk nD, cs ++ [c], by rw [List.length_append, hcs]; rfl, ?_, ?_⟩
    · intro x hx
      rcases List.mem_append.mp hx with hx | hx
      · exact hld x hx
      · rw [List.mem_singleton.mp hx, ← isLD_both]
        exact decide_eq_true hc
    · rw [upd_same, List.map_append]
      rfl
  · have em : (m : Int).toNat = m := Int.toNat_natCast m
    rw [em] at hcs p2
    refine ⟨⟨_, rfl⟩, _, rfl, _, rfl, d, L, ns, n + 1 + m, _, rfl, p2, by omega, .inr ⟨zLetters, rfl, by decide +kernel, by decide +kernel, fun c H3 hc k3 p3 => ⟨by show 1 ≤ sizeLine; decide, fun pA nA => ?_⟩⟩⟩
    have nDd : D ≠ d := by
      obtain ⟨kvs, ed⟩ := p1.isDk
      exact (ne_of_none ed nD).symm
    have e3 := same_new nA (.lst [.str ⟨#[c]⟩]) _ _ (k3 D _ nDd e)
    refine ⟨_, rfl, pA, D, _, _, rfl, rfl, upd_same, e3, Nat.le_of_lt (small1000 (by rw [List.length_map, List.length_singleton]; omega)), fun pB nB => ?_⟩
    have kF : Keep d H (upd (upd H3 pA (.lst [.str ⟨#[c]⟩])) pB (.lst ([V.str ⟨#[c]⟩] ++ cs.map fun c => V.str ⟨#[c]⟩))) :=
      ((k1'.trans k2).trans k3).trans ((Same.toKeep (same_new nA _)).trans (Same.toKeep (same_new nB _)))
    have pF := (p3.same (same_new nA (.lst [.str ⟨#[c]⟩]))).same (same_new nB (.lst ([V.str ⟨#[c]⟩] ++ cs.map fun c => V.str ⟨#[c]⟩)))
    refine ⟨_, pB, (c :: cs).map (fun c => (⟨#[c]⟩ : Str)), rfl, rfl, .inl (SqL.of ?_), ?_, ?_⟩
    · rw [upd_same, List.map_map]
      rfl
    · rw [sum_signs, List.length_map]
      show (c :: cs).length + (c :: cs).length * 0 ≤ 16777216
      rw [List.length_cons]
      omega
    · rw [join_signs]
      exact q _ _ (isName_cs (decide_eq_true hc) hld (by omega)) kF (pF.mono (by omega))
theorem ok_law_names (T : Txt K mg) (F : Fun K "_law_names" "_law_names" s_law_names f fd) (C_law_draw : Cal P w K mg base "_law_draw" 1 ["_law_pen", "_law_span"] (spDraw K)) (C_law_name : Cal P w K mg base "_law_name" 3 ["_law_pen"] (spNameOf K)) : FnOk P w K mg base CX0 4 f fd P_law_names (spNames K) := by
  refine F.ok sc_law_names (fun vs H Q E h => ?_) (fun cdv A outer s H vs Q E hr h => ?_)
  · obtain ⟨d, L, ns, n, m, rfl, _⟩ := h
    rfl
  obtain ⟨d, L, ns, n, m, rfl, p, hn, h0, hm, q⟩ := h
  refine ⟨_, (pss_one (ps_ret (pe_lc (own := [("_law_k", 2)]) (g := (gName 2)) rfl sc_law_names.nd (pi_range1 rfl T.range (pa_cons (pe_op op_add pe_int (pe_callC C_law_draw hr (pa_cons (pv 0) (pa_cons (pv 1) pa_nil)))) pa_nil)) (blkOk_by (own := [("_law_k", 2)]) (N := N_law_names) (sc := defScope s_law_names) (by decide +kernel)) (fun _ _ _ _ _ => (pg_name (i := 2) sc_law_names.nd rfl (Or.inl rfl))) (fun _ _ _ _ _ => pts_nil) (fun _ _ _ _ _ => (pe_callC C_law_name hr (pa_cons (pv 0) pa_nil)))))), ?_⟩
  refine ⟨_, rfl, _, rfl, d, L, ns, n, m, rfl, p, by omega, by omega, by omega, fun r H1 r0 r1 k1 p1 => ?_⟩
  refine ⟨_, _, rfl, rfl, 1 + r, rfl, by omega, by omega, fun D nD => lc_range (lo := 0) (n := (1 + r).toNat)
    (fun i H' => Keep d H1 H' ∧ Pen K H' d L ns (n + 1 + 13 * i) ∧ ∃ zs : List Str, zs.length = i ∧ (∀ z ∈ zs, isName z = true) ∧ H' D = some (.lst (zs.map V.str))) ?_ (fun i H2 hi ⟨k2, p2, zs, hcs, hld, e⟩ => ?_) (fun H2 ⟨k2, p2, zs, hcs, hld, e⟩ => ?_)⟩
  · exact ⟨Same.toKeep (same_new nD _), p1.fresh (Keep.refl _ _) p1.cells p1.isDk nD, [], rfl, by simp, upd_same⟩
  · refine ⟨rfl, _, rfl, d, L, ns, n + 1 + 13 * i, rfl, p2, by omega, fun z H3 hz k3 p3 => ?_⟩
    have nDd : D ≠ d := by
      obtain ⟨kvs, ed⟩ := p1.isDk
      exact (ne_of_none ed nD).symm
    refine ⟨_, k3 D _ nDd e, small1000 (by rw [List.length_map]; omega), keep_fresh (k2.trans k3) nD, (p3.fresh (k2.trans k3) p1.cells p1.isDk nD).mono (by omega), zs ++ [z], by rw [List.length_append, hcs]; rfl, ?_, ?_⟩
    · intro x hx
      rcases List.mem_append.mp hx with hx | hx
      · exact hld x hx
      · rw [List.mem_singleton.mp hx]
        exact hz
    · rw [upd_same, List.map_append]
      rfl
  · refine q D zs H2 hld ?_ (by omega) (SqL.of e) (k1.trans k2) (p2.mono (by omega))
    rintro rfl
    rw [List.length_nil] at hcs
    omega
end
end My

set_option Elab.async false
set_option linter.all false
set_option maxRecDepth 100000
namespace My
open PySem L2 SX
theorem memD_inv {d : PyData} {zs : List Str} (h : memD d zs = true) : ∃ x, d = .str x ∧ x ∈ zs := by
  cases d with
  | str x => exact ⟨x, rfl, of_decide_eq_true h⟩
  | _ => cases h
theorem isNameD_inv {d : PyData} (h : isNameD d = true) : ∃ x, d = .str x ∧ isName x = true := by
  cases d with
  | str x => exact ⟨x, rfl, h⟩
  | _ => cases h
theorem isForm_inv {k : Nat} {D : PyData} (h : isForm k D = true) :
    (∃ w n, D = .tuple [.str w, .str n] ∧ w ∈ leafW ∧ isName n = true) ∨ ∃ j w a b, k = j + 1 ∧ D = .tuple [.str w, a, b] ∧ w ∈ halfW ∧ isForm j a = true ∧ isForm j b = true := by
  by_cases ht : isTupD D = true
  · cases D with
    | tuple ds =>
      match ds with
      | [a, n] =>
        rw [isForm_m2, Bool.and_eq_true] at h
        obtain ⟨w, rfl, hw⟩ := memD_inv h.1
        obtain ⟨x, rfl, hx⟩ := isNameD_inv h.2
        exact .inl ⟨w, x, rfl, hw, hx⟩
      | [a, b, c] =>
        cases k with
        | zero => rw [isForm_tup3_0] at h; cases h
        | succ j =>
          rw [isForm_m3, Bool.and_eq_true, Bool.and_eq_true] at h
          obtain ⟨w, rfl, hw⟩ := memD_inv h.1
          exact .inr ⟨j, w, b, c, rfl, rfl, hw, h.2.1, h.2.2⟩
      | [] => rw [isForm_tup_len _ _ (by simp) (by simp)] at h; cases h
      | [_] => rw [isForm_tup_len _ _ (by simp) (by simp)] at h; cases h
      | _ :: _ :: _ :: _ :: _ => rw [isForm_tup_len _ _ (by simp) (by simp)] at h; cases h
    | _ => cases ht
  · rw [Bool.not_eq_true] at ht
    rw [isForm_not_tup k D ht] at h
    cases h
theorem isForm_leaf (k : Nat) {w n : Str} (hw : w ∈ leafW) (hn : isName n = true) : isForm k (.tuple [.str w, .str n]) = true := by
  rw [isForm_m2]
  show (decide (w ∈ leafW) && isName n) = true
  rw [decide_eq_true hw, hn]
  rfl
theorem isForm_node {k : Nat} {w : Str} {a b : PyData} (hw : w ∈ halfW) (ha : isForm k a = true) (hb : isForm k b = true) : isForm (k + 1) (.tuple [.str w, a, b]) = true := by
  rw [isForm_m3, ha, hb]
  show (decide (w ∈ halfW) && _) = true
  rw [decide_eq_true hw]
  rfl
theorem isForm_up : ∀ {k : Nat} {D : PyData}, isForm k D = true → isForm (k + 1) D = true := by
  intro k
  induction k with
  | zero =>
    intro D h
    rcases isForm_inv h with ⟨w, n, rfl, hw, hn⟩ | ⟨j, w, a, b, e, _⟩
    · exact isForm_leaf _ hw hn
    · cases e
  | succ k ih =>
    intro D h
    rcases isForm_inv h with ⟨w, n, rfl, hw, hn⟩ | ⟨j, w, a, b, e, rfl, hw, ha, hb⟩
    · exact isForm_leaf _ hw hn
    · obtain rfl : k = j := by omega
      exact isForm_node hw (ih ha) (ih hb)
theorem isForm_le {k m : Nat} {D : PyData} (h : isForm k D = true) (l : k ≤ m) : isForm m D = true := by
  induction l with
  | refl => exact h
  | step _ ih => exact isForm_up ih
theorem okStr_leaf : ∀ w ∈ leafW, okStr w = true := by decide +kernel
theorem okStr_half : ∀ w ∈ halfW, okStr w = true := by decide +kernel
theorem short_form : ∀ {k : Nat} {D : PyData}, isForm k D = true → shortD D = true := by
  intro k
  induction k with
  | zero =>
    intro D h
    rcases isForm_inv h with ⟨w, n, rfl, hw, hn⟩ | ⟨j, w, a, b, e, _⟩
    · simp only [shortD, shortAll, okStr_leaf w hw, okStr_of_name hn, Bool.and_self]
    · cases e
  | succ k ih =>
    intro D h
    rcases isForm_inv h with ⟨w, n, rfl, hw, hn⟩ | ⟨j, w, a, b, e, rfl, hw, ha, hb⟩
    · simp only [shortD, shortAll, okStr_leaf w hw, okStr_of_name hn, Bool.and_self]
    · obtain rfl : k = j := by omega
      have h1 := ih ha
      have h2 := ih hb
      unfold shortD
      simp only [shortAll, h1, h2, Bool.and_true]
      unfold shortD
      exact okStr_half w hw
theorem depth_form : ∀ {k : Nat} {D : PyData}, isForm k D = true → D.depth ≤ k + 1 := by
  intro k
  induction k with
  | zero =>
    intro D h
    rcases isForm_inv h with ⟨w, n, rfl, hw, hn⟩ | ⟨j, w, a, b, e, _⟩
    · simp [PyData.depth, PyData.depthAll]
    · cases e
  | succ k ih =>
    intro D h
    rcases isForm_inv h with ⟨w, n, rfl, hw, hn⟩ | ⟨j, w, a, b, e, rfl, hw, ha, hb⟩
    · simp [PyData.depth, PyData.depthAll]
    · obtain rfl : k = j := by omega
      have h1 := ih ha
      have h2 := ih hb
      simp only [PyData.depth, PyData.depthAll]
      omega
theorem arg_eq {x y : V} {G : V → Hp → Prop} {H : Hp} (e : x = y) (h : G y H) : G x H := by
  rw [e]
  exact h
/-- the least depth of a form -/
def Deep (j : Nat) (D : PyData) : Prop := isForm j D = true ∧ ∀ i, i < j → isForm i D = false
theorem deep_node {x y : Nat} {w : Str} {a b : PyData} (hw : w ∈ halfW) (ha : Deep x a) (hb : Deep y b) {m : Nat} (hm : m = x ∨ m = y) (hx : x ≤ m) (hy : y ≤ m) : Deep (m + 1) (.tuple [.str w, a, b]) := by
  refine ⟨isForm_node hw (isForm_le ha.1 hx) (isForm_le hb.1 hy), fun i hi => ?_⟩
  cases i with
  | zero => exact isForm_tup3_0 _ _ _
  | succ i =>
    rw [isForm_m3]
    rcases hm with rfl | rfl
    · rw [ha.2 i (by omega), Bool.false_and, Bool.and_false]
    · rw [hb.2 i (by omega), Bool.and_false, Bool.and_false]
theorem deep_leaf {w n : Str} (hw : w ∈ leafW) (hn : isName n = true) : Deep 0 (.tuple [.str w, .str n]) := ⟨isForm_leaf 0 hw hn, fun i hi => by omega⟩
def lvs : PyData → List PyData
  | .tuple [a, b] => [.tuple [a, b]]
  | .tuple [_, a, b] => lvs a ++ lvs b
  | _ => []
theorem lvs2 (a b : PyData) : lvs (.tuple [a, b]) = [.tuple [a, b]] := by rw [lvs]
theorem lvs3 (w a b : PyData) : lvs (.tuple [w, a, b]) = lvs a ++ lvs b := by rw [lvs]
abbrev N_law_depth : List Str := ["_law_form"]
abbrev P_law_depth : List Str := ["_law_form"]
abbrev s_law_shape : Stmt := top 41
abbrev N_law_shape : List Str := ["_law_pen", "_law_names_here", "_law_many", "_law_tall", "_law_room", "_law_low", "_law_high", "_law_way", "_law_left", "_law_word", "_law_one"]
abbrev P_law_shape : List Str := ["_law_pen", "_law_names_here", "_law_many", "_law_tall"]
theorem sc_law_shape : FnScope N_law_shape P_law_shape (defScope s_law_shape) := ⟨rfl, rfl, rfl, by decide +kernel, rfl, by decide +kernel, by decide +kernel⟩
abbrev N_law_deeper : List Str := ["_law_form", "_law_tall", "_law_k"]
abbrev P_law_deeper : List Str := ["_law_form", "_law_tall"]
def spDepth (K : PySem.W.Frag) (k : Nat) : Sp := fun vs H Q _ => ∃ (v : V) (D : PyData) (k' : Nat), vs = [v] ∧ k' < k ∧ Dp K H v D ∧ isForm k' D = true ∧ ∀ (j : Nat) H', j ≤ k' → Deep j D → Same H H' → Q (.int j) H'
def spDeeper (K : PySem.W.Frag) : Sp := fun vs H Q _ => ∃ (v : V) (D : PyData) (t : Nat), vs = [v, .int t] ∧ 12 ≤ t ∧ t ≤ 2000 ∧ Dp K H v D ∧ isForm 12 D = true ∧ ∀ v' D' H', Dp K H' v' D' → Deep t D' ∨ (t = 12 ∧ isForm 12 D' = true) → (lvs D').length ≤ (lvs D).length + t → Same H H' → Q v' H'
def spShape (K : PySem.W.Frag) (k : Nat) : Sp := fun vs H Q _ => ∃ (d L : Addr) (ns : List Int) (n : Nat) (a : Addr) (zs : List Str) (m t : Nat), vs = [.ref d, .ref a, .int m, .int t] ∧ t < k ∧ Pen K H d L ns n ∧ n + 5 * m < 2 ^ 39 ∧
  SqL K H a (zs.map V.str) ∧ zs ≠ [] ∧ zs.length ≤ 1000 ∧ (∀ z ∈ zs, isName z = true) ∧ 1 ≤ m ∧ m ≤ 1000 ∧ m ≤ 2 ^ t ∧ t ≤ 60 ∧
  ∀ v D H', Dp K H' v D → isForm t D = true → (lvs D).length = m → Keep d H H' → Pen K H' d L ns (n + (5 * m - 3)) → Q v H'
section
variable {P : Program} {w : World} {K : PySem.W.Frag} {mg : Str → Option Value} {base : Heap} {f : Addr} {fd : FuncData}
set_option maxHeartbeats 2000000 in
theorem ok_law_shape {k : Nat} (T : Txt K mg) (F : Fun K "_law_shape" "_law_shape" s_law_shape f fd) (C_law_draw : Cal P w K mg base "_law_draw" 1 ["_law_pen", "_law_span"] (spDraw K)) (C_law_pick : Cal P w K mg base "_law_pick" 2 ["_law_pen", "_law_some"] (spPick K))
    (C_law_shape : Cal P w K mg base "_law_shape" (2 + k) P_law_shape (spShape K k)) : FnOk P w K mg base CX0 (2 + k + 1) f fd P_law_shape (spShape K (k + 1)) := by
  refine F.ok sc_law_shape (fun vs H Q E h => ?_) (fun cdv A outer s H vs Q E hr h => ?_)
  · obtain ⟨d, L, ns, n, a, zs, m, t, rfl, _⟩ := h
    rfl
  obtain ⟨d, L, ns, n, a, zs, m, t, rfl, htk, p, hn, hS, hne, hzl, hzs, hm1, hm2, hm3, ht60, q⟩ := h
  refine ⟨_, (pss_cons (ps_if (pt_cmpR op_eq (pv 2) pe_int (nomark _))
    (pss_one (ps_ret (pe_tup (pa_cons (pe_callC C_law_pick hr (pa_cons (pv 0) (pa_cons (pe_lst (pa_cons pe_str (pa_cons pe_str pa_nil))) pa_nil))) (pa_cons (pe_callC C_law_pick hr (pa_cons (pv 0) (pa_cons (pv 1) pa_nil))) pa_nil)))))
    pss_nil)
  (pss_cons (ps_set (i := 4) sc_law_shape.nd rfl (Or.inl rfl) (pe_op op_shl pe_int (pe_op op_sub (pv 3) pe_int)))
  (pss_cons (ps_par (i := 5) (j := 6) (by rfl) sc_law_shape.nd rfl rfl (by decide) rfl rfl (pa_cons (pe_callB (call_max2 rfl) rfl T.max (by decide +kernel) (pa_cons pe_int (pa_cons (pe_op op_sub (pv 2) (pv 4)) pa_nil))) (pa_cons (pe_callB (call_min2 rfl) rfl T.min (by decide +kernel) (pa_cons (pe_op op_sub (pv 2) pe_int) (pa_cons (pv 4) pa_nil))) pa_nil)) (by rfl))
  (pss_cons (ps_set (i := 7) sc_law_shape.nd rfl (Or.inl rfl) (pe_callC C_law_draw hr (pa_cons (pv 0) (pa_cons pe_int pa_nil))))
  (pss_cons (ps_set (i := 8) sc_law_shape.nd rfl (Or.inl rfl) (pe_op op_add (pv 5) (pe_callC C_law_draw hr (pa_cons (pv 0) (pa_cons (pe_op op_add (pe_op op_sub (pv 6) (pv 5)) pe_int) pa_nil)))))
  (pss_cons (ps_if (pt_cmpR op_lt (pv 7) pe_int (nomark _))
    (pss_one (ps_set (i := 8) sc_law_shape.nd rfl (Or.inl rfl) (pe_ifExp (pt_cmpR op_eq (pv 7) pe_int (nomark _)) (pv 5) (pv 6))))
    pss_nil)
  (pss_cons (ps_set (i := 9) sc_law_shape.nd rfl (Or.inl rfl) (pe_callC C_law_pick hr (pa_cons (pv 0) (pa_cons (pe_lst (pa_cons pe_str (pa_cons pe_str (pa_cons pe_str (pa_cons pe_str pa_nil))))) pa_nil))))
  (pss_cons (ps_set (i := 10) sc_law_shape.nd rfl (Or.inl rfl) (pe_callC C_law_shape hr (pa_cons (pv 0) (pa_cons (pv 1) (pa_cons (pv 8) (pa_cons (pe_op op_sub (pv 3) pe_int) pa_nil))))))
  (pss_one (ps_ret (pe_tup (pa_cons (pv 9) (pa_cons (pv 10) (pa_cons (pe_callC C_law_shape hr (pa_cons (pv 0) (pa_cons (pv 1) (pa_cons (pe_op op_sub (pv 2) (pv 8)) (pa_cons (pe_op op_sub (pv 3) pe_int) pa_nil))))) pa_nil)))))))))))))), ?_⟩
  refine ⟨_, rfl, rfl, _, rfl, ?_⟩
  refine ite2 (fun c => ?_) (fun c => ?_)
  · have hm : m = 1 := by
      have := V.int.inj (of_decide_eq_true c)
      omega
    subst hm
    refine ⟨_, rfl, by show 2 ≤ sizeLine; decide, fun p0 np0 => ?_⟩
    refine ⟨d, L, ns, n, _, rfl, p.same (same_new np0 _), by omega, .inl ⟨p0, _, rfl, SqL.of upd_same, by simp, by show 2 ≤ 1000; decide, fun x H1 hx k1 p1 => ?_⟩⟩
    have k1' : Keep d H H1 := (Same.toKeep (same_new np0 _)).trans k1
    refine ⟨_, rfl, _, rfl, d, L, ns, n + 1, _, rfl, p1, by omega, .inl ⟨a, _, rfl, seqL_keep p.isDk k1' hS, by simp [hne], by rw [List.length_map]; exact hzl, fun y H2 hy k2 p2 => ⟨by show 2 ≤ sizeLine; decide, fun p3 n3 => ?_⟩⟩⟩
    obtain ⟨w', rfl, hw⟩ : ∃ w', x = .str w' ∧ w' ∈ leafW := by
      have : x ∈ leafW.map V.str := hx
      obtain ⟨w', hw, e⟩ := List.mem_map.mp this
      exact ⟨w', e.symm, hw⟩
    obtain ⟨z, hz, rfl⟩ := List.mem_map.mp hy
    exact q (.ref p3) (.tuple [.str w', .str z]) _ (.tup (SqT.of upd_same) (.cons (.str _) (.cons (.str _) .nil))) (isForm_leaf _ hw (hzs z hz)) (by first | (rw [lvs2]; done) | (rw [lvs2]; rfl)) ((k1'.trans k2).trans (Same.toKeep (same_new n3 _))) ((p2.same (same_new n3 _)).mono (by omega))
  · have hm : m ≠ 1 := fun e => c (by subst e; rfl)
    obtain ⟨t', rfl⟩ : ∃ t', t = t' + 1 := by
      cases t with
      | zero => simp at hm3; omega
      | succ t' => exact ⟨t', rfl⟩
    have hpow : (2 : Nat) ^ (t' + 1) = 2 * 2 ^ t' := by rw [Nat.pow_succ]; omega
    generalize hR : (2 : Nat) ^ t' = R at hpow
    rw [hpow] at hm3
    have hR1 : 1 ≤ R := by rw [← hR]; exact Nat.one_le_two_pow
    refine ⟨_, rfl, _, _, rfl, rfl, _, _, rfl, rfl, ⟨by omega, by omega, by decide⟩, ?_⟩
    have eR : (1 : Int) * 2 ^ (((t' + 1 : Nat) : Int) - 1).toNat = (R : Int) := by
      have : (((t' + 1 : Nat) : Int) - 1).toNat = t' := by omega
      rw [this, ← hR, Int.one_mul]
      norm_cast
    dsimp only
    rw [eR]
    refine ⟨_, rfl, _, rfl, _, _, rfl, rfl, _, _, rfl, _, rfl, _, _, rfl, rfl, _, rfl, _, _, rfl, _, _, rfl, ?_⟩
    have hE1 : 1 ≤ (if (m : Int) - (R : Int) > 1 then (m : Int) - (R : Int) else 1) ∧ (m : Int) - R ≤ (if (m : Int) - (R : Int) > 1 then (m : Int) - (R : Int) else 1) ∧
        ((if (m : Int) - (R : Int) > 1 then (m : Int) - (R : Int) else 1) = 1 ∨ (if (m : Int) - (R : Int) > 1 then (m : Int) - (R : Int) else 1) = (m : Int) - R) := by
      split <;> omega
    have hE2 : (if (R : Int) < (m : Int) - 1 then (R : Int) else (m : Int) - 1) ≤ (m : Int) - 1 ∧ (if (R : Int) < (m : Int) - 1 then (R : Int) else (m : Int) - 1) ≤ R ∧
        ((if (R : Int) < (m : Int) - 1 then (R : Int) else (m : Int) - 1) = (m : Int) - 1 ∨ (if (R : Int) < (m : Int) - 1 then (R : Int) else (m : Int) - 1) = R) := by
      split <;> omega
    generalize hE1e : (if (m : Int) - (R : Int) > 1 then (m : Int) - (R : Int) else 1) = E1 at hE1 ⊢
    generalize hE2e : (if (R : Int) < (m : Int) - 1 then (R : Int) else (m : Int) - 1) = E2 at hE2 ⊢
    have pick3 : ∀ x : Int, E1 ≤ x → x ≤ E2 → ∃ lf : Nat, x = (lf : Int) ∧ 1 ≤ lf ∧ lf ≤ R ∧ 1 ≤ m - lf ∧ m - lf ≤ R ∧ lf ≤ m := fun x h1 h2 =>
      ⟨x.toNat, by omega, by omega, by omega, by omega, by omega, by omega⟩
    refine ⟨_, rfl, d, L, ns, n, 5, rfl, p, by omega, by decide, by decide, fun way H1 w0 w5 k1 p1 => ?_⟩
    refine ⟨_, rfl, _, rfl, _, rfl, _, rfl, _, _, rfl, rfl, _, _, rfl, rfl, d, L, ns, n + 1, E2 - E1 + 1, rfl, p1, by omega, by omega, by omega, fun r H2 r0 r1 k2 p2 => ?_⟩
    refine ⟨_, _, rfl, rfl, ?_⟩
    refine ⟨_, rfl, _, _, rfl, rfl, _, rfl, ?_⟩
    have k12 := k1.trans k2
    have e1 : ((t' + 1 : Nat) : Int) - 1 = (t' : Int) := by omega
    refine ite2 (fun c2 => ?_) (fun c2 => ?_)
    refine ⟨_, rfl, rfl, _, rfl, ?_⟩
    refine ite2 (fun c3 => ?_) (fun c3 => ?_)
    case' refine_1 =>
      obtain ⟨lf, rfl, l1, l2, l3, l4, l5⟩ := pick3 E1 (by omega) (by omega)
      refine ⟨_, rfl, ?_⟩
    case' refine_2 =>
      obtain ⟨lf, rfl, l1, l2, l3, l4, l5⟩ := pick3 E2 (by omega) (by omega)
      refine ⟨_, rfl, ?_⟩
    case' refine_2.refine_2.refine_2 =>
      obtain ⟨lf, elf, l1, l2, l3, l4, l5⟩ := pick3 (E1 + r) (by omega) (by omega)
      dsimp only
      rw [elf]
    all_goals
      refine ⟨_, rfl, by show 4 ≤ sizeLine; decide, fun p4 n4 => ?_⟩
      refine ⟨d, L, ns, n + 2, _, rfl, p2.same (same_new n4 _), by omega, .inl ⟨p4, _, rfl, SqL.of upd_same, by simp, by show 4 ≤ 1000; decide, fun x H3 hx k3 p3 => ?_⟩⟩
      have k3' := (k12.trans (Same.toKeep (same_new n4 _))).trans k3
      obtain ⟨w', rfl, hw⟩ : ∃ w', x = .str w' ∧ w' ∈ halfW := by
        have : x ∈ halfW.map V.str := hx
        obtain ⟨w', hw, e⟩ := List.mem_map.mp this
        exact ⟨w', e.symm, hw⟩
      refine ⟨_, rfl, _, rfl, _, rfl, _, rfl, _, _, rfl, rfl, d, L, ns, n + 3, a, zs, lf, t', congrArg (fun i => [V.ref d, V.ref a, V.int (lf : Int), V.int i]) e1, by omega, p3, by omega, seqL_keep p.isDk k3' hS, hne, hzl, hzs, l1, by omega, by omega, by omega, fun v1 D1 H4 hd1 hf1 hv1 k4 p4' => ?_⟩
      have k4' := k3'.trans k4
      have e2 : (m : Int) - (lf : Int) = ((m - lf : Nat) : Int) := by omega
      refine ⟨_, rfl, _, rfl, _, rfl, _, rfl, _, rfl, _, rfl, _, _, rfl, rfl, _, rfl, _, _, rfl, rfl, d, L, ns, n + 3 + (5 * lf - 3), a, zs, m - lf, t', ?_, by omega, p4', by omega, seqL_keep p.isDk k4' hS, hne, hzl, hzs, l3, by omega, by omega, by omega, fun v2 D2 H5 hd2 hf2 hv2 k5 p5 => ⟨by show 3 ≤ sizeLine; decide, fun p6 n6 => ?_⟩⟩
      · show [V.ref d, V.ref a, V.int ((m : Int) - (lf : Int)), V.int (((t' + 1 : Nat) : Int) - 1)] = _
        rw [e1, e2]
      · have S6 := same_new n6 (.tup [.str w', v1, v2])
        exact q (.ref p6) (.tuple [.str w', D1, D2]) _ (.tup (SqT.of upd_same) (.cons (.str _) (.cons (dp_same S6 _ _ (dp_keep p4'.isDk k5 _ _ hd1))  (.cons (dp_same S6 _ _ hd2) .nil)))) (isForm_node hw hf1 hf2) (by rw [lvs3, List.length_append, hv1, hv2]; omega) ((k4'.trans k5).trans (Same.toKeep S6)) ((p5.same S6).mono (by omega))
end
end My

set_option Elab.async false
set_option linter.all false
set_option maxRecDepth 100000
namespace My
open PySem PySem.Spec PyProof.Rows L2 SX HT
/-! ### t[::-1] -/
section
variable {prog : Program} {w : World} {A : Around} {E : Value → Shared → Prop} {s : Shared}
theorem back_applied {sl : Addr} {vk : Value} {n : Nat} {Q : Int × Int × Nat → Shared → Prop} (hs : s.heap.IsSliceOf sl .none .none vk) (pk : IsPart vk (some (-1)))
    (h : Q ((n : Int) - 1, -1, n) s) : wpAny (model prog w) A (Builtin.Slice.sliceApplied (.ref sl) (pure (n : Int))) Q E s := by
  obtain ⟨o, ho, hc, hd⟩ := id hs
  unfold Builtin.Slice.sliceApplied Builtin.Slice.sliceFields
  refine wpAny_bind (wpAny_bind (wpAny_field ho hd (x := .none) rfl (wpAny_bind (wpAny_field ho hd (x := .none) rfl (wpAny_bind (wpAny_field ho hd (x := vk) rfl (wpAny_pure ?_)))))))
  refine wpAny_bind (slicePart_ pk ?_)
  show wpAny _ _ (if ((-1 : Int) == 0) = true then _ else _) _ _ s
  rw [if_neg (by decide)]
  refine wpAny_bind (slicePart_none (wpAny_bind (slicePart_none (wpAny_bind (wpAny_pure ?_)))))
  have e : Builtin.Slice.sliceAdjust none none (-1) (n : Int) = ((n : Int) - 1, -1) := rfl
  show wpAny _ _ (match Builtin.Slice.sliceAdjust none none (-1) (n : Int) with | (lo, hi) => pure (lo, (-1 : Int), Builtin.Slice.slicePlaces lo hi (-1))) _ _ s
  rw [e]
  have e2 : Builtin.Slice.slicePlaces ((n : Int) - 1) (-1) (-1) = n := by
    unfold Builtin.Slice.slicePlaces
    rw [if_neg (by decide)]
    by_cases hn : n = 0
    · subst hn; rfl
    · rw [if_pos (by omega)]
      have : ((n : Int) - 1 - -1 - 1) / (- -1) + 1 = (n : Int) := by
        show ((n : Int) - 1 - -1 - 1) / 1 + 1 = (n : Int)
        rw [Int.ediv_one]
        omega
      rw [this, Int.toNat_natCast]
  show wpAny _ _ (pure ((n : Int) - 1, (-1 : Int), Builtin.Slice.slicePlaces ((n : Int) - 1) (-1) (-1))) _ _ s
  rw [e2]
  exact wpAny_pure h
theorem back_picked (xs : Array Value) : ((List.range xs.size).filterMap fun (k : Nat) => xs[(((xs.size : Int) - 1) + (k : Int) * (-1)).toNat]?).toArray = xs.toList.reverse.toArray := by
  have e : (List.range xs.size).filterMap (fun (k : Nat) => xs[(((xs.size : Int) - 1) + (k : Int) * (-1)).toNat]?) = ((List.range xs.size).map fun k => xs.size - 1 - k).filterMap (xs[·]?) := by
    rw [List.filterMap_map]
    congr 1
    funext k
    have : (((xs.size : Int) - 1) + (k : Int) * (-1)).toNat = xs.size - 1 - k := by omega
    rw [this]
    rfl
  rw [e, PySem.W.krv_range, List.filterMap_reverse, PySem.W.krv_all]
theorem back_item {t sl : Addr} {items : Array Value} {vk : Value} {Q : Value → Shared → Prop} (ht : IsTup s.heap t items) (hs : s.heap.IsSliceOf sl .none .none vk) (pk : IsPart vk (some (-1)))
    (h : Q (.ref s.heap.objs.size) { s with heap := s.heap.push { cls := .type "tuple", data := .seq items.toList.reverse.toArray } }) (hz : items.size ≤ sizeLine) : wpAny (model prog w) A (getItem (.ref t) (.ref sl)) Q E s := by
  have hsz : sizeOk (.seq items.toList.reverse.toArray) := by
    show items.toList.reverse.toArray.size ≤ sizeLine
    rw [List.size_toArray, List.length_reverse, Array.length_toList]
    exact hz
  obtain ⟨o, ho, hc, hd⟩ := id hs
  have hT : s.TypeIs (.ref sl) "slice" := ⟨o, ho, hc⟩
  unfold getItem
  try with_reducible refine wpAny_holding ?_
  first | refine wpAny_bind (wpAny_pure ?_) | skip
  refine wpAny_bind (wpAny_sequenceKey ht.typeIs (by decide) (wpAny_bind (wpAny_callSpecial?_slot (name := Str.ofString "__getitem__") ht.typeIs slot_tuple_getitem (wpAny_call_entry slot_tuple_getitem ht.typeIs entry_tuple_getitem ?_ (args_tuple_getitem _ _)))))
  show wpAny _ _ (Builtin.Tuple.tupleItemsOf (.ref t) >>= _) _ _ s
  refine wpAny_bind (tupleItemsOf_ ht (wpAny_bind (wpAny_typeOf hT ?_)))
  rw [if_pos (by decide)]
  refine wpAny_bind (back_applied hs pk ?_)
  have hno : ¬ ((((items.size : Int) - 1) == 0 && (-1 : Int) == 1 && items.size == items.size) = true) := by
    rw [Bool.and_eq_true, Bool.and_eq_true]
    rintro ⟨⟨_, q⟩, _⟩
    exact absurd q (by decide)
  show wpAny _ _ (if (((items.size : Int) - 1) == 0 && (-1 : Int) == 1 && items.size == items.size) = true then _ else _) _ _ s
  rw [if_neg hno, back_picked]
  first
    | exact wpAny_bind (m := Builtin.Tuple.tupleExact _) (wpAny_newObj_type (wpAny_pure ⟨_, rfl, wpAny_pure h⟩) hsz)
    | exact wpAny_bind (m := Builtin.Tuple.tupleExact _) (wpAny_newObj_type (wpAny_bind (wpAny_pure (wpAny_pure ⟨_, rfl, wpAny_pure h⟩))) hsz)
    | exact wpAny_bind (wpAny_bind (m := Builtin.Tuple.tupleExact _) (wpAny_newObj_type (wpAny_pure (wpAny_pure ⟨_, rfl, wpAny_pure h⟩)) hsz))
    | exact wpAny_bind (wpAny_bind (m := Builtin.Tuple.tupleExact _) (wpAny_newObj_type (wpAny_pure ⟨_, rfl, wpAny_pure h⟩) hsz))
end
section
variable {X : Cx}
def tRevT (K : PySem.W.Frag) (te : TE) : TE := fun σ H Q => te σ H fun x H1 => ∃ a xs, x = .ref a ∧ SqT K H1 a xs ∧ ∀ p, H1 p = none → Q (.ref p) (upd H1 p (.tup xs.reverse))
theorem pe_revT {e : Expr} {te : TE} {k : Nat} {p1 p2 p3 pos : Pos} (he : PE X e te) : PE X (.Subscript e (.Slice none none (some (.UnaryOp .USub (.Constant (.int 1) k p1) p2)) p3) pos) (tRevT X.K te) := by
  refine ⟨fun pins s σ H Q I h => Subscript_ (thn (he.run pins s σ H _ I h) fun v s1 ⟨x, H1, I1, r1, a, xs, ex, hx, q⟩ => ?_)⟩
  subst ex
  cases r1
  have hst : PO X (some (.UnaryOp .USub (.Constant (.int 1) k p1) p2)) (tPart (tUn (rU fun i => .int (-i)) (tC (.int 1)))) := po_some (pe_un un_neg pe_int)
  refine wpAny_Slice (thn (po_none.run pins s1 σ H1 (fun o H2 => o = none ∧ H2 = H1) I1 ⟨rfl, rfl⟩) fun vl s2 ⟨l, H2, I2, pl, el, e2⟩ => ?_)
  subst el e2
  refine thn (po_none.run pins s2 σ H2 (fun o H3 => o = none ∧ H3 = H2) I2 ⟨rfl, rfl⟩) fun vu s3 ⟨u, H3, I3, pu, eu, e3⟩ => ?_
  subst eu e3
  refine thn (hst.run pins s3 σ H3 (fun o H4 => o = some (-1) ∧ H4 = H3) I3 ⟨1, rfl, -1, rfl, rfl, rfl⟩) fun vs s4 ⟨o, H4, I4, ps, eo, e4⟩ => ?_
  subst eo e4
  cases pl
  cases pu
  have I5 : Inv X pins σ H4 { s4 with heap := s4.heap.push { cls := .type "slice", data := .fields #[.none, .none, vs] } } := I4.kept (t' := s4.toks) fun b ob q => Heap.get?_push_of_some _ q
  obtain ⟨its, r, ht, hz⟩ := I5.tuple hx
  have hlen := r.length
  show wpAny (model X.prog X.w) X.A (subscriptTail e (.Slice none none (some (.UnaryOp .USub (.Constant (.int 1) k p1) p2)) p3) (.ref a) (.ref s4.heap.objs.size)) (EP X pins σ Q) X.xe { s4 with heap := s4.heap.push { cls := .type "slice", data := .fields #[.none, .none, vs] } }
  refine tail_any (ops := [.ref a, .ref s4.heap.objs.size]) ht.typeIs (slot_tuple_getitem.lookup) ?_ (by with_unfolding_all rfl)
  refine back_item ht (Heap.IsSliceOf.new _ .none .none vs) ps ?_ (by rw [List.size_toArray]; omega)
  refine ⟨.ref _, _, I5.laid (t' := s4.toks) (o := .tup xs.reverse) (fun b ob q => Heap.get?_push_of_some _ q) (Nat.le_refl _) ?_, rfl, q _ (I5.hok.fresh (Nat.le_refl _))⟩
  exact ⟨by rw [List.length_reverse]; exact hz, its.reverse, r.reverse, _, Heap.get?_push_size _ rfl, rfl, _, rfl⟩
end
/-! ### texts that are short and of plain signs -/
theorem okS {z : Str} : okStr z = true ↔ z.length ≤ 1000 ∧ ∀ c ∈ z.cps.toList, c < 128 := by
  unfold okStr
  rw [Bool.and_eq_true, List.all_eq_true]
  constructor
  · exact fun h => ⟨of_decide_eq_true h.1, fun c hc => of_decide_eq_true (h.2 c hc)⟩
  · exact fun h => ⟨decide_eq_true h.1, fun c hc => decide_eq_true (h.2 c hc)⟩
theorem tl_len (z : Str) : z.cps.toList.length = z.length := Array.length_toList
theorem cut_tl (z : Str) (lo hi : Option Int) : (cutS z lo hi).cps.toList = (z.cps.toList.drop (HT.sIx z.length 0 lo)).take (HT.sIx z.length z.length hi - HT.sIx z.length 0 lo) := rfl
theorem cut_len (z : Str) (lo hi : Option Int) : (cutS z lo hi).length ≤ z.length := by
  rw [← tl_len, cut_tl, List.length_take, List.length_drop, tl_len]
  omega
theorem cut_asc {z : Str} (lo hi : Option Int) (h : ∀ c ∈ z.cps.toList, c < 128) : ∀ c ∈ (cutS z lo hi).cps.toList, c < 128 := fun c hc => by
  rw [cut_tl] at hc
  exact h c (List.mem_of_mem_drop (List.mem_of_mem_take hc))
theorem cat_tl (a b : Str) : (a ++ b).cps.toList = a.cps.toList ++ b.cps.toList := TL.tl_append a b
theorem cat_len (a b : Str) : (a ++ b).length = a.length + b.length := by
  rw [← tl_len, cat_tl, List.length_append, tl_len, tl_len]
theorem cat_asc {a b : Str} (ha : ∀ c ∈ a.cps.toList, c < 128) (hb : ∀ c ∈ b.cps.toList, c < 128) : ∀ c ∈ (a ++ b).cps.toList, c < 128 := fun c hc => by
  rw [cat_tl] at hc
  rcases List.mem_append.mp hc with hc | hc
  · exact ha c hc
  · exact hb c hc
theorem one_asc {c : Nat} (h : c < 128) : ∀ x ∈ (⟨#[c]⟩ : Str).cps.toList, x < 128 := fun x hx => by
  rw [List.mem_singleton.mp hx]
  exact h
theorem upper_ok {z : Str} (h : ∀ c ∈ z.cps.toList, c < 128) : (Txt.upper z).length = z.length ∧ ∀ c ∈ (Txt.upper z).cps.toList, c < 128 := by
  have e := upper_S (a := z.cps.toList) (by rw [List.all_eq_true]; exact fun c hc => decide_eq_true (h c hc))
  rw [S_tl] at e
  rw [e]
  refine ⟨by rw [S_len, List.length_map, tl_len], fun c hc => ?_⟩
  obtain ⟨x, hx, rfl⟩ := List.mem_map.mp (show c ∈ z.cps.toList.map up1 from hc)
  have := h x hx
  unfold up1
  split <;> omega
end My

set_option Elab.async false
set_option linter.all false
set_option maxRecDepth 100000
namespace My
open PySem L2 SX
abbrev N_law_bent_name : List Str := ["_law_pen", "_law_name_here", "_law_at", "_law_sign", "_law_way"]
abbrev P_law_bent_name : List Str := ["_law_pen", "_law_name_here"]
mutual
def widD : PyData → Bool
  | .list xs => decide (xs.length ≤ 1000) && widAll xs
  | .tuple xs => decide (xs.length ≤ 1000) && widAll xs
  | .dict _ => false
  | _ => true
def widAll : List PyData → Bool
  | [] => true
  | d :: ds => widD d && widAll ds
end
theorem wid_form : ∀ {k : Nat} {D : PyData}, isForm k D = true → widD D = true := by
  intro k
  induction k with
  | zero =>
    intro D h
    rcases isForm_inv h with ⟨w, n, rfl, hw, hn⟩ | ⟨j, w, a, b, e, _⟩
    · rfl
    · cases e
  | succ k ih =>
    intro D h
    rcases isForm_inv h with ⟨w, n, rfl, hw, hn⟩ | ⟨j, w, a, b, e, rfl, hw, ha, hb⟩
    · rfl
    · obtain rfl : k = j := by omega
      show (true && (true && (widD a && (widD b && true)))) = true
      rw [ih ha, ih hb]
      rfl
def spBentName (K : PySem.W.Frag) : Sp := fun vs H Q _ => ∃ (d L : Addr) (ns : List Int) (n : Nat) (z : Str), vs = [.ref d, .str z] ∧ Pen K H d L ns n ∧ n < 2 ^ 39 ∧ isName z = true ∧
  ∀ v D H', Dp K H' v D → shortD D = true → widD D = true → D.depth ≤ 1 → Keep d H H' → Pen K H' d L ns (n + 4) → Q v H'
def zSigns : Str := Str.ofString "AZ_-~ .,()*|&+09az\n\t"
theorem signs_asc : ∀ c ∈ zSigns.cps.toList, c < 128 := by decide +kernel
theorem add_fit {a b : Str} (ha : a.length ≤ 400) (hb : b.length ≤ 400) : a.length + b.length ≤ sizeLine := Nat.le_of_lt (small1000 (by omega))
section
variable {P : Program} {w : World} {K : PySem.W.Frag} {mg : Str → Option Value} {base : Heap} {f : Addr} {fd : FuncData}
end
end My

set_option Elab.async false
set_option linter.all false
set_option maxRecDepth 100000
namespace My
open PySem PySem.Spec PyProof.Rows L2 SX
/-! ### the same rules, the heap behind them left open -/
/-- a new object -/
def New (o : HO) (Q : VK) (H : Hp) : Prop := ∀ p H', Same H H' → H' p = some o → Q (.ref p) H'
/-- a tuple, new or not -/
def NewT (K : PySem.W.Frag) (xs : List V) (Q : VK) (H : Hp) : Prop := ∀ p H', Same H H' → SqT K H' p xs → Q (.ref p) H'
theorem New.go {o : HO} {Q : VK} {H : Hp} (h : New o Q H) : ∀ p, H p = none → Q (.ref p) (upd H p o) := fun p np => h p _ (same_new np o) upd_same
theorem NewT.go {K : PySem.W.Frag} {xs : List V} {Q : VK} {H : Hp} (h : NewT K xs Q H) : ∀ p, H p = none → Q (.ref p) (upd H p (.tup xs)) := fun p np => h p _ (same_new np _) (SqT.of upd_same)
theorem small10k {n : Nat} (h : n ≤ 10000) : n < sizeLine := Nat.lt_of_le_of_lt h (by decide)
theorem le1k {n m : Nat} (h : Nat.ble n m = true := by rfl) : n ≤ m := Nat.le_of_ble_eq_true h
theorem fit1000 {n : Nat} (h : n ≤ 10000) : n ≤ sizeLine := Nat.le_of_lt (small10k h)
def nTup (K : PySem.W.Frag) (t : TA) : TE := fun σ H Q => t σ H fun xs H1 => xs.length ≤ 10000 ∧ NewT K xs Q H1
def nLst (t : TA) : TE := fun σ H Q => t σ H fun xs H1 => xs.length ≤ 10000 ∧ New (.lst xs) Q H1
def nCatT (K : PySem.W.Frag) : R2 := fun x y H Q => ∃ a b xs ys, x = .ref a ∧ y = .ref b ∧ SqT K H a xs ∧ SqT K H b ys ∧ xs.length + ys.length ≤ 10000 ∧ NewT K (xs ++ ys) Q H
def nCatL : R2 := fun x y H Q => ∃ l b xs zs, x = .ref l ∧ y = .ref b ∧ H l = some (.lst xs) ∧ H b = some (.lst zs) ∧ xs.length + zs.length ≤ 10000 ∧ New (.lst (xs ++ zs)) Q H
def nSlT (K : PySem.W.Frag) : V → Option Int → Option Int → Hp → VK → Prop := fun x lo hi H Q => ∃ a xs, x = .ref a ∧ SqT K H a xs ∧ NewT K (cutV xs lo hi) Q H
def nListOf (K : PySem.W.Frag) : List V → Hp → VK → Prop := fun xs H Q => ∃ p ys, xs = [.ref p] ∧ (SqL K H p ys ∨ SqT K H p ys) ∧ New (.lst ys) Q H
section
variable {X : Cx} {es : List Expr} {t : TA} {pos : Pos}
theorem pe_tupN {x1} (h : PA X es t) : PE X (.Tuple es x1 pos) (nTup X.K t) := by
  refine ⟨fun pins s σ H Q I hq => wpAny_Tuple_spliced (thn (h.run pos pins s σ H _ I hq) fun us s1 ⟨xs, H1, I1, r, z, q⟩ => ⟨by rw [← r.length]; exact fit1000 z, ?_⟩)⟩
  have hf := I1.hok.fresh (Nat.le_refl s1.heap.objs.size)
  exact ⟨.ref s1.heap.objs.size, upd H1 s1.heap.objs.size (.tup xs), I1.laid (t' := s1.toks) (fun b u e => Heap.get?_push_of_some _ e) (Nat.le_refl _) ⟨fit1000 z, us, r, ⟨_, Heap.get?_push_size _ rfl, rfl, _, rfl⟩⟩, rfl, q.go _ hf⟩
theorem pe_lstN (h : PA X es t) : PE X (.List es pos) (nLst t) := by
  refine ⟨fun pins s σ H Q I hq => wpAny_List_spliced (thn (h.run pos pins s σ H _ I hq) fun us s1 ⟨xs, H1, I1, r, z, q⟩ => ⟨by rw [← r.length]; exact fit1000 z, ?_⟩)⟩
  have hf := I1.hok.fresh (Nat.le_refl s1.heap.objs.size)
  exact ⟨.ref s1.heap.objs.size, upd H1 s1.heap.objs.size (.lst xs), I1.laid (t' := s1.toks) (fun b u e => Heap.get?_push_of_some _ e) (Nat.le_refl _) ⟨fit1000 z, us, 0, r, Heap.get?_push_size _ rfl⟩, rfl, q.go _ hf⟩
theorem op_catTN : OpR X (binaryOp .Add) (nCatT X.K) := by
  intro pins s σ H x y v u Q I rx ry ⟨a, b, xs, ys, ex, ey, hx, hy, hl, q⟩
  refine op_catA pins s σ H x y v u Q I rx ry ⟨a, b, xs, ys, ex, ey, hx, hy, fit1000 hl, fun e => ?_, fun _ e => ?_, fun _ _ => q.go⟩
  · subst e
    exact q b H (Same.refl H) hy
  · subst e
    exact q a H (Same.refl H) (by rw [List.append_nil]; exact hx)
theorem op_catLN : OpR X (binaryOp .Add) nCatL := by
  intro pins s σ H x y v u Q I rx ry ⟨l, b, xs, zs, ex, ey, hx, hy, hl, q⟩
  exact op_cat pins s σ H x y v u Q I rx ry ⟨l, b, xs, zs, ex, ey, hx, hy, fit1000 hl, q.go⟩
theorem sl_tupN : SlR X (nSlT X.K) := by
  intro pins s σ H x v vl vu lo hi sl Q I rx hs pl pu ⟨a, xs, ex, hx, q⟩
  refine sl_tupA pins s σ H x v vl vu lo hi sl Q I rx hs pl pu ⟨a, xs, ex, hx, fun ⟨e1, e2⟩ => ?_, fun _ => q.go⟩
  refine q a H (Same.refl H) ?_
  have e : cutV xs lo hi = xs := by
    unfold cutV
    rw [e1, e2, List.drop_zero, Nat.sub_zero, List.take_length]
  rw [e]
  exact hx
theorem call_listN : CallR X (.type "list") (nListOf X.K) := by
  intro pins s σ H xs us Q I r ⟨p, ys, ex, hy, q⟩
  exact call_list_of pins s σ H xs us Q I r ⟨p, ys, ex, hy, q.go⟩
end
abbrev N_law_bent : List Str := ["_law_pen", "_law_form", "_law_at", "_law_rest", "_law_odd"]
abbrev P_law_bent : List Str := ["_law_pen", "_law_form"]
def spBent (K : PySem.W.Frag) (k : Nat) : Sp := fun vs H Q _ => ∃ (d L : Addr) (ns : List Int) (n : Nat) (v : V) (D : PyData) (k' : Nat), vs = [.ref d, v] ∧ k' < k ∧ k' ≤ 40 ∧ Pen K H d L ns n ∧ n + 3 * k' < 2 ^ 38 ∧ Dp K H v D ∧ isForm k' D = true ∧
  ∀ v' D' H', Dp K H' v' D' → shortD D' = true → widD D' = true → D'.depth ≤ k' + 4 → Keep d H H' → Pen K H' d L ns (n + (2 * k' + 5)) → Q v' H'
theorem okStr_s : ∀ w ∈ leafW ++ halfW, okStr (w ++ Str.ofString "s") = true := by decide +kernel
theorem word_len : ∀ w ∈ leafW ++ halfW, w.length ≤ 100 := by decide +kernel
section
variable {P : Program} {w : World} {K : PySem.W.Frag} {mg : Str → Option Value} {base : Heap} {f : Addr} {fd : FuncData}
set_option maxHeartbeats 4000000 in
end
end My

set_option Elab.async false
set_option linter.all false
set_option maxRecDepth 100000
/-! closures as values: a lambda without parameters that is handed on to defs, and called there -/
namespace Clo
open PySem PySem.Spec PyProof.Rows L2 LamX
/-- the object at c is just o -/
def Pin (c : Addr) (o : Obj) : HO := .ext fun h => h.get? c = some o
theorem pin_ok {P : Program} {w : World} {H : Hp} {h : Heap} {c : Addr} {o : Obj} (e : h.get? c = some o) : ObjOk P w H h c (Pin c o) :=
  ⟨e, ⟨o, e⟩, fun h1 h2 q st => st _ q⟩
theorem pin_get {P : Program} {w : World} {H : Hp} {h : Heap} {c : Addr} {o : Obj} (hok : HOk P w H h) (e : H c = some (Pin c o)) : h.get? c = some o := (hok c _ e).1
/-- the cells at C known to the object; .. forgotten -/
def plus (C : Addr → Option Obj) (H : Hp) : Hp := fun b => match C b with | some o => some (Pin b o) | none => H b
def minus (C : Addr → Option Obj) (H : Hp) : Hp := fun b => match C b with | some _ => none | none => H b
section
variable {C : Addr → Option Obj} {H H' : Hp} {b : Addr} {o : Obj} {u : HO}
theorem plus_in (e : C b = some o) : plus C H b = some (Pin b o) := by unfold plus; rw [e]
theorem plus_out (e : C b = none) : plus C H b = H b := by unfold plus; rw [e]
theorem minus_in (e : C b = some o) : minus C H b = none := by unfold minus; rw [e]
theorem minus_out (e : C b = none) : minus C H b = H b := by unfold minus; rw [e]
theorem out_of (e : H b = some u) (f : ∀ c o, C c = some o → H c = none) : C b = none := by
  cases q : C b with
  | none => rfl
  | some o =>
    rw [f b o q] at e
    cases e
theorem pin_own {c x : Addr} : Pin c o ≠ .own x := fun z => by
  have z' : HO.ext _ = HO.own x := z
  cases z'
theorem pin_tup {c : Addr} {xs : List V} : Pin c o ≠ .tup xs := fun z => by
  have z' : HO.ext _ = HO.tup xs := z
  cases z'
theorem pin_frz {c : Addr} {p : Obj} : Pin c o ≠ .frz p u := fun z => by
  have z' : HO.ext _ = HO.frz p u := z
  cases z'
theorem pin_tbl {c : Addr} {ps : Array Value} : Pin c o ≠ .tbl ps := fun z => by
  have z' : HO.ext _ = HO.tbl ps := z
  cases z'
/-- Hm is H without the cells -/
structure Less (C : Addr → Option Obj) (Hm H : Hp) (h : Heap) : Prop where
  inn : ∀ c o, C c = some o → Hm c = none ∧ H c = some (Pin c o) ∧ h.get? c = some o
  out : ∀ b, C b = none → Hm b = H b
theorem less_plus {h : Heap} (f : ∀ c o, C c = some o → H c = none ∧ h.get? c = some o) : Less C H (plus C H) h :=
  ⟨fun c o e => ⟨(f c o e).1, plus_in e, (f c o e).2⟩, fun b e => (plus_out e).symm⟩
theorem less_minus {P : Program} {w : World} {h : Heap} (hok : HOk P w H h) (f : ∀ c o, C c = some o → H c = some (Pin c o)) : Less C (minus C H) H h :=
  ⟨fun c o e => ⟨minus_in e, f c o e, (hok c _ (f c o e)).1⟩, fun b e => minus_out e⟩
end
section
variable {P : Program} {w : World} {C : Addr → Option Obj} {H Hm H' : Hp} {h h' : Heap} {fs : List Addr}
theorem Less.cells (L : Less C Hm H h) {b : Addr} {u : HO} (e : H b = some u) (n : ∀ o, u ≠ Pin b o) : C b = none := by
  cases q : C b with
  | none => rfl
  | some o =>
    rw [(L.inn b o q).2.1] at e
    exact absurd (Option.some.inj e).symm (n o)
theorem Less.hok (L : Less C Hm H h) (k : HOk P w Hm h) : HOk P w H h := fun b u e => by
  cases q : C b with
  | some o =>
    rw [(L.inn b o q).2.1] at e
    cases e
    exact pin_ok (L.inn b o q).2.2
  | none =>
    rw [← L.out b q] at e
    refine (k b u e).stay (fun _ _ _ z => z) (fun c z => ?_) fun c xs z => ?_
    · cases qc : C c with
      | none => rw [← L.out c qc]; exact z
      | some o => rw [(L.inn c o qc).1] at z; cases z
    · cases qc : C c with
      | none => rw [← L.out c qc]; exact z
      | some o => rw [(L.inn c o qc).1] at z; cases z
theorem Less.hokm (L : Less C Hm H h) (k : HOk P w H h) : HOk P w Hm h := fun b u e => by
  have qb : C b = none := by
    cases q : C b with
    | none => rfl
    | some o => rw [(L.inn b o q).1] at e; cases e
  rw [L.out b qb] at e
  refine (k b u e).stay (fun _ _ _ z => z) (fun c z => ?_) fun c xs z => ?_
  · rw [L.out c (L.cells z fun o => Ne.symm pin_own)]; exact z
  · rw [L.out c (L.cells z fun o => Ne.symm pin_tup)]; exact z
/-- what is kept over Hm is kept over H, the cells told again -/
theorem un_plus (L : Less C Hm H h) (u : Un fs [] Hm H' h h') (nf : ∀ c o, C c = some o → c ∉ fs) : Un fs [] H (plus C H') h h' ∧ (∀ c o, C c = some o → h'.get? c = some o ∧ H' c = none) := by
  have cell : ∀ c o, C c = some o → h'.get? c = some o ∧ H' c = none := fun c o e => by
    have i := L.inn c o e
    exact ⟨u.keep c o i.2.2 i.1 (nf c o e) (by simp), u.free c o i.2.2 i.1 (by simp)⟩
  have nn : ∀ {b}, H b = none → C b = none := fun {b} n => by
    cases q : C b with
    | none => rfl
    | some o => rw [(L.inn b o q).2.1] at n; cases n
  refine ⟨⟨fun b o e n hb hx => ?_, fun b o e n hb hx => ?_, fun b o e n hx => ?_, u.there, fun b xs e => ?_, fun b o v e => ?_, fun b ps e => ?_⟩, cell⟩
  · exact u.keep b o e (by rw [L.out b (nn n)]; exact n) hb hx
  · exact u.slot b o e (by rw [L.out b (nn n)]; exact n) hb hx
  · rw [plus_out (nn n)]
    exact u.free b o e (by rw [L.out b (nn n)]; exact n) hx
  · have q := L.cells e fun o => Ne.symm pin_tup
    rw [plus_out q]
    exact u.tups b xs (by rw [L.out b q]; exact e)
  · have q := L.cells e fun o' => Ne.symm pin_frz
    rw [plus_out q]
    exact u.frzs b o v (by rw [L.out b q]; exact e)
  · have q := L.cells e fun o => Ne.symm pin_tbl
    rw [plus_out q]
    exact u.tbls b ps (by rw [L.out b q]; exact e)
/-- what is kept over H, the cells known behind it too, is kept over Hm -/
theorem un_minus (L : Less C Hm H h) (u : Un fs [] H H' h h') (hok : HOk P w H' h') (st : ∀ c o, C c = some o → H' c = some (Pin c o)) : Un fs [] Hm (minus C H') h h' := by
  have cell : ∀ c o, C c = some o → h'.get? c = some o := fun c o e => (hok c _ (st c o e)).1
  refine ⟨fun b o e n hb hx => ?_, fun b o e n hb hx => ?_, fun b o e n hx => ?_, u.there, fun b xs e => ?_, fun b o v e => ?_, fun b ps e => ?_⟩
  · cases q : C b with
    | some o' =>
      have := (L.inn b o' q).2.2
      rw [e] at this
      cases this
      exact cell b o q
    | none => exact u.keep b o e (by rw [← L.out b q]; exact n) hb hx
  · cases q : C b with
    | some o' =>
      have := (L.inn b o' q).2.2
      rw [e] at this
      cases this
      exact ⟨o.slots, cell b o q⟩
    | none => exact u.slot b o e (by rw [← L.out b q]; exact n) hb hx
  · cases q : C b with
    | some o' => exact minus_in q
    | none =>
      rw [minus_out q]
      exact u.free b o e (by rw [← L.out b q]; exact n) hx
  · have q : C b = none := by
      cases q : C b with
      | none => rfl
      | some o => rw [(L.inn b o q).1] at e; cases e
    rw [minus_out q]
    exact u.tups b xs (by rw [← L.out b q]; exact e)
  · have q : C b = none := by
      cases q : C b with
      | none => rfl
      | some o => rw [(L.inn b o q).1] at e; cases e
    rw [minus_out q]
    exact u.frzs b o v (by rw [← L.out b q]; exact e)
  · have q : C b = none := by
      cases q : C b with
      | none => rfl
      | some o => rw [(L.inn b o q).1] at e; cases e
    rw [minus_out q]
    exact u.tbls b ps (by rw [← L.out b q]; exact e)
end
section
variable {P : Program} {w : World} {C : Addr → Option Obj} {H Hm : Hp} {s s' : Shared} {outer : List Env}
theorem ce_plus {Q : VK} {u : Value} (L : Less C Hm H s.heap) (nf : ∀ c o, C c = some o → c ∉ frs outer) (h : CE outer P w Hm s (fun v H' => (∀ c o, C c = some o → H' c = none) → Q v (plus C H')) u s') : CE outer P w H s Q u s' := by
  obtain ⟨v, H', os, bare, un, hok, r, q⟩ := h
  obtain ⟨un', cell⟩ := un_plus L un nf
  exact ⟨v, plus C H', os, bare, un', (less_plus fun c o e => ⟨(cell c o e).2, (cell c o e).1⟩).hok hok, r, q fun c o e => (cell c o e).2⟩
theorem ce_minus {Q : VK} {u : Value} (L : Less C Hm H s.heap) (h : CE outer P w H s (fun v H' => (∀ c o, C c = some o → H' c = some (Pin c o)) ∧ Q v (minus C H')) u s') : CE outer P w Hm s Q u s' := by
  obtain ⟨v, H', os, bare, un, hok, r, st, q⟩ := h
  exact ⟨v, minus C H', os, bare, un_minus L un hok st, (less_minus hok st).hokm hok, r, q⟩
theorem cx_plus {E : XK} {u : Value} (L : Less C Hm H s.heap) (nf : ∀ c o, C c = some o → c ∉ frs outer) (h : L2.CX P w outer Hm s (fun cls d H' => (∀ c o, C c = some o → H' c = none) → E cls d (plus C H')) u s') : L2.CX P w outer H s E u s' := by
  obtain ⟨a, B, H', cls, d, eu, fl, hok, ub, na, os, ag, q⟩ := h
  have nn : ∀ {b}, H b = none → C b = none := fun {b} n => by
    cases q : C b with
    | none => rfl
    | some o => rw [(L.inn b o q).2.1] at n; cases n
  have cell : ∀ c o, C c = some o → B.get? c = some o ∧ H' c = none := fun c o e => by
    have i := L.inn c o e
    exact ⟨ub.keep c o i.2.2 i.1 (nf c o e), ub.free c o i.2.2 i.1⟩
  refine ⟨a, B, plus C H', cls, d, eu, fl, (less_plus fun c o e => ⟨(cell c o e).2, (cell c o e).1⟩).hok hok, ⟨fun b o e n hb => ?_, ub.slot, fun b o e n => ?_, ub.there, fun b xs e => ?_, fun b o v e => ?_, fun b ps e => ?_⟩, ?_, os, ag, q fun c o e => (cell c o e).2⟩
  · exact ub.keep b o e (by rw [L.out b (nn n)]; exact n) hb
  · rw [plus_out (nn n)]
    exact ub.free b o e (by rw [L.out b (nn n)]; exact n)
  · have q := L.cells e fun o => Ne.symm pin_tup
    rw [plus_out q]
    exact ub.tups b xs (by rw [L.out b q]; exact e)
  · have q := L.cells e fun o' => Ne.symm pin_frz
    rw [plus_out q]
    exact ub.frzs b o v (by rw [L.out b q]; exact e)
  · have q := L.cells e fun o => Ne.symm pin_tbl
    rw [plus_out q]
    exact ub.tbls b ps (by rw [L.out b q]; exact e)
  · have qa : C a = none := by
      cases q : C a with
      | none => rfl
      | some o =>
        have h1 := (cell a o q).1
        rw [fl.2.1] at h1
        cases h1
    rw [plus_out qa]
    exact na
end

/-! ### the cells of a frame -/
/-- C: the objects of the cells that env knows, with the values of the names -/
structure CellsAt (env : Env) (N : List Str) (σ : L2.St) (C : Addr → Option Obj) : Prop where
  all : ∀ x c, env.cells.lookup x = some c → ∃ o v, C c = some o ∧ o.data = .cell v
  val : ∀ (i : Nat) (x : Str) (v : V) (c : Addr), N[i]? = some x → σ[i]? = some (some v) → (env.kindOf x = some .cell ∨ env.kindOf x = some .free) → env.cells.lookup x = some c → ∃ o u, C c = some o ∧ o.data = .cell (some u) ∧ RelV v u
section
variable {X : Cx} {pins : List (Addr × Obj)} {σ : L2.St} {H : Hp} {s : Shared}
open Classical in
theorem cells_of (I : Inv X pins σ H s) : ∃ C : Addr → Option Obj, CellsAt X.env X.N σ C ∧ (∀ c o, C c = some o → s.heap.get? c = some o ∧ H c = none ∧ ∃ x, X.env.cells.lookup x = some c) := by
  refine ⟨fun c => if ∃ x, X.env.cells.lookup x = some c then s.heap.get? c else none, ⟨fun x c e => ?_, fun i x v c hn hs hk e => ?_⟩, fun c o e => ?_⟩
  · obtain ⟨v, o, ho, hd⟩ := I.cell x c e
    exact ⟨o, v, by rw [if_pos ⟨x, e⟩]; exact ho, hd⟩
  · obtain ⟨m, hm, hl⟩ := I.loc
    have vis : Vis X.env.scope x := hk.elim (fun k => .inr (.inl k)) (fun k => .inr (.inr k))
    obtain ⟨u, ru, q⟩ := hl i x v hn hs vis
    rcases q with ⟨k', _⟩ | ⟨_, c', e', o, ho, hd⟩
    · rcases hk with k | k <;> rw [k] at k' <;> cases k'
    · rw [e] at e'
      cases e'
      exact ⟨o, u, by rw [if_pos ⟨x, e⟩]; exact ho, hd, ru⟩
  · have e : (if ∃ x, X.env.cells.lookup x = some c then s.heap.get? c else none) = some o := e
    by_cases hx : ∃ x, X.env.cells.lookup x = some c
    · rw [if_pos hx] at e
      obtain ⟨x, ex⟩ := hx
      exact ⟨e, I.freeC x c ex, x, ex⟩
    · rw [if_neg hx] at e
      cases e
end
section
variable {X : Cx} {σ : L2.St} {C : Addr → Option Obj} {HZ : Hp} {s1 : Shared}
/-- the lambda's body, entered anywhere while the cells lie as C tells -/
theorem lam_start3 {A : Around} {outer : List Env} {E : XK} {scope : Scope} {f c' : Addr} {h₁ : Heap} {tk : Nat} (ok : X.Ok) (len : σ.length = X.N.length) (L : LamS X.env.scope scope) (KC : CellsAt X.env X.N σ C) (lie : ∀ c o, C c = some o → s1.heap.get? c = some o) (off : ∀ c o, C c = some o → HZ c = none)
    (e0 : Env0 X.prog X.w X.K X.mg X.base A outer s1 HZ) (hd : A.handled = none) (hns : h₁.Ns s1.heap.objs.size fun y => ([] : List (Str × Value)).reverse.lookup y) (kp : ∀ b o, s1.heap.get? b = some o → h₁.get? b = some o) :
    Inv (lamCx X A outer s1 HZ E scope f c') [] σ HZ { s1 with heap := h₁, toks := tk } := by
  have old : ∀ {x c}, (cloFrom X.env.cells scope.names []).lookup x = some c → X.env.cells.lookup x = some c := fun {x c} lk => by
    rcases cloFrom_mem (PySem.mem_of_lookup lk) with z | ⟨nm, at_⟩
    · exact absurd z (by simp)
    · obtain ⟨d, hl⟩ := L.has ok _ nm rfl
      have hl : X.env.cells.lookup x = some d := hl
      rw [at_, hl]
      rfl
  have seek : ∀ {x}, scope.names.lookup x = some .free → ∃ c, (cloFrom X.env.cells scope.names []).lookup x = some c := fun {x} lk =>
    mem_lookup (cloFrom_has (cells := X.env.cells) (acc := []) (PySem.mem_of_lookup lk))
  have noE : ∀ b : Addr, b ∉ (lamCx X A outer s1 HZ E scope f c').ex := fun b z => nomatch (show b ∈ ([] : List Addr) from z)
  refine ⟨⟨e0.mod, L.kind, rfl, rfl, Nat.le_refl _, fun x y c l1 l2 => ok.inj x y c (old l1) (old l2), fun x kx => ?_, fun x c z => ?_, fun _ => hd, Around.frames_deeper e0.frames, .inr ⟨rfl, rfl⟩, fun b z => (noE b z).elim, e0.bs, e0.bsz, fun b _ _ => noE b, fun b z => (noE b z).elim, e0.funs, e0.frf⟩,
    rfl, e0.bare, Un.kept kp, ⟨_, hns, fun i x v l1 l2 vs => ?_⟩, fun x c lk => ?_, e0.hok.fresh (Nat.le_refl _), fun x c lk => ?_, fun p z => (nomatch (show p ∈ ([] : List (Addr × Obj)) ++ [] from z)), e0.hok.kept kp, len⟩
  · have kx : scope.names.lookup x = some .cell ∨ scope.names.lookup x = some .free := kx
    rcases kx with k | k
    · exact ((L.own _ (PySem.mem_of_lookup k)).2 rfl).elim
    · exact seek k
  · exact nomatch (show false = true from z)
  · have vs : Vis scope x := vs
    rcases vs with k | k | k
    · exact ((L.own _ (PySem.mem_of_lookup k)).1 rfl).elim
    · exact ((L.own _ (PySem.mem_of_lookup k)).2 rfl).elim
    · have kk : X.env.kindOf x = some .cell ∨ X.env.kindOf x = some .free := L.free _ (PySem.mem_of_lookup k) rfl
      obtain ⟨c, lk⟩ := seek k
      obtain ⟨o, u, co, od, ru⟩ := KC.val i x v c l1 l2 kk (old lk)
      exact ⟨u, ru, .inr ⟨.inr k, c, lk, o, kp _ _ (lie c o co), od⟩⟩
  · obtain ⟨o, v, co, od⟩ := KC.all x c (old lk)
    exact ⟨v, o, kp _ _ (lie c o co), od⟩
  · obtain ⟨o, v, co, od⟩ := KC.all x c (old lk)
    exact off c o co
end

/-! ### a closure -/
/-- what a call of the object at f, without arguments, does -/
def Act (P : Program) (w : World) (K : PySem.W.Frag) (mg : Str → Option Value) (base : Heap) (k : Nat) (f : Addr) (tl : Hp → VK → XK → Prop) : Prop :=
  ∀ (A : Around) (outer : List Env) (s : Shared) (H : Hp) (Q : VK) (E : XK), Room k A → Env0 P w K mg base A outer s H → tl H Q E →
    codeAny (model P w) A (.call (.ref f) ⟨[], []⟩) (CR (L2.CX P w) outer P w H s Q E) s
theorem Act.mono {P : Program} {w : World} {K : PySem.W.Frag} {mg : Str → Option Value} {base : Heap} {j k : Nat} {f : Addr} {tl : Hp → VK → XK → Prop} (a : Act P w K mg base j f tl) (h : j ≤ k) : Act P w K mg base k f tl :=
  fun A outer s H Q E r => a A outer s H Q E (r.mono h)
/-- the reading of a lambda's call, wherever it comes: its object and the cells are known, the body's reading holds without them -/
def tlX (f c' : Addr) (fo : Obj) (q : Str) (C : Addr → Option Obj) (σ : L2.St) (t : XK → TE) : Hp → VK → XK → Prop := fun H Q E =>
  H f = some (Pin f fo) ∧ H c' = some (CodeO c' q) ∧ (∀ c o, C c = some o → H c = some (Pin c o)) ∧ t (fun cls d H' => (∀ c o, C c = some o → H' c = none) → E cls d (plus C H')) σ (minus C H) (fun v H' => (∀ c o, C c = some o → H' c = none) → Q v (plus C H'))
section
variable {X : Cx} {σ : L2.St} {C : Addr → Option Obj}
theorem act_ok {f c' : Addr} {pm ctv : Value} {params : Arguments} {body : Expr} {scope : Scope} {k : Nat} {t : XK → TE} (ok : X.Ok) (len : σ.length = X.N.length) (L : LamS X.env.scope scope) (KC : CellsAt X.env X.N σ C)
    (hbind : bindArgs (PySem.W.kla_fn "<lambda>" (X.env.qual ++ "<lambda>") params body scope (cloFrom X.env.cells scope.names []) pm (.ref c') ctv) ⟨[], []⟩ = pure [])
    (hbody : ∀ (A : Around) (outer : List Env) (s : Shared) (H : Hp) (E : XK), Room k (A.deeper (lamEnv X scope s.heap.objs.size f c')) → PE (lamCx X A outer s H E scope f c') body (t E)) :
    Act X.prog X.w X.K X.mg X.base (k + 1) f (tlX f c' (PySem.W.kla_obj "<lambda>" (X.env.qual ++ "<lambda>") params body scope (cloFrom X.env.cells scope.names []) pm c' ctv) (X.env.qual ++ "<lambda>") C σ t) := by
  intro A outer s H Q E hr e0 h
  obtain ⟨hf, hc, hC, ht⟩ := h
  have gf := pin_get e0.hok hf
  obtain ⟨⟨oc, vs, tq, g1, g2, g3⟩, _, _⟩ := e0.hok c' _ hc
  have LS : Less C (minus C H) H s.heap := less_minus e0.hok hC
  have nf : ∀ c o, C c = some o → c ∉ frs outer := fun c o e z => by
    have := e0.frf c z
    rw [hC c o e] at this
    cases this
  have e1 : Env0 X.prog X.w X.K X.mg X.base A outer s (minus C H) := ⟨e0.frames, e0.mod, fun b o e => ⟨(e0.bs b o e).1, by
      cases q : C b with
      | some o' => exact minus_in q
      | none => rw [minus_out q]; exact (e0.bs b o e).2⟩, e0.bsz, e0.funs, fun b hb => by
      cases q : C b with
      | some o' => exact minus_in q
      | none => rw [minus_out q]; exact e0.frf b hb, LS.hokm e0.hok, e0.bare⟩
  have lim : s.heap.NoLimit := e0.mod.nolimit.keeps fun b o e => (e0.bs b o e).1
  refine PySem.W.kla_callFunE hr.depth gf rfl L.co L.gen rfl ⟨c', oc, vs, tq, rfl, g1, g2, g3⟩ ?_
  rw [hbind]
  refine wpAny_pure (wpAny_newFunctionEnv (fun y hy => (L.own y hy).2) (fun y hy => nomatch hy) (fun h₁ hns hsb => ⟨lim.fresh _ hsb, ?_⟩) L.kind)
  show codeAny _ _ (.expr body (lamEnv X scope s.heap.objs.size f c')) _ _
  have kp : ∀ b o, s.heap.get? b = some o → h₁.get? b = some o := fun b o g => hsb.extBut b o (Nat.ne_of_lt (Heap.lt_size g)) (Heap.get?_push_of_some _ g)
  have J : Inv (lamCx X A outer s (minus C H) (fun cls d H' => (∀ c o, C c = some o → H' c = none) → E cls d (plus C H')) scope f c') [] σ (minus C H) { s with heap := h₁, toks := s.toks + ([] : List (Str × Value)).length } :=
    lam_start3 ok len L KC (fun c o e => (LS.inn c o e).2.2) (fun c o e => (LS.inn c o e).1) e1 hr.hd hns kp
  refine PySem.W.kla_codeExpr (wpAny_mono ((hbody A outer s (minus C H) _ (hr.deeper _)).run [] _ _ _ _ J ht) (fun v s' hq => ?_) fun e s' hq => ?_)
  · obtain ⟨v', H', J', rv, q⟩ := hq
    exact ce_plus LS nf ⟨v', H', J'.os, J'.bare, J'.base, J'.hok, rv, q⟩
  · exact wpAny_mono hq (fun _ s2 z => cx_plus LS nf z) fun e2 s2 z => cx_plus LS nf z
end

/-! ### a lambda is made -/
section
variable {X : Cx} {pins : List (Addr × Obj)} {σ : L2.St} {H : Hp} {s : Shared}
theorem pin_lay {h' : Heap} {o : Obj} {tk : Nat} (nf : o.isFreed = false) (I : Inv X pins σ H { s with heap := h', toks := tk }) : Inv X pins σ (upd H h'.objs.size (Pin h'.objs.size o)) { s with heap := h'.push o, toks := tk } :=
  I.laid (t' := tk) (fun b u g => Heap.get?_push_of_some _ g) (Nat.le_refl _) (pin_ok (Heap.get?_push_size _ nf))
theorem new_same {p : Addr} {o : HO} (n : H p = none) : ∀ b u, H b = some u → upd H p o b = some u := fun b u g => by
  rw [upd_ne (ne_of_none g n)]
  exact g
/-- a lambda is made, and known from then on -/
theorem lam_make3 {T : List (Addr × Str)} {c P : Addr} {params : Arguments} {body : Expr} {scope : Scope} {pos : Pos} {E : Value → Shared → Prop} {Q : Value → Shared → Prop} (I : Inv X pins σ H s) (TB : TabB X.base X.mg c P) (hcode : X.env.code = .ref c)
    (inT : (P, X.env.qual ++ "<lambda>") ∈ T) (one : ∀ p ∈ T, p.1 = P → p.2 = X.env.qual ++ "<lambda>") (tabs : Tabs T H) (nodef : defaultsOf params X.env = ([], [])) (free : ∀ y ∈ scope.names, y.2 = .free → ∃ c, X.env.cells.lookup y.1 = some c)
    (h : ∀ (f c' : Addr) (pm ctv : Value) (H1 : Hp) (s' : Shared), Inv X pins σ H1 s' → ExtN H H1 → Tabs T H1 → H f = none →
      H1 f = some (Pin f (PySem.W.kla_obj "<lambda>" (X.env.qual ++ "<lambda>") params body scope (cloFrom X.env.cells scope.names []) pm c' ctv)) → H1 c' = some (CodeO c' (X.env.qual ++ "<lambda>")) → Q (.ref f) s') :
    wpAny (model X.prog X.w) X.A (eval (.Lambda params body scope pos) X.env) Q E s := by
  obtain ⟨ps, tP, tOk, tAll⟩ := tabs _ inT
  have bP : s.heap.BuiltinsAt X.mg P := TB.bm.keeps I.bk
  have gP : s.heap.get? P = some { cls := .none, data := .fields ps } := I.hok P _ tP
  refine PySem.W.kla_eval nodef ?_
  cases among : codeAmong pos ps.toList with
  | some cv =>
    obtain ⟨c', rfl, known⟩ := tAll pos cv among
    refine PySem.W.kla_makeFunctionHit (mg := X.mg) (c := c) (P := P) (ps := ps) (closure_ok free) I.ok.glob (I.mod.glob.keeps I.bk) hcode (TB.code.keeps I.bk) gP tOk among bP fun ctv h' tk kept bigger => ?_
    have J : Inv X pins σ H { s with heap := h', toks := tk } := I.kept kept
    have n := J.hok.fresh (Nat.le_refl h'.objs.size)
    exact h _ c' _ ctv _ _ (pin_lay rfl J) (ExtN.of (new_same n)) (tabs.ext (new_same n)) n upd_same (new_same n _ _ known)
  | none =>
    refine PySem.W.kla_makeFunction (mg := X.mg) (c := c) (P := P) (ps := ps) (closure_ok free) I.ok.glob (I.mod.glob.keeps I.bk) hcode (TB.code.keeps I.bk) gP tOk among TB.gP bP fun c' ctv h' tk but ge lt rc tab => ?_
    obtain ⟨c2, oc, vs, tq, ec, g1, g2, g3⟩ := rc
    cases ec
    have J := inv_table (q := X.env.qual ++ "<lambda>") (t' := tk) (more := #[rawInt pos.line, rawInt pos.col, .ref c']) (h' := h') I tP (fun b o nb g => but b o nb g) tab ge ⟨oc, vs, tq, g1, g2, g3⟩
    have nc : H c' = none := I.hok.fresh ge
    have n := J.hok.fresh (Nat.le_refl h'.objs.size)
    have nH : H h'.objs.size = none := I.hok.fresh (Nat.le_trans ge (Nat.le_of_lt lt))
    have E1 : ExtN H (upd (upd H P (.tbl (ps ++ #[rawInt pos.line, rawInt pos.col, .ref c']))) c' (CodeO c' (X.env.qual ++ "<lambda>"))) := fun b u g no => by
      have nP : b ≠ P := fun z => no ps (Option.some.inj (g.symm.trans (z ▸ tP)))
      rw [upd_ne (ne_of_none g nc), upd_ne nP]
      exact g
    have T1 : Tabs T (upd (upd H P (.tbl (ps ++ #[rawInt pos.line, rawInt pos.col, .ref c']))) c' (CodeO c' (X.env.qual ++ "<lambda>"))) := fun p hp => by
      by_cases eP : p.1 = P
      · rw [one p hp eP, eP]
        refine ⟨ps ++ #[rawInt pos.line, rawInt pos.col, .ref c'], by rw [upd_ne (ne_of_none tP nc), upd_same], ?_, fun pos' cv hcv => ?_⟩
        · rw [Array.toList_append]
          exact PySem.TriplesOk_snoc _ _ _ _ tOk
        · rw [Array.toList_append] at hcv
          rcases among_app _ tOk hcv with z | z
          · obtain ⟨d, ed, kd⟩ := tAll pos' cv z
            exact ⟨d, ed, E1 _ _ kd codeO_ne⟩
          · exact ⟨c', z, upd_same⟩
      · obtain ⟨qs, b1, b2, b3⟩ := tabs p hp
        refine ⟨qs, by rw [upd_ne (ne_of_none b1 nc), upd_ne eP]; exact b1, b2, fun pos' cv hcv => ?_⟩
        obtain ⟨d, ed, kd⟩ := b3 pos' cv hcv
        exact ⟨d, ed, E1 _ _ kd codeO_ne⟩
    refine h _ c' _ ctv _ _ (pin_lay rfl J) (fun b u g no => new_same n _ _ (E1 b u g no)) (T1.ext (new_same n)) nH upd_same (new_same n _ _ upd_same)
end

/-- a def's object -/
def FnObj (o : Obj) : Prop := ∃ (oc : Value) (od : Option Addr) (fd : FuncData) (osl : Array (Option Value)), o = ⟨oc, od, .func fd, osl⟩
/-- the expression lambda: body -/
def tLam3 (X : Cx) (T : List (Addr × Str)) (k : Nat) (t : XK → TE) : TE := fun σ H Q => Tabs T H ∧ ∀ (f : Addr) (fo : Obj) (c' : Addr) (H1 : Hp), ExtN H H1 → Tabs T H1 → H f = none → H1 f = some (Pin f fo) → H1 c' = some (CodeO c' (X.env.qual ++ "<lambda>")) →
  FnObj fo → (∀ C, CellsAt X.env X.N σ C → Act X.prog X.w X.K X.mg X.base (k + 1) f (tlX f c' fo (X.env.qual ++ "<lambda>") C σ t)) → Q (.ref f) H1
/-- a call of v, without arguments, from here -/
def Does (P : Program) (w : World) (K : PySem.W.Frag) (mg : Str → Option Value) (base : Heap) (k : Nat) (v : V) (H : Hp) (Q : VK) (E : XK) : Prop :=
  ∃ (f : Addr) (fo : Obj) (tl : Hp → VK → XK → Prop), v = .ref f ∧ FnObj fo ∧ H f = some (Pin f fo) ∧ Act P w K mg base k f tl ∧ tl H Q E
theorem Does.mono {P : Program} {w : World} {K : PySem.W.Frag} {mg : Str → Option Value} {base : Heap} {j k : Nat} {v : V} {H : Hp} {Q : VK} {E : XK} (d : Does P w K mg base j v H Q E) (h : j ≤ k) : Does P w K mg base k v H Q E := by
  obtain ⟨f, fo, tl, e, n, p, a, t⟩ := d
  exact ⟨f, fo, tl, e, n, p, a.mono h, t⟩
/-- x(), x the slot i -/
def tAct (P : Program) (w : World) (K : PySem.W.Frag) (mg : Str → Option Value) (base : Heap) (i k : Nat) (E : L2.St → XK) : TE := fun σ H Q => ∃ v, σ[i]? = some (some v) ∧ Does P w K mg base k v H Q (E σ)
/-- a def's call, the caller's cells known while it runs -/
def tCallT (X : Cx) (sp : Sp) (t : TA) : TE := fun σ H Q => t σ H fun vs H1 => ∀ C, CellsAt X.env X.N σ C → (∀ c o, C c = some o → H1 c = none) →
  sp vs (plus C H1) (fun v H' => (∀ c o, C c = some o → H' c = some (Pin c o)) ∧ Q v (minus C H')) C8.E0
section
variable {X : Cx}
theorem pe_lam {T : List (Addr × Str)} {c P : Addr} {k : Nat} {params : Arguments} {body : Expr} {scope : Scope} {t : XK → TE} {pos : Pos} (TB : TabB X.base X.mg c P) (hcode : X.env.code = .ref c)
    (inT : (P, X.env.qual ++ "<lambda>") ∈ T) (one : ∀ p ∈ T, p.1 = P → p.2 = X.env.qual ++ "<lambda>") (L : LamS X.env.scope scope) (nodef : defaultsOf params X.env = ([], []))
    (hbind : ∀ (q : Str) (cl : List (Str × Addr)) (pm cv ctv : Value), bindArgs (PySem.W.kla_fn "<lambda>" q params body scope cl pm cv ctv) ⟨[], []⟩ = pure [])
    (hbody : ∀ (A : Around) (outer : List Env) (s : Shared) (H : Hp) (E : XK) (f c' : Addr), Room k (A.deeper (lamEnv X scope s.heap.objs.size f c')) → PE (lamCx X A outer s H E scope f c') body (t E)) :
    PE X (.Lambda params body scope pos) (tLam3 X T k t) := by
  refine ⟨fun pins s σ H Q I h => ?_⟩
  obtain ⟨tabs, h⟩ := h
  refine lam_make3 I TB hcode inT one tabs nodef (L.has I.ok) fun f c' pm ctv H1 s1 I1 x1 t1 n1 k1 k2 => ?_
  exact ⟨.ref f, H1, I1, rfl, h f _ c' H1 x1 t1 n1 k1 k2 ⟨_, _, _, _, rfl⟩ fun C KC => act_ok I1.ok I1.len L KC (hbind _ _ _ _ _) fun A outer s H E r => hbody A outer s H E f c' r⟩
theorem pe_act3 {i k : Nat} {a : Str} {E : L2.St → XK} {p1 p2 : Pos} (hr : Room k X.A) (hx : ∀ σ, PassesAt (L2.CX X.prog X.w) X σ (E σ)) (hN : X.N[i]? = some a) (hv : Vis X.env.scope a)
    (hd : (a == ("__debug__" : Str)) = false := by decide) (hcd : (a == ("__classdict__" : Str)) = false := by decide) : PE X (.Call (.Name a p1) [] [] p2) (tAct X.prog X.w X.K X.mg X.base i k E) := by
  refine ⟨fun pins s σ H Q I h => ?_⟩
  obtain ⟨w, hs, f, fo, tl, ew, ⟨oc, od, fd, osl, efo⟩, hf, act, ht⟩ := h
  subst ew
  refine wpAny_Call_Name_kw (thn ((pe_var (pos := p1) (i := i) hN hv hd hcd).run pins s σ H (fun v H1 => v = .ref f ∧ H1 = H) I ⟨.ref f, hs, rfl, rfl⟩) fun u s1 hu => ?_)
  obtain ⟨v, H1, I1, rv, ev, eH⟩ := hu
  subst ev
  rw [eH] at I1
  obtain rfl : u = Value.ref f := rv
  have gf := pin_get I1.hok hf
  refine PySem.W.callWith_F0 ⟨oc, od, fd, osl, by rw [gf, efo]⟩ ?_
  refine wpAny_call (codeAny_mono (act X.A X.stack s1 H Q (E σ) hr I1.env0 ht) fun r s2 hq => ?_)
  cases r with
  | error e => exact hx σ pins H s1 e s2 I1 hq
  | ok fl =>
    cases fl with
    | ret u => exact I1.after hq
    | next => exact False.elim hq
    | brk => exact False.elim hq
    | cont => exact False.elim hq
/-- f(..), the caller's cells known while it runs -/
theorem pe_callT {k : Nat} {f : Addr} {fd : FuncData} {ps : List Str} {sp : Sp} {x : Str} {p pos : Pos} {e : Expr} {es : List Expr} {t : TA} (F : FnOk X.prog X.w X.K X.mg X.base C8.CX0 k f fd ps sp) (hr : Room k X.A) (hg : Gl X x) (hm : X.mg x = some (.ref f)) (hk : PySem.W.keepIn X.K (.ref f) = true)
    (hb : Binds X.K fd ps []) (hfn : ∀ x, X.fn x = true) (ha : PA X (e :: es) t) (hdb : (x == ("__debug__" : Str)) = false := by decide) (he : starEach (e :: es) X.env = (false, eval e X.env) :: starEach es X.env := by rfl)
    (hpl : (backTo pos (starEach es X.env)).any (·.1) = false := by rfl) : PE X (.Call (.Name x p) (e :: es) [] pos) (tCallT X sp t) := by
  refine ⟨fun pins s σ H Q I h => ?_⟩
  refine wpAny_Call_Name_kw (ld_glob I hg hm ?_ hdb)
  refine PySem.W.callWith_K (h₀ := X.base) I.ok.mod.kin hk (thn (ha.run pos pins s σ H _ I h) fun us s1 ⟨vs, H1, I1, r, q⟩ => ⟨I1.kIn, ?_⟩) he hpl
  obtain ⟨C, KC, hC⟩ := cells_of I1
  have q := q C KC fun c o e => (hC c o e).2.1
  have LS : Less C H1 (plus C H1) s1.heap := less_plus fun c o e => ⟨(hC c o e).2.1, (hC c o e).1⟩
  have big : ∀ c o, C c = some o → X.s_0.heap.objs.size ≤ c := fun c o e => by
    obtain ⟨y, ey⟩ := (hC c o e).2.2
    exact I1.ok.cab y c (hfn y) ey
  have none_of : ∀ b, b < X.s_0.heap.objs.size → C b = none := fun b lt => by
    cases z : C b with
    | none => rfl
    | some o => exact absurd (Nat.lt_of_lt_of_le lt (big b o z)) (Nat.lt_irrefl _)
  have e0 := I1.env0
  have e1 : Env0 X.prog X.w X.K X.mg X.base X.A X.stack s1 (plus C H1) := ⟨e0.frames, e0.mod, fun b o g => ⟨(e0.bs b o g).1, by
      rw [plus_out (none_of b (Nat.lt_of_lt_of_le (Heap.lt_size g) I1.ok.bsz))]
      exact (e0.bs b o g).2⟩, e0.bsz, e0.funs, fun b hb => by
      have nb : C b = none := by
        rcases List.mem_cons.mp (I1.stkSub b hb) with z | z
        · rw [z]
          cases w : C X.env.locals with
          | none => rfl
          | some o =>
            obtain ⟨y, ey⟩ := (hC _ o w).2.2
            exact absurd rfl (I1.cne y _ ey)
        · obtain ⟨_, o, ho, _⟩ := I1.ok.funs.mem z
          exact none_of b (Heap.lt_size ho)
      rw [plus_out nb]
      exact e0.frf b hb, LS.hok e0.hok, e0.bare⟩
  have hl : us.length = ps.length := by rw [← r.length]; exact F.len _ _ _ _ q
  have b := hb s1 us I1.kIn (by rw [List.append_nil]; exact hl)
  rw [List.append_nil] at b
  refine wpAny_call (codeAny_mono (F.run X.A X.stack s1 (plus C H1) ⟨us, []⟩ us vs _ C8.E0 hr e1 b r q) fun rr s2 hq => ?_)
  cases rr with
  | error e => exact (show False from hq).elim
  | ok fl =>
    cases fl with
    | ret u => exact I1.after (ce_minus LS hq)
    | next => exact False.elim hq
    | brk => exact False.elim hq
    | cont => exact False.elim hq
end
end Clo

set_option Elab.async false
set_option linter.all false
set_option maxRecDepth 100000
/-! several except clauses, each with a name (the same one) -/
namespace Clo
open PySem PySem.Spec PyProof.Rows L2 LamX
/-- the ends of a suite behind which its name is gone -/
def goneD (i : Nat) (D : Ends) : Ends where
  nx := fun τ G => D.nx (τ.set i none) G
  rt := D.rt
  bk := fun τ G => D.bk (τ.set i none) G
  ct := fun τ G => D.ct (τ.set i none) G
/-- what the clauses wish, one behind the other; the caught one stands in slot i -/
def wNam (K : PySem.W.Frag) (i : Nat) (Wout : WX) (D : Ends) : List (Value × (Addr → Value → Option Addr → TS)) → WX
  | [] => Wout
  | (k, ts) :: more => fun cls d τ G => ∃ b, PySem.W.exmOne K cls k = some b ∧ (b = true → ∀ a, G a = none → ts a cls d (goneD i D) (τ.set i (some (.ref a))) G) ∧ (b = false → wNam K i Wout D more cls d τ G)
inductive HdsN (X : Cx) (n : Str) : List ExceptHandler → List (Value × (Addr → Value → Option Addr → TS)) → Prop
  | nil : HdsN X n [] []
  | cons {x : Str} {k : Value} {ts : Addr → Value → Option Addr → TS} {st : Stmt} {sts : List Stmt} {p1 p2 : Pos} {more : List ExceptHandler} {l : List (Value × (Addr → Value → Option Addr → TS))} (nm : Names X x k)
      (su : ∀ (a : Addr) (oe : Obj) (cls : Value) (d : Option Addr) (pn : List (Addr × Obj)), Zc cls d oe → (∃ vs, oe.data = .fields vs) → PSs (X.suite a ((a, oe) :: pn)) (st :: sts) (ts a cls d)) (r : HdsN X n more l) :
      HdsN X n (.ExceptHandler (some (.Name x p1)) (some n) (st :: sts) p2 :: more) ((k, ts) :: l)
section
variable {X : Cx} {body : List Stmt} {h₀ : ExceptHandler} {hds : List ExceptHandler} {l : List (Value × (Addr → Value → Option Addr → TS))} {pos : Pos} {tb : WX → TS} {Wout : WX} {n : Str} {i : Nat}
theorem ps_try_nam (st : X.stack = X.env :: X.outer) (fr : X.env.frame = some X.env.locals) (nd : X.N.Nodup) (at_ : X.N[i]? = some n) (lc : X.env.kindOf n = some .local) (tk : Takes X Wout)
    (hb : ∀ (W : WX) (pn : List (Addr × Obj)) (xe : Value → Shared → Prop), Takes (X.tr pn xe) W → PassesOwn (model X.prog X.w) X.A X.env xe → PSs (X.tr pn xe) body (tb W)) (hh : HdsN X n (h₀ :: hds) l) :
    PS X (.Try body (h₀ :: hds) [] [] pos) (fun D τ G => tb (wNam X.K i Wout D l) D τ G) := by
  refine ⟨fun pins s τ G D I hyp => ?_⟩
  have ok := I.ok
  have frames : X.A.frames = some (X.env :: X.outer) := by
    rw [ok.frames, st]
  refine wpAny_Try_except (wpAny_mono ((hb (wNam X.K i Wout D l) (X.pn ++ pins)
    (fun e s₁ => wpAny (model X.prog X.w) X.A (noteFrame e X.env) (fun _ s₂ => wpAny (model X.prog X.w) X.A (setFlight e none)
      (fun _ s₃ => wpAny (model X.prog X.w) X.A (handleBy e X.env (h₀ :: hds)) (SP X pins D) X.xe s₃) X.xe s₂) X.xe s₁)
    (fun u s' air => ?_) PassesOwn.looking).run [] s τ G D (I.toTry _) hyp) (fun f s1 z => ?_) (fun e s1 z => z))
  · obtain ⟨a, B, sI, pins', τ', G', cls, d, rfl, J', below, up, sky, new, os, bare, wish⟩ := air
    have J : Inv X pins τ' G' sI := J'.ofTry ok
    have sky1 : Sky B (X.env :: X.outer) a (Zc cls d) X.env.locals s'.heap := by
      rw [← st]
      exact sky
    show wpAny (model X.prog X.w) X.A (noteFrame (.ref a) X.env) _ _ _
    refine Sky.land Zc.steady frames fr sky1 fun h3 fly up3 => ?_
    have J3 : Inv X pins τ' G' { s' with heap := h3 } := J.landed below fly.1 (up.trans up3) os bare
    obtain ⟨oe, vs, ge, ze, de⟩ := fly.there
    have noFrame : a ∉ frs (X.env :: X.outer) := fun m => by
      obtain ⟨_, o', g', other⟩ := fly.2.2.1.mem m
      rw [ge] at g'
      cases g'
      exact other _ de
    have noLoc : a ≠ X.env.locals := fun z => noFrame (List.mem_filterMap.mpr ⟨X.env, List.mem_cons_self, by rw [fr, z]⟩)
    have noOut : a ∉ X.fs := fun m => by
      obtain ⟨e, me, q⟩ := List.mem_filterMap.mp m
      exact noFrame (List.mem_filterMap.mpr ⟨e, List.mem_cons_of_mem _ me, q⟩)
    have S3 := J3.suite ge de new noLoc noOut
    have go : ∀ {hs : List ExceptHandler} {ll : List (Value × (Addr → Value → Option Addr → TS))}, HdsN X n hs ll → wNam X.K i Wout D ll cls d τ' G' → wpAny (model X.prog X.w) X.A (handleBy (.ref a) X.env hs) (SP X pins D) X.xe { s' with heap := h3 } := by
      intro hs ll hk
      induction hk with
      | nil =>
        intro wish
        refine wpAny_handleBy_nil ?_
        obtain ⟨_, _, _, oe', vs', T, oT, tt, ge', _, de', g1, _⟩ := id fly
        have out : wpAny (model X.prog X.w) X.A (setFlight (.ref a) X.env.frame) (fun _ s4 => wpAny (model X.prog X.w) X.A (throw (.ref a) : Sem Flow) (SP X pins D) X.xe s4) X.xe { s' with heap := h3 } := by
          rw [fr]
          exact HandSPX.setFlight_upZ fly fun h4 hh4 up4 => wpAny_throw (tk _ _ ⟨a, B, sI, pins, τ', G', cls, d, rfl, J, below, (up.trans up3).trans up4, .inr (.inr (by rw [st]; exact hh4)), new, os, bare, wish⟩)
        unfold PySem.passOn
        refine wpAny_bind (wpAny_field ge' de' g1 ?_)
        rw [if_neg (show ¬ (Value.ref T == Value.none) = true from by simp)]
        first
          | exact wpAny_bind (wpAny_pure (wpAny_bind out))
          | exact wpAny_bind out
      | @cons x k ts st0 sts p1 p2 more ll nm su r ih =>
        intro wish
        obtain ⟨b, decided, yes, no⟩ := wish
        refine wpAny_handleBy_cons (codeAny_handlers_test ?_) (by intro q; cases q)
        have tyOf : PySem.W.Looks (model X.prog X.w) h3 (typeOf (.ref a)) cls := fun A Q E s k q => wpAny_typeOf_ref (k _ _ ge) (by rw [ze.1]; exact q)
        have named : ∀ {Q : Value → Shared → Prop} {E : Value → Shared → Prop}, Q k { s' with heap := h3 } → wpAny (model X.prog X.w) (X.A.mark (some (.ref a))) (eval (.Name x p1) X.env) Q E { s' with heap := h3 } := fun {Q E} q => by
          obtain ⟨g, dbg, m | ⟨m, v, nn⟩⟩ := nm
          · exact ld_glob (X := X.suite a ((a, oe) :: (X.pn ++ pins))) S3 g m q dbg
          · exact ld_blt (X := X.suite a ((a, oe) :: (X.pn ++ pins))) S3 g m v q nn dbg
        refine named ((PySem.W.exm_one (M := model X.prog X.w) (J3.kIn) tyOf decided).here ?_)
        cases b with
        | false =>
          show wpAny _ X.A (handleBy (.ref a) X.env more) _ _ _
          exact ih (no rfl)
        | true =>
          refine codeAny_handlers_suite_as (HandSPX.lands_againZ fly fun h4 fly4 up4 => ?_)
          have J4 : Inv X pins τ' G' { s' with heap := h4 } := J.landed below fly4.1 ((up.trans up3).trans up4) os bare
          obtain ⟨oe4, vs4, ge4, ze4, de4⟩ := fly4.there
          refine store_ok (X := X.suite a ((a, oe4) :: (X.pn ++ pins))) (v := .ref a) (J4.suite ge4 de4 new noLoc noOut) nd at_ (.inl lc) rfl (fun s5 S5 => ?_) (.inr lc)
          refine wpAny_mono ((su a oe4 cls d (X.pn ++ pins) ze4 ⟨_, de4⟩).run [] s5 _ G' _ S5 (yes rfl a new)) (fun f s6 z => ?_) (fun _ _ z => z.elim)
          have away : ∀ {τ6 : L2.St} {G6 : Hp} {Q : Shared → Prop}, Inv (X.suite a ((a, oe4) :: (X.pn ++ pins))) [] τ6 G6 s6 → (∀ s7, Inv X pins (τ6.set i none) G6 s7 → Q s7) →
              wpAny (model X.prog X.w) X.A (do bindName X.env n .none; unbindBehindTheSuite X.env n p2) (fun _ s7 => Q s7) X.xe s6 := fun S6 hq => gone_ok (S6.unsuite ok) nd at_ lc hq
          cases f with
          | next =>
            obtain ⟨τ6, G6, S6, q6⟩ := z
            exact away S6 fun s7 J7 => ⟨_, _, J7, q6⟩
          | brk =>
            obtain ⟨τ6, G6, S6, q6⟩ := z
            exact away S6 fun s7 J7 => ⟨_, _, J7, q6⟩
          | cont =>
            obtain ⟨τ6, G6, S6, q6⟩ := z
            exact away S6 fun s7 J7 => ⟨_, _, J7, q6⟩
          | ret u =>
            obtain ⟨v6, τ6, G6, S6, r6, q6⟩ := z
            exact away S6 fun s7 J7 => ⟨_, _, _, J7, r6, q6⟩
    exact go hh wish
  · cases f with
    | next =>
      obtain ⟨τ', G', J', q⟩ := z
      exact wpAny_execs_nil ⟨τ', G', J'.ofTry ok, q⟩
    | brk =>
      obtain ⟨τ', G', J', q⟩ := z
      exact ⟨τ', G', J'.ofTry ok, q⟩
    | cont =>
      obtain ⟨τ', G', J', q⟩ := z
      exact ⟨τ', G', J'.ofTry ok, q⟩
    | ret u =>
      obtain ⟨v, τ', G', J', r, q⟩ := z
      exact ⟨v, τ', G', J'.ofTry ok, r, q⟩
end
end Clo

set_option Elab.async false
set_option linter.all false
set_option maxRecDepth 100000
namespace My
open PySem L2
/-- a written dict with text keys, all of it: at a, these entries -/
structure SDict (K : PySem.W.Frag) (w : World) (a : Addr) (kvs : List (Key × V)) : Prop where
  ex : ∃ (es : Array DictEntry) (n : Nat), K.lookup a = some ⟨.type "dict", none, .dict es n, #[]⟩ ∧ PySem.W.KeysLit w.params es.toList ∧ (a == sysModules) = false ∧
    Paired (fun (e : DictEntry) (kv : Key × V) => ∃ x t, e.key = .str x t ∧ kv.1 = .inr x ∧ RelV kv.2 e.val) es.toList kvs ∧ (kvs.map (·.1)).Nodup ∧ kvs.length ≤ sizeLine
theorem sdict_pairs {P : Program} {w : World} : ∀ {es : List DictEntry} {kvs : List (Key × V)}, Paired (fun (e : DictEntry) (kv : Key × V) => ∃ x t, e.key = .str x t ∧ kv.1 = .inr x ∧ RelV kv.2 e.val) es kvs →
    ∃ vs : List (Key × Value), PySem.Pairs (mixKind P w) es vs ∧ KV kvs vs ∧ vs.map (·.1) = kvs.map (·.1)
  | _, _, .nil => ⟨[], .nil, .nil, rfl⟩
  | _, _, @Paired.cons _ _ _ e kv es kvs h t => by
    obtain ⟨x, tk, e1, e2, e3⟩ := h
    obtain ⟨vs, h1, h2, h3⟩ := sdict_pairs (P := P) (w := w) t
    refine ⟨(.inr x, e.val) :: vs, .cons ?_ rfl h1, .cons ⟨e2, e3⟩ h2, by rw [List.map_cons, List.map_cons, h3, e2]⟩
    show keyIs (.inr x) e.key = true
    rw [e1]
    exact keyIs_str x tk
theorem SDict.at {K : PySem.W.Frag} {P : Program} {w : World} {a : Addr} {kvs : List (Key × V)} (D : SDict K w a kvs) {h : Heap} (X : K.In h) : kvs.length ≤ sizeLine ∧ (a == sysModules) = false ∧ ∃ vs, KV kvs vs ∧ h.DictOf (mixKind P w) a vs := by
  obtain ⟨es, n, hl, hk, lo, hp, nd, sz⟩ := D.ex
  obtain ⟨vs, h1, h2, h3⟩ := sdict_pairs (P := P) (w := w) hp
  refine ⟨sz, lo, vs, h2, _, es, n, X _ _ hl, ⟨rfl, rfl, rfl⟩, rfl, fun e he => ?_, h1, by rw [h3]; exact nd⟩
  obtain ⟨x, t, e1, e2⟩ := hk.all e (Array.mem_toList_iff.mpr he)
  refine ⟨.inr x, ?_, e2⟩
  show keyIs (.inr x) e.key = true
  rw [e1]
  exact keyIs_str x t
/-- dict(d), d a written dict: a copy -/
theorem call_dictS {X : Cx} : CallR X (.type "dict") (fun xs H Q => ∃ (a : Addr) (kvs : List (Key × V)), xs = [.ref a] ∧ SDict X.K X.w a kvs ∧ ∀ p, H p = none → Q (.ref p) (upd H p (.dK kvs))) := by
  intro pins s σ H xs us Q I r q
  obtain ⟨a, kvs, ex, hd, q⟩ := q
  subst ex
  obtain ⟨u, eu, rx⟩ := vals1 r
  subst eu
  cases rx
  obtain ⟨z, lo, vs, rel, dd⟩ := hd.at (P := X.prog) I.kIn
  refine kt_call_dict lo dd (by rw [← rel.length]; exact z) fun h' d' hs => ?_
  have hm : (s.heap.objs.size == sysModules) = false := beq_eq_false_iff_ne.mpr (Nat.ne_of_gt I.big)
  exact ⟨.ref s.heap.objs.size, upd H s.heap.objs.size (.dK kvs), I.laid (t' := s.toks) (fun b u e => (hs.2 b (Nat.ne_of_lt (Heap.lt_size e))).trans (Heap.get?_push_of_some _ e)) (Nat.le_refl _)
    (show ObjOk X.prog X.w _ _ _ (.dK kvs) from ⟨z, hm, vs, rel, d'⟩), rfl, q _ (I.hok.fresh (Nat.le_refl _))⟩
end My

set_option Elab.async false
set_option linter.all false
set_option maxRecDepth 100000
namespace My
open PySem L2
/-! ### two values that are the same in all their parts -/
def flatv : V → Bool
  | .non => true
  | .bl _ => true
  | .int _ => true
  | .str _ => true
  | _ => false
def Tw (K : PySem.W.Frag) (H : Hp) : Nat → V → V → Prop
  | 0, _, _ => False
  | n + 1, v, u => (v = u ∧ flatv v = true) ∨ (∃ (a : Addr) (kvs : List (Key × V)), v = .ref a ∧ u = .ref a ∧ H a = some (.dK kvs) ∧ (kvs.map (·.1)).Nodup ∧ ∀ p ∈ kvs, flatB p.2 = true) ∨
    (∃ (a b : Addr) (xs ys : List V), v = .ref a ∧ u = .ref b ∧ SqT K H a xs ∧ SqT K H b ys ∧ xs.length ≤ 10000 ∧ Paired (Tw K H n) xs ys) ∨
    (∃ (a b : Addr) (xs ys : List V), v = .ref a ∧ u = .ref b ∧ SqL K H a xs ∧ SqL K H b ys ∧ xs.length ≤ 10000 ∧ Paired (Tw K H n) xs ys)
theorem paired_imp {α β : Type} {r s : α → β → Prop} (h : ∀ x y, r x y → s x y) : ∀ {xs : List α} {ys : List β}, Paired r xs ys → Paired s xs ys
  | _, _, .nil => .nil
  | _, _, .cons a b => .cons (h _ _ a) (paired_imp h b)
theorem paired_at {α β : Type} {r : α → β → Prop} : ∀ {xs : List α} {ys : List β} {i : Nat} {x : α} {y : β}, Paired r xs ys → xs[i]? = some x → ys[i]? = some y → r x y
  | _, _, _, _, _, .nil, e, _ => by simp at e
  | _, _, 0, _, _, .cons a _, e1, e2 => by
    simp at e1 e2
    rw [← e1, ← e2]
    exact a
  | _, _, i + 1, _, _, .cons _ b, e1, e2 => paired_at (i := i) b (by simpa using e1) (by simpa using e2)
variable {K : PySem.W.Frag}
theorem tw_same {H H' : Hp} (s : Same H H') : ∀ {n : Nat} {v u : V}, Tw K H n v u → Tw K H' n v u
  | 0, _, _, h => h
  | n + 1, v, u, h => by
    rcases h with h | ⟨a, kvs, e1, e2, ha, h1, h2⟩ | ⟨a, b, xs, ys, e1, e2, sa, sb, hl, hp⟩ | ⟨a, b, xs, ys, e1, e2, sa, sb, hl, hp⟩
    · exact .inl h
    · exact .inr (.inl ⟨a, kvs, e1, e2, s _ _ ha, h1, h2⟩)
    · exact .inr (.inr (.inl ⟨a, b, xs, ys, e1, e2, seqT_same s sa, seqT_same s sb, hl, paired_imp (fun _ _ => tw_same s) hp⟩))
    · exact .inr (.inr (.inr ⟨a, b, xs, ys, e1, e2, s.seq sa, s.seq sb, hl, paired_imp (fun _ _ => tw_same s) hp⟩))
theorem tw_mono {H : Hp} : ∀ {n m : Nat} {v u : V}, n ≤ m → Tw K H n v u → Tw K H m v u
  | 0, _, _, _, _, h => h.elim
  | n + 1, 0, _, _, hm, _ => absurd hm (by omega)
  | n + 1, m + 1, v, u, hm, h => by
    have le : n ≤ m := by omega
    rcases h with h | h | ⟨a, b, xs, ys, e1, e2, sa, sb, hl, hp⟩ | ⟨a, b, xs, ys, e1, e2, sa, sb, hl, hp⟩
    · exact .inl h
    · exact .inr (.inl h)
    · exact .inr (.inr (.inl ⟨a, b, xs, ys, e1, e2, sa, sb, hl, paired_imp (fun _ _ => tw_mono le) hp⟩))
    · exact .inr (.inr (.inr ⟨a, b, xs, ys, e1, e2, sa, sb, hl, paired_imp (fun _ _ => tw_mono le) hp⟩))
theorem widAll_cons {d : PyData} {ds : List PyData} (h : widAll (d :: ds) = true) : widD d = true ∧ widAll ds = true := by
  unfold widAll at h
  exact Bool.and_eq_true_iff.mp h
mutual
theorem tw_dp {H : Hp} : ∀ (D : PyData) (v u : V), widD D = true → Dp K H v D → Dp K H u D → Tw K H (D.depth + 1) v u
  | .none, _, _, _, h, g => by cases h; cases g; exact .inl ⟨rfl, rfl⟩
  | .bool b, _, _, _, h, g => by cases h; cases g; exact .inl ⟨rfl, rfl⟩
  | .int i, _, _, _, h, g => by cases h; cases g; exact .inl ⟨rfl, rfl⟩
  | .str x, _, _, _, h, g => by cases h; cases g; exact .inl ⟨rfl, rfl⟩
  | .list ds, _, _, s, h, g => by
    unfold widD at s
    obtain ⟨s1, s2⟩ := Bool.and_eq_true_iff.mp s
    cases h with
    | lst hs ha =>
    cases g with
    | lst gs ga =>
      simp only [PyData.depth]
      exact .inr (.inr (.inr ⟨_, _, _, _, rfl, rfl, hs, gs, by rw [dpAll_len ha]; exact Nat.le_trans (of_decide_eq_true s1) (by decide), tw_dpAll ds _ _ s2 ha ga⟩))
  | .tuple ds, _, _, s, h, g => by
    unfold widD at s
    obtain ⟨s1, s2⟩ := Bool.and_eq_true_iff.mp s
    cases h with
    | tup hs ha =>
    cases g with
    | tup gs ga =>
      simp only [PyData.depth]
      exact .inr (.inr (.inl ⟨_, _, _, _, rfl, rfl, hs, gs, by rw [dpAll_len ha]; exact Nat.le_trans (of_decide_eq_true s1) (by decide), tw_dpAll ds _ _ s2 ha ga⟩))
  | .dict _, _, _, _, h, _ => by cases h
theorem tw_dpAll {H : Hp} : ∀ (ds : List PyData) (xs ys : List V), widAll ds = true → DpAll K H xs ds → DpAll K H ys ds → Paired (Tw K H (PyData.depthAll ds + 1)) xs ys
  | [], _, _, _, h, g => by cases h; cases g; exact .nil
  | d :: ds, _, _, s, h, g => by
    obtain ⟨s1, s2⟩ := widAll_cons s
    cases h with
    | cons h1 h2 =>
    cases g with
    | cons g1 g2 =>
      have a := tw_dp d _ _ s1 h1 g1
      have b := tw_dpAll ds _ _ s2 h2 g2
      simp only [PyData.depthAll]
      exact .cons (tw_mono (by omega) a) (paired_imp (fun _ _ => tw_mono (by omega)) b)
end

/-! ### rules -/
/-- of a kind, wherever all stays -/
structure TyS (K : PySem.W.Frag) (H : Hp) (v : V) (g : String) : Prop where
  same : ∀ {H'}, Same H H' → TyX K H' v (.type g)
theorem tyT {H : Hp} {a : Addr} {xs : List V} (h : SqT K H a xs) : TyS K H (.ref a) "tuple" := ⟨fun s => by
  rcases seqT_same s h with (hs | ⟨o, hs⟩) | ⟨o, its, n, lk, c, _⟩
  · exact .base (.tup hs)
  · exact .fTuple hs
  · exact .kTuple lk c⟩
theorem tyL {H : Hp} {a : Addr} {xs : List V} (h : SqL K H a xs) : TyS K H (.ref a) "list" := ⟨fun s => by
  rcases s.seq h with (hs | ⟨o, hs⟩) | ⟨o, its, n, lk, c, _⟩
  · exact .base (.lst hs)
  · exact .base (.frz hs)
  · exact .kList lk c⟩
theorem op_orR {X : Cx} {f : Value → Value → Sem Value} {r1 r2 : R2} (a : OpR X f r1) (b : OpR X f r2) : OpR X f (fun x y H Q => r1 x y H Q ∨ r2 x y H Q) := fun pins s σ H x y v u Q I rx ry h =>
  h.elim (a pins s σ H x y v u Q I rx ry) (b pins s σ H x y v u Q I rx ry)
theorem kit2 {g : String} {b1 b2 : Bool} (h1 : kitB g "tuple" = some b1) (h2 : kitB g "list" = some b2) : PySem.W.kitAny K (.type g) [.type "tuple", .type "list"] = some (b1 || b2) := by
  cases b1 with
  | true => exact kitAny_cons (kit_ty h1) (fun z => nomatch z) fun _ => rfl
  | false =>
    refine kitAny_cons (kit_ty h1) (fun _ => ?_) fun z => nomatch z
    cases b2 with
    | true => exact kitAny_cons (kit_ty h2) (fun z => nomatch z) fun _ => rfl
    | false => exact kitAny_cons (kit_ty h2) (fun _ => kitAny_nil) fun z => nomatch z
theorem all_tt (n : Nat) : (List.replicate n true).all id = true := by
  rw [List.all_eq_true]
  intro x h
  rw [List.eq_of_mem_replicate h]
  rfl
theorem same_at {H H' : Hp} {D : Addr} {o : HO} (s : Same H H') (n : H D = none) : Same H (upd H' D o) := fun c u e => by
  rw [upd_ne (ne_of_none e n)]
  exact s c u e
theorem kTs : PySem.W.kitAny K (.type "tuple") [.type "tuple", .type "list"] = some true := kit2 (g := "tuple") (b1 := true) (b2 := false) (by decide +kernel) (by decide +kernel)
theorem kLs : PySem.W.kitAny K (.type "list") [.type "tuple", .type "list"] = some true := kit2 (g := "list") (b1 := false) (b2 := true) (by decide +kernel) (by decide +kernel)
theorem kTT : PySem.W.kitOne K (.type "tuple") (.type "tuple") = some true := kit_ty (by decide +kernel)
theorem kTL : PySem.W.kitOne K (.type "tuple") (.type "list") = some false := kit_ty (by decide +kernel)
theorem kLT : PySem.W.kitOne K (.type "list") (.type "tuple") = some false := kit_ty (by decide +kernel)
theorem kLL : PySem.W.kitOne K (.type "list") (.type "list") = some true := kit_ty (by decide +kernel)
/-- the tuples that zip goes over, their items in new pairs -/
theorem walk_zipT {a b : Addr} {xs ys : List V} (hl : xs.length = ys.length) : Walk (RZ.ItzT K a b) xs.length (fun H => SqT K H a xs ∧ SqT K H b ys) (YPair (fun i => xs[i]?) (fun i => ys[i]?)) := by
  refine ⟨fun i H hi q => ?_, fun H q => ⟨xs, ys, q.1, q.2, .inl (Nat.le_refl _)⟩, fun i H v H' _ q y => ?_⟩
  · exact ⟨xs, ys, xs[i], ys[i]'(by omega), q.1, q.2, List.getElem?_eq_getElem hi, List.getElem?_eq_getElem (by omega)⟩
  · obtain ⟨T, x, z, e1, n, e2, f1, f2⟩ := y
    exact ⟨T, x, z, e1, n, e2, f1 xs q.1, f2 ys q.2⟩
abbrev s_law_same : Stmt := top 36
abbrev N_law_same : List Str := ["_law_told", "_law_due", "_law_one", "_law_other"]
abbrev P_law_same : List Str := ["_law_told", "_law_due"]
theorem sc_law_same : FnScope N_law_same P_law_same (defScope s_law_same) := ⟨rfl, rfl, rfl, by decide +kernel, rfl, by decide +kernel, by decide +kernel⟩
def spSame (K : PySem.W.Frag) (n : Nat) : Sp := fun vs H Q _ => ∃ v u : V, vs = [v, u] ∧ Tw K H n v u ∧ ∀ H', Same H H' → Q (.bl true) H'
section
variable {P : Program} {w : World} {mg : Str → Option Value} {base : Heap} {f : Addr} {fd : FuncData}
theorem ok_law_same {n : Nat} (T : Txt K mg) (zip : mg "zip" = none) (F : Fun K "_law_same" "_law_same" s_law_same f fd) (C_law_same : Cal P w K mg base "_law_same" (1 + n) P_law_same (spSame K n)) :
    FnOk P w K mg base CX0 (1 + n + 1) f fd P_law_same (spSame K (n + 1)) := by
  refine F.ok sc_law_same (fun vs H Q E h => ?_) (fun cdv A outer s H vs Q E hr h => ?_)
  · obtain ⟨v, u, rfl, _⟩ := h
    rfl
  obtain ⟨v, u, rfl, h, q⟩ := h
  have hu : A.units + 3 < cLine := by
    have := hr.un
    exact Nat.lt_of_le_of_lt (by show A.units + 3 ≤ A.units + 3 + 16 * (1 + n) + 200; omega) this
  refine ⟨_, (pss_cons (ps_if (pt_val (pe_callB call_isiT rfl T.isinstance (by decide +kernel) (pa_cons (pv 1) (pa_cons (pe_tup (pa_cons (pe_bltn (v := .ty "tuple") rfl T.tuple (by decide +kernel) rfl) (pa_cons (pe_bltn (v := .ty "list") rfl T.list (by decide +kernel) rfl) pa_nil))) pa_nil))))
    (pss_cons (ps_if (PW.pt (pw_or (pt_cmpR op_ne (pe_callB call_isi rfl T.isinstance (by decide +kernel) (pa_cons (pv 0) (pa_cons (pe_bltn (v := .ty "tuple") rfl T.tuple (by decide +kernel) rfl) pa_nil))) (pe_callB call_isi rfl T.isinstance (by decide +kernel) (pa_cons (pv 1) (pa_cons (pe_bltn (v := .ty "tuple") rfl T.tuple (by decide +kernel) rfl) pa_nil))) (nomark _)) (pw_or1 (pt_cmpR op_ne (pe_callB call_isi rfl T.isinstance (by decide +kernel) (pa_cons (pv 0) (pa_cons (pe_bltn (v := .ty "list") rfl T.list (by decide +kernel) rfl) pa_nil))) (pe_callB call_isi rfl T.isinstance (by decide +kernel) (pa_cons (pv 1) (pa_cons (pe_bltn (v := .ty "list") rfl T.list (by decide +kernel) rfl) pa_nil))) (nomark _)))))
      (pss_one (ps_ret pe_bl))
      pss_nil)
    (pss_one (ps_ret (pe_and (pe_cmpR op_eq (pe_callB call_len rfl T.len (by decide +kernel) (pa_cons (pv 0) pa_nil)) (pe_callB call_len rfl T.len (by decide +kernel) (pa_cons (pv 1) pa_nil)) (nomark _)) (pe_one (pe_callB (cr_all rfl) rfl T.all (by decide +kernel) (pa_cons (pe_lc (own := [("_law_one", 2), ("_law_other", 3)]) (g := gTup K 2 (gCons (gName 2) (gCons (gName 3) gNil))) rfl sc_law_same.nd (RZ.pi_zipA rfl zip (pa_cons (pv 0) (pa_cons (pv 1) pa_nil))) (blkOk_by (own := [("_law_one", 2), ("_law_other", 3)]) (N := N_law_same) (sc := defScope s_law_same) (by decide +kernel)) (fun _ _ _ _ _ => (pg_tup rfl (pgs_cons (pg_name (i := 2) sc_law_same.nd rfl (Or.inl rfl)) (pgs_cons (pg_name (i := 3) sc_law_same.nd rfl (Or.inl rfl)) pgs_nil)))) (fun _ _ _ _ _ => pts_nil) (fun _ _ _ _ _ => (pe_callC C_law_same hr (pa_cons (pv 2) (pa_cons (pv 3) pa_nil))))) pa_nil)))))))
    pss_nil)
  (pss_one (ps_ret (pe_and (pe_cmpR op_eq (pe_callB call_isi rfl T.isinstance (by decide +kernel) (pa_cons (pv 0) (pa_cons (pe_bltn (v := .ty "bool") rfl T.bool (by decide +kernel) rfl) pa_nil))) (pe_callB call_isi rfl T.isinstance (by decide +kernel) (pa_cons (pv 1) (pa_cons (pe_bltn (v := .ty "bool") rfl T.bool (by decide +kernel) rfl) pa_nil))) (nomark _)) (pe_one (pe_cmpR (op_orR op_eq (op_eq_dict hu)) (pv 0) (pv 1) (nomark _))))))), ?_⟩
  have kinds : (∃ (g : String) (b : Bool), kitB g "tuple" = some false ∧ kitB g "list" = some false ∧ kitB g "bool" = some b ∧ (∀ H', Same H H' → TyX K H' v (.type g)) ∧ (∀ H', Same H H' → TyX K H' u (.type g)) ∧
      ((scal v u = true ∧ v = u) ∨ ∃ (a : Addr) (kvs : List (Key × V)), v = .ref a ∧ u = .ref a ∧ H a = some (.dK kvs) ∧ (kvs.map (·.1)).Nodup ∧ ∀ p ∈ kvs, flatB p.2 = true)) ∨
      (∃ (a b : Addr) (xs ys : List V), v = .ref a ∧ u = .ref b ∧ SqT K H a xs ∧ SqT K H b ys ∧ xs.length ≤ 10000 ∧ Paired (Tw K H n) xs ys) ∨
      (∃ (a b : Addr) (xs ys : List V), v = .ref a ∧ u = .ref b ∧ SqL K H a xs ∧ SqL K H b ys ∧ xs.length ≤ 10000 ∧ Paired (Tw K H n) xs ys) := by
    rcases h with ⟨rfl, fl⟩ | ⟨a, kvs, rfl, rfl, ha, h1, h2⟩ | h | h
    · refine .inl ?_
      cases v with
      | non => exact ⟨"NoneType", false, by decide +kernel, by decide +kernel, by decide +kernel, fun _ _ => .base .non, fun _ _ => .base .non, .inl ⟨rfl, rfl⟩⟩
      | bl b => exact ⟨"bool", true, by decide +kernel, by decide +kernel, by decide +kernel, fun _ _ => .base (.bl b), fun _ _ => .base (.bl b), .inl ⟨rfl, rfl⟩⟩
      | int b => exact ⟨"int", false, by decide +kernel, by decide +kernel, by decide +kernel, fun _ _ => .base (.int b), fun _ _ => .base (.int b), .inl ⟨rfl, rfl⟩⟩
      | str b => exact ⟨"str", false, by decide +kernel, by decide +kernel, by decide +kernel, fun _ _ => .base (.str b), fun _ _ => .base (.str b), .inl ⟨rfl, rfl⟩⟩
      | _ => cases fl
    · exact .inl ⟨"dict", false, by decide +kernel, by decide +kernel, by decide +kernel, fun _ s => .base (.dK (s _ _ ha)), fun _ s => .base (.dK (s _ _ ha)), .inr ⟨a, kvs, rfl, rfl, ha, h1, h2⟩⟩
    · exact .inr (.inl h)
    · exact .inr (.inr h)
  refine ⟨u, rfl, by show 2 ≤ sizeLine; decide, fun tp np => ?_⟩
  have s1 := same_new np (.tup [.ty "tuple", .ty "list"])
  rcases kinds with ⟨g, b, h1, h2, h3, tv, tu, he⟩ | ⟨a, b, xs, ys, rfl, rfl, sa, sb, hl, hp⟩ | ⟨a, b, xs, ys, rfl, rfl, sa, sb, hl, hp⟩
  · refine ⟨u, tp, [.ty "tuple", .ty "list"], .type g, [.type "tuple", .type "list"], false, rfl, upd_same, .cons (.ty _) (.cons (.ty _) .nil), tu _ s1, kit2 h1 h2, false, rfl, ?_⟩
    refine ⟨v, rfl, _, _, _, _, _, rfl, .ty "bool", tv _ s1, kit_ty h3, u, rfl, _, _, _, _, _, rfl, .ty "bool", tu _ s1, kit_ty h3, rfl, ?_⟩
    rw [decide_eq_true rfl]
    refine ⟨true, rfl, iteT ⟨v, rfl, u, rfl, ?_⟩⟩
    rcases he with ⟨sc, rfl⟩ | ⟨a, kvs, rfl, rfl, ha, nd, fl⟩
    · refine .inl ⟨sc, ?_⟩
      rw [decide_eq_true rfl]
      exact q _ s1
    · exact .inr ⟨a, a, kvs, rfl, rfl, s1 _ _ ha, s1 _ _ ha, nd, fl, q _ s1⟩
  · have ta := tyT sa
    have tb := tyT sb
    refine ⟨_, tp, [.ty "tuple", .ty "list"], .type "tuple", [.type "tuple", .type "list"], true, rfl, upd_same, .cons (.ty _) (.cons (.ty _) .nil), tb.same s1, kTs, true, rfl, ?_⟩
    refine ⟨_, rfl, _, _, _, _, _, rfl, .ty "tuple", ta.same s1, kTT, _, rfl, _, _, _, _, _, rfl, .ty "tuple", tb.same s1, kTT, rfl, false, rfl, ?_⟩
    refine ⟨_, rfl, _, _, _, _, _, rfl, .ty "list", ta.same s1, kTL, _, rfl, _, _, _, _, _, rfl, .ty "list", tb.same s1, kTL, rfl, false, rfl, ?_⟩
    have ll := Paired.length hp
    refine ⟨_, rfl, _, _, rfl, .inr ⟨xs, seqT_same s1 sa, rfl⟩, _, rfl, _, _, rfl, .inr ⟨ys, seqT_same s1 sb, rfl⟩, rfl, ?_⟩
    rw [ll, decide_eq_true rfl]
    refine ⟨true, rfl, iteT ?_⟩
    refine ⟨_, rfl, _, rfl, a, b, xs, ys, rfl, .inr ⟨seqT_same s1 sa, seqT_same s1 sb, fun D nD => ?_⟩⟩
    have s2 := s1.trans (same_new nD (.lst []))
    have nH : H D = none := by
      cases e : H D with
      | none => rfl
      | some o => rw [s1 _ _ e] at nD; cases nD
    refine lc_it (walk_zipT ll) (fun i H' => Same H H' ∧ H' D = some (.lst ((List.replicate i true).map V.bl))) ⟨s2, upd_same⟩ (fun i H' _ p => ⟨seqT_same p.1 sa, seqT_same p.1 sb⟩) (fun i x H1 H2 hi p y => ?_) fun H' p => ?_
    · obtain ⟨t, y1, y2, rfl, nt, rfl, e1, e2⟩ := y
      have s3 := p.1.trans (same_new nt (.tup [y1, y2]))
      have td : t ≠ D := fun z => by
        rw [z, p.2] at nt
        cases nt
      refine ⟨t, [y1, y2], rfl, .inl (.inl upd_same), rfl, y1, [y2], rfl, y2, [], rfl, rfl, rfl, ?_⟩
      refine ⟨_, rfl, _, rfl, y1, y2, rfl, tw_same s3 (paired_at hp e1 e2), fun H4 s4 => ⟨_, s4 D _ (by rw [upd_ne (Ne.symm td)]; exact p.2), small10k (by rw [List.length_map, List.length_replicate]; omega), same_at (s3.trans s4) nH, ?_⟩⟩
      rw [upd_same, List.replicate_succ', List.map_append]
      rfl
    · refine ⟨D, List.replicate xs.length true, rfl, SqL.of p.2, ?_⟩
      rw [all_tt]
      exact q H' p.1
  · have ta := tyL sa
    have tb := tyL sb
    refine ⟨_, tp, [.ty "tuple", .ty "list"], .type "list", [.type "tuple", .type "list"], true, rfl, upd_same, .cons (.ty _) (.cons (.ty _) .nil), tb.same s1, kLs, true, rfl, ?_⟩
    refine ⟨_, rfl, _, _, _, _, _, rfl, .ty "tuple", ta.same s1, kLT, _, rfl, _, _, _, _, _, rfl, .ty "tuple", tb.same s1, kLT, rfl, false, rfl, ?_⟩
    refine ⟨_, rfl, _, _, _, _, _, rfl, .ty "list", ta.same s1, kLL, _, rfl, _, _, _, _, _, rfl, .ty "list", tb.same s1, kLL, rfl, false, rfl, ?_⟩
    have ll := Paired.length hp
    refine ⟨_, rfl, _, _, rfl, .inl ⟨xs, s1.seq sa, rfl⟩, _, rfl, _, _, rfl, .inl ⟨ys, s1.seq sb, rfl⟩, rfl, ?_⟩
    rw [ll, decide_eq_true rfl]
    refine ⟨true, rfl, iteT ?_⟩
    refine ⟨_, rfl, _, rfl, a, b, xs, ys, rfl, .inl ⟨s1.seq sa, s1.seq sb, fun D nD => ?_⟩⟩
    have s2 := s1.trans (same_new nD (.lst []))
    have nH : H D = none := by
      cases e : H D with
      | none => rfl
      | some o => rw [s1 _ _ e] at nD; cases nD
    refine lc_it (walk_zip (by rw [← ll, Nat.min_self])) (fun i H' => Same H H' ∧ H' D = some (.lst ((List.replicate i true).map V.bl))) ⟨s2, upd_same⟩ (fun i H' _ p => ⟨p.1.seq sa, p.1.seq sb⟩) (fun i x H1 H2 hi p y => ?_) fun H' p => ?_
    · obtain ⟨t, y1, y2, rfl, nt, rfl, e1, e2⟩ := y
      have s3 := p.1.trans (same_new nt (.tup [y1, y2]))
      have td : t ≠ D := fun z => by
        rw [z, p.2] at nt
        cases nt
      refine ⟨t, [y1, y2], rfl, .inl (.inl upd_same), rfl, y1, [y2], rfl, y2, [], rfl, rfl, rfl, ?_⟩
      refine ⟨_, rfl, _, rfl, y1, y2, rfl, tw_same s3 (paired_at hp e1 e2), fun H4 s4 => ⟨_, s4 D _ (by rw [upd_ne (Ne.symm td)]; exact p.2), small10k (by rw [List.length_map, List.length_replicate]; omega), same_at (s3.trans s4) nH, ?_⟩⟩
      rw [upd_same, List.replicate_succ', List.map_append]
      rfl
    · refine ⟨D, List.replicate xs.length true, rfl, SqL.of p.2, ?_⟩
      rw [all_tt]
      exact q H' p.1
end
end My

set_option Elab.async false
set_option linter.all false
set_option maxRecDepth 100000
namespace My
open PySem L2
/-! ### own errors with one field -/
def meth (i j : Nat) : Stmt := (C8.clsBody (top i)).getD j (.Pass ⟨0, 0, 0, 0⟩)
def spInit (K : PySem.W.Frag) (C : Addr) (fld : Str) : Sp := fun vs H Q _ => ∃ (a : Addr) (v : V), vs = [.ref a, v] ∧ H a = some (exo a C none) ∧ OexC K C ∧ PySem.W.findIn K (.ref C) fld = some none ∧
  ∀ dx, H dx = none → dx ≠ a → Q .non (upd (upd H dx (exd dx [(fld, v)])) a (exo a C (some dx)))
structure OneE (P : Program) (w : World) (K : PySem.W.Frag) (mg : Str → Option Value) (base : Heap) (x fld : Str) (C : Addr) where
  oex : OexC K C
  xf : XfC K C
  no : PySem.W.findIn K (.ref C) fld = some none
  g : mg x = some (.ref C)
  fI : Addr
  fd : FuncData
  iC : PySem.W.findIn K (.ref C) "__init__" = some (some (.ref fI))
  tI : PySem.W.typeIn K (.ref fI) = some (.type "function")
  b : Binds K fd ["self", fld] []
  F : FnOk P w K mg base CX0 1 fI fd ["self", fld] (spInit K C fld)
section
variable {P : Program} {w : World} {K : PySem.W.Frag} {mg : Str → Option Value} {base : Heap} {f : Addr} {fd : FuncData}
theorem sc_i2 : FnScope ["self", "value"] ["self", "value"] (defScope (meth 3 0)) := ⟨rfl, rfl, rfl, by decide +kernel, rfl, by decide +kernel, by decide +kernel⟩
theorem ok_i2 (C : Addr) (F : Fun K "__init__" "BadValue.__init__" (meth 3 0) f fd) : FnOk P w K mg base CX0 1 f fd ["self", "value"] (spInit K C "value") := by
  refine F.ok sc_i2 (fun vs H Q E h => ?_) (fun cdv A outer s H vs Q E hr h => ?_)
  · obtain ⟨a, v, rfl, _⟩ := h
    rfl
  obtain ⟨a, v, rfl, ea, T, no, q⟩ := h
  refine ⟨_, pss_one (ps_ost (pv 0) (pv 1)), ?_⟩
  exact ⟨v, rfl, _, rfl, a, C, rfl, T, no, .inl ⟨ea, fun dx n ne => q dx n ne⟩⟩
end
section
variable {X : Cx} {x fld : Str} {C : Addr}
theorem exo_exd_ne {e C' : Addr} {d : Option Addr} : True := trivial
/-- C(v): the error's dict d is new, all else is as it was -/
theorem mk_one {K : PySem.W.Frag} {H1 : Hp} {v : V} {Q : XK} (T : OexC K C) (no : PySem.W.findIn K (.ref C) fld = some none) (q : ∀ d, H1 d = none → Q (.ref C) (some d) (upd H1 d (.xd [(fld, v)]))) :
    [v].length ≤ 1000 ∧ ∀ a, H1 a = none → spInit K C fld (.ref a :: ([v] ++ [])) (upd H1 a (exo a C none))
      (fun r H2 => r = .non ∧ ∃ (d : Addr) (fs : List (Str × V)), H2 a = some (exo a C (some d)) ∧ H2 d = some (exd d fs) ∧ H1 d = none ∧ Q (.ref C) (some d) (upd (L2.del H2 a) d (.xd fs))) (fun _ _ _ => False) := by
  refine ⟨by show 1 ≤ 1000; decide, fun a na => ⟨a, v, rfl, upd_same, T, no, fun dx nx ne => ⟨rfl, dx, [(fld, v)], upd_same, by rw [upd_ne ne, upd_same], by rw [upd_ne ne] at nx; exact nx, ?_⟩⟩⟩
  have n1 : H1 dx = none := by
    rw [upd_ne ne] at nx
    exact nx
  have e : upd (L2.del (upd (upd (upd H1 a (exo a C none)) dx (exd dx [(fld, v)])) a (exo a C (some dx))) a) dx (.xd [(fld, v)]) = upd H1 dx (.xd [(fld, v)]) := by
    funext b
    by_cases h1 : b = dx
    · rw [h1, upd_same, upd_same]
    · rw [upd_ne h1, upd_ne h1]
      by_cases h2 : b = a
      · rw [h2, L2.del_same, na]
      · rw [L2.del_ne h2, upd_ne h2, upd_ne h1, upd_ne h2]
  rw [e]
  exact q dx n1
theorem pass00 {X : Cx} : Passes CX0 X (fun _ _ _ => False) := fun _ _ _ _ _ _ _ h => h.elim
/-- raise x(e) -/
theorem ps_raise1 {W : WX} {e : Expr} {te : TE} {p pos pos2 : Pos} {k : Nat} (O : OneE X.prog X.w X.K X.mg X.base x fld C) (hc : X.calm = true) (hr : Room (k + 2) X.A) (tk : Takes X W) (he : PE X e te) (hg : Gl X x := by rfl)
    (hdb : (x == ("__debug__" : Str)) = false := by decide) (h1 : starEach (e :: []) X.env = (false, eval e X.env) :: starEach [] X.env := by rfl) (h2 : (backTo pos (starEach [] X.env)).any (·.1) = false := by rfl) :
    PS X (.Raise (some (.Call (.Name x p) [e] [] pos)) none pos2) (fun _ σ H => tMkO C (spInit X.K C fld) [] (tCons te tNil) σ H fun cls d H' => W cls d σ H') :=
  ps_raise hc tk (pmk_oex O.oex O.iC O.tI O.F (hr.mono (by omega)) O.b .nil pass00 hg O.g (pa_cons he pa_nil h1) hdb h1 h2)
end

/-! ### what is raised, told -/
structure ErrT (K : PySem.W.Frag) (mg : Str → Option Value) where
  B : Addr
  N : Addr
  D : Addr
  M : Addr
  gB : mg "BadValue" = some (.ref B)
  gN : mg "NotAText" = some (.ref N)
  gD : mg "TooDeep" = some (.ref D)
  gM : mg "TooMany" = some (.ref M)
  xB : XfC K B
  xN : XfC K N
  xD : XfC K D
  xM : XfC K M
  nB : PySem.W.findIn K (.ref B) "value" = some none
  nN : PySem.W.findIn K (.ref N) "at" = some none
  nD : PySem.W.findIn K (.ref D) "most" = some none
  nM : PySem.W.findIn K (.ref M) "most" = some none
  BB : PySem.W.exmOne K (.ref B) (.ref B) = some true
  NB : PySem.W.exmOne K (.ref N) (.ref B) = some false
  NN : PySem.W.exmOne K (.ref N) (.ref N) = some true
  DB : PySem.W.exmOne K (.ref D) (.ref B) = some false
  DN : PySem.W.exmOne K (.ref D) (.ref N) = some false
  DD : PySem.W.exmOne K (.ref D) (.ref D) = some true
  MB : PySem.W.exmOne K (.ref M) (.ref B) = some false
  MN : PySem.W.exmOne K (.ref M) (.ref N) = some false
  MD : PySem.W.exmOne K (.ref M) (.ref D) = some false
  MM : PySem.W.exmOne K (.ref M) (.ref M) = some true
/-- of which class, in which field, told with which word -/
def ErrW {K : PySem.W.Frag} {mg : Str → Option Value} (T : ErrT K mg) (C : Addr) (fld word : Str) : Prop :=
  (C = T.B ∧ fld = "value" ∧ word = "value") ∨ (C = T.N ∧ fld = "at" ∧ word = "text") ∨ (C = T.D ∧ fld = "most" ∧ word = "deep") ∨ (C = T.M ∧ fld = "most" ∧ word = "many")
/-- as Does, whatever is wished beyond -/
def DoesM (P : Program) (w : World) (K : PySem.W.Frag) (mg : Str → Option Value) (base : Heap) (k : Nat) (v : V) (H : Hp) (Q : VK) (E : XK) : Prop :=
  ∃ (f : Addr) (fo : Obj) (tl : Hp → VK → XK → Prop), v = .ref f ∧ Clo.FnObj fo ∧ H f = some (Clo.Pin f fo) ∧ Clo.Act P w K mg base k f tl ∧
    ∀ (Q' : VK) (E' : XK), (∀ v H', Q v H' → Q' v H') → (∀ c d H', E c d H' → E' c d H') → tl H Q' E'
theorem DoesM.does {P : Program} {w : World} {K : PySem.W.Frag} {mg : Str → Option Value} {base : Heap} {j k : Nat} {v : V} {H : Hp} {Q Q' : VK} {E E' : XK} (d : DoesM P w K mg base j v H Q E) (le : j ≤ k) (h1 : ∀ v H', Q v H' → Q' v H') (h2 : ∀ c d H', E c d H' → E' c d H') :
    Clo.Does P w K mg base k v H Q' E' := by
  obtain ⟨f, fo, tl, e, n, p, a, t⟩ := d
  exact ⟨f, fo, tl, e, n, p, a.mono le, t Q' E' h1 h2⟩
def wishE {K : PySem.W.Frag} {mg : Str → Option Value} (T : ErrT K mg) (Q : VK) : XK := fun cls d H' => ∃ (C dd : Addr) (fld word : Str) (x : V), cls = .ref C ∧ d = some dd ∧ ErrW T C fld word ∧ H' dd = some (.xd [(fld, x)]) ∧ ∀ p, H' p = none → Q (.ref p) (upd H' p (.tup [.str word, x]))
theorem lookup1 (f : Str) (v : V) : List.lookup f [(f, v)] = some v := by simp [List.lookup]
def spFault (P : Program) (w : World) (K : PySem.W.Frag) (mg : Str → Option Value) (base : Heap) (T : ErrT K mg) (k : Nat) : Sp := fun vs H Q _ => ∃ v, vs = [v] ∧ DoesM P w K mg base k v H (fun _ H' => Q .non H') (wishE T Q)
abbrev s_law_fault : Stmt := top 37
abbrev N_law_fault : List Str := ["_law_deed", "_law_told", "e"]
abbrev P_law_fault : List Str := ["_law_deed"]
theorem sc_law_fault : FnScope N_law_fault P_law_fault (defScope s_law_fault) := ⟨rfl, rfl, rfl, by decide +kernel, rfl, by decide +kernel, by decide +kernel⟩
section
variable {P : Program} {w : World} {K : PySem.W.Frag} {mg : Str → Option Value} {base : Heap} {f : Addr} {fd : FuncData}
theorem ok_law_fault {k : Nat} (T : ErrT K mg) (F : Fun K "_law_fault" "_law_fault" s_law_fault f fd) : FnOk P w K mg base CX0 (k + 1) f fd P_law_fault (spFault P w K mg base T k) := by
  refine F.ok sc_law_fault (fun vs H Q E h => ?_) (fun cdv A outer s H vs Q E hr h => ?_)
  · obtain ⟨v, rfl, _⟩ := h
    rfl
  obtain ⟨v, rfl, h⟩ := h
  refine ⟨_, (pss_cons (ps_set (i := 1) sc_law_fault.nd rfl (Or.inl rfl) pe_non)
  (pss_cons (Clo.ps_try_nam (i := 2) (tb := fun W => tDrop (Clo.tAct P w K mg base 0 k (WE W))) rfl rfl sc_law_fault.nd rfl rfl takes0 (fun W pn xe tk _ => pss_one (ps_expr (Clo.pe_act3 (i := 0) (E := WE W) hr (fun σ => passAt tk σ) rfl (Or.inl rfl))))
    (.cons ⟨rfl, by decide, .inl T.gB⟩ (fun a oe cls d pn hz hf => pss_one (ps_set (i := 1) sc_law_fault.nd rfl (Or.inl rfl) (pe_tup (pa_cons pe_str (pa_cons (pe_xf T.xB T.nB hz hf (pv 2)) pa_nil)))))
    (.cons ⟨rfl, by decide, .inl T.gN⟩ (fun a oe cls d pn hz hf => pss_one (ps_set (i := 1) sc_law_fault.nd rfl (Or.inl rfl) (pe_tup (pa_cons pe_str (pa_cons (pe_xf T.xN T.nN hz hf (pv 2)) pa_nil)))))
    (.cons ⟨rfl, by decide, .inl T.gD⟩ (fun a oe cls d pn hz hf => pss_one (ps_set (i := 1) sc_law_fault.nd rfl (Or.inl rfl) (pe_tup (pa_cons pe_str (pa_cons (pe_xf T.xD T.nD hz hf (pv 2)) pa_nil)))))
    (.cons ⟨rfl, by decide, .inl T.gM⟩ (fun a oe cls d pn hz hf => pss_one (ps_set (i := 1) sc_law_fault.nd rfl (Or.inl rfl) (pe_tup (pa_cons pe_str (pa_cons (pe_xf T.xM T.nM hz hf (pv 2)) pa_nil)))))
    .nil)))))
  (pss_one (ps_ret (pv 1))))), ?_⟩
  refine ⟨v, rfl, h.does (Nat.le_refl k) (fun r H' q => ⟨_, rfl, q⟩) fun cls d H' ⟨C, dd, fld, word, x, e1, e2, ew, ed, q⟩ => ?_⟩
  subst e1
  subst e2
  have l2 : 2 ≤ sizeLine := by decide
  rcases ew with ⟨rfl, rfl, rfl⟩ | ⟨rfl, rfl, rfl⟩ | ⟨rfl, rfl, rfl⟩ | ⟨rfl, rfl, rfl⟩
  · exact ⟨true, T.BB, fun _ a ha => ⟨.ref a, rfl, rfl, rfl, dd, _, x, rfl, ed, lookup1 _ _, l2, fun p hp => ⟨_, rfl, q p hp⟩⟩, fun z => nomatch z⟩
  · exact ⟨false, T.NB, (fun z => nomatch z), fun _ => ⟨true, T.NN, fun _ a ha => ⟨.ref a, rfl, rfl, rfl, dd, _, x, rfl, ed, lookup1 _ _, l2, fun p hp => ⟨_, rfl, q p hp⟩⟩, fun z => nomatch z⟩⟩
  · exact ⟨false, T.DB, (fun z => nomatch z), fun _ => ⟨false, T.DN, (fun z => nomatch z), fun _ => ⟨true, T.DD, fun _ a ha => ⟨.ref a, rfl, rfl, rfl, dd, _, x, rfl, ed, lookup1 _ _, l2, fun p hp => ⟨_, rfl, q p hp⟩⟩, fun z => nomatch z⟩⟩⟩
  · exact ⟨false, T.MB, (fun z => nomatch z), fun _ => ⟨false, T.MN, (fun z => nomatch z), fun _ => ⟨false, T.MD, (fun z => nomatch z), fun _ => ⟨true, T.MM, fun _ a ha => ⟨.ref a, rfl, rfl, rfl, dd, _, x, rfl, ed, lookup1 _ _, l2, fun p hp => ⟨_, rfl, q p hp⟩⟩, fun z => nomatch z⟩⟩⟩⟩
end

theorem DoesM.imp {P : Program} {w : World} {K : PySem.W.Frag} {mg : Str → Option Value} {base : Heap} {k : Nat} {v : V} {H : Hp} {Q Q' : VK} {E E' : XK} (d : DoesM P w K mg base k v H Q E) (h1 : ∀ v H', Q v H' → Q' v H') (h2 : ∀ c d H', E c d H' → E' c d H') :
    DoesM P w K mg base k v H Q' E' := by
  obtain ⟨f, fo, tl, e, n, p, a, t⟩ := d
  exact ⟨f, fo, tl, e, n, p, a, fun Q2 E2 i1 i2 => t Q2 E2 (fun v H' q => i1 v H' (h1 v H' q)) fun c d H' q => i2 c d H' (h2 c d H' q)⟩
/-- raises just what is due -/
def dueE {K : PySem.W.Frag} {mg : Str → Option Value} (T : ErrT K mg) (n : Nat) (u : V) (Q : VK) : XK := fun cls d H' => ∃ (C dd : Addr) (fld word : Str) (x : V), cls = .ref C ∧ d = some dd ∧ ErrW T C fld word ∧ H' dd = some (.xd [(fld, x)]) ∧
  ∀ p, H' p = none → Tw K (upd H' p (.tup [.str word, x])) n (.ref p) u ∧ ∀ H2, Same (upd H' p (.tup [.str word, x])) H2 → Q (.bl true) H2
def spFaults (P : Program) (w : World) (K : PySem.W.Frag) (mg : Str → Option Value) (base : Heap) (T : ErrT K mg) (k n : Nat) : Sp := fun vs H Q _ => ∃ v u, vs = [v, u] ∧ DoesM P w K mg base k v H (fun _ _ => False) (dueE T n u Q)
abbrev s_law_faults : Stmt := top 38
abbrev N_law_faults : List Str := ["_law_deed", "_law_due", "_law_told"]
abbrev P_law_faults : List Str := ["_law_deed", "_law_due"]
theorem sc_law_faults : FnScope N_law_faults P_law_faults (defScope s_law_faults) := ⟨rfl, rfl, rfl, by decide +kernel, rfl, by decide +kernel, by decide +kernel⟩
section
variable {P : Program} {w : World} {K : PySem.W.Frag} {mg : Str → Option Value} {base : Heap} {f : Addr} {fd : FuncData}
theorem ok_law_faults {k n : Nat} (T : ErrT K mg) (F : Fun K "_law_faults" "_law_faults" s_law_faults f fd) (C_law_fault : Cal P w K mg base "_law_fault" (k + 1) P_law_fault (spFault P w K mg base T k)) (C_law_same : Cal P w K mg base "_law_same" (1 + n) P_law_same (spSame K n)) :
    FnOk P w K mg base CX0 (k + n + 2) f fd P_law_faults (spFaults P w K mg base T k n) := by
  refine F.ok sc_law_faults (fun vs H Q E h => ?_) (fun cdv A outer s H vs Q E hr h => ?_)
  · obtain ⟨v, u, rfl, _⟩ := h
    rfl
  obtain ⟨v, u, rfl, h⟩ := h
  refine ⟨_, (pss_cons (ps_set (i := 2) sc_law_faults.nd rfl (Or.inl rfl) (pe_callC C_law_fault hr (pa_cons (pv 0) pa_nil)))
  (pss_one (ps_ret (pe_and (pe_cmpR op_notN (pv 2) pe_non (nomark _)) (pe_one (pe_callC C_law_same hr (pa_cons (pv 2) (pa_cons (pv 1) pa_nil)))))))), ?_⟩
  refine ⟨_, rfl, v, rfl, h.imp (fun _ _ z => z.elim) fun cls d H' ⟨C, dd, fld, word, x, e1, e2, ew, ed, q⟩ => ⟨C, dd, fld, word, x, e1, e2, ew, ed, fun p hp => ?_⟩⟩
  obtain ⟨tw, q⟩ := q p hp
  exact ⟨_, rfl, rfl, true, rfl, _, rfl, _, rfl, _, _, rfl, tw, q⟩
end
end My

set_option Elab.async false
set_option linter.all false
set_option maxRecDepth 100000
namespace My
open PySem L2
/-! ### a text that is read -/
abbrev sRd0 : Stmt := inClass (top 26) 0
abbrev NRd0 : List Str := ["self", "text"]
theorem scRd0 : FnScope NRd0 NRd0 (defScope sRd0) := ⟨rfl, rfl, rfl, by decide +kernel, rfl, by decide +kernel, by decide +kernel⟩
abbrev sRd1 : Stmt := inClass (top 26) 1
abbrev NRd1 : List Str := ["self", "signs"]
theorem scRd1 : FnScope NRd1 NRd1 (defScope sRd1) := ⟨rfl, rfl, rfl, by decide +kernel, rfl, by decide +kernel, by decide +kernel⟩
abbrev sRd2 : Stmt := inClass (top 26) 2
abbrev NRd2 : List Str := ["self"]
theorem scRd2 : FnScope NRd2 NRd2 (defScope sRd2) := ⟨rfl, rfl, rfl, by decide +kernel, rfl, by decide +kernel, by decide +kernel⟩
abbrev sRd3 : Stmt := inClass (top 26) 3
theorem scRd3 : FnScope NRd2 NRd2 (defScope sRd3) := ⟨rfl, rfl, rfl, by decide +kernel, rfl, by decide +kernel, by decide +kernel⟩
abbrev sRd4 : Stmt := inClass (top 26) 4
theorem scRd4 : FnScope NRd1 NRd1 (defScope sRd4) := ⟨rfl, rfl, rfl, by decide +kernel, rfl, by decide +kernel, by decide +kernel⟩
abbrev sRd5 : Stmt := inClass (top 26) 5
theorem scRd5 : FnScope NRd2 NRd2 (defScope sRd5) := ⟨rfl, rfl, rfl, by decide +kernel, rfl, by decide +kernel, by decide +kernel⟩
abbrev sRd9 : Stmt := inClass (top 26) 9
abbrev NRd9 : List Str := ["self", "start"]
theorem scRd9 : FnScope NRd9 NRd2 (defScope sRd9) := ⟨rfl, rfl, rfl, by decide +kernel, rfl, by decide +kernel, by decide +kernel⟩
/-- a statement that is not reached -/
theorem ps_no {X : Cx} {st : Stmt} : PS X st (fun _ _ _ => False) := ⟨fun _ _ _ _ _ _ h => h.elim⟩
/-- a text of these signs -/
abbrev Z (l : List Nat) : Str := ⟨l.toArray⟩
theorem Z_len (l : List Nat) : (Z l).length = l.length := by simp [Z, Str.length]
/-- the fields of a reader -/
def rF (z i : V) : List (Str × V) := [("text", z), ("at", i)]
/-- the object of a reader: what is read, and what is left -/
def rO (CR dx : Addr) (pre suf : List Nat) : HO := .ins CR dx (rF (.str (Z (pre ++ suf))) (.int pre.length))
theorem nAT : ¬ (("text" : Str) = "at") := by decide +kernel
theorem nTA : (("at" : Str) == "text") = false := by decide +kernel
theorem rF_at (a b : V) : (rF a b).lookup ("at" : Str) = some b := by
  unfold rF
  simp only [List.lookup, nTA, beq_self_eq_true]
theorem rF_text (a b : V) : (rF a b).lookup ("text" : Str) = some a := by
  unfold rF
  simp only [List.lookup, beq_self_eq_true]
theorem putF_new (a b : V) : putF "at" b (putF "text" a []) = rF a b := by
  show (if ("text" : Str) = "at" then _ else _ : List (Str × V)) = _
  rw [if_neg nAT]
  rfl
theorem putF_at (a b c : V) : putF "at" c (rF a b) = rF a c := by
  show (if ("text" : Str) = "at" then _ else _ : List (Str × V)) = _
  rw [if_neg nAT]
  show _ :: (if ("at" : Str) = "at" then _ else _ : List (Str × V)) = _
  rw [if_pos rfl]
  rfl
theorem rF_no {a b : V} {m : Str} (h1 : (m == "text") = false := by decide +kernel) (h2 : (m == "at") = false := by decide +kernel) : (rF a b).lookup m = none := by
  unfold rF
  simp only [List.lookup, h1, h2]
theorem rO_move (CR dx : Addr) (pre m suf : List Nat) : HO.ins CR dx (rF (.str (Z (pre ++ (m ++ suf)))) (.int (pre.length + m.length : Nat))) = rO CR dx (pre ++ m) suf := by
  unfold rO
  rw [List.append_assoc, List.length_append]
structure RdTxt (K : PySem.W.Frag) (CR : Addr) : Prop where
  cl : Cls K CR
  nAt : NoAttr K CR "at"
  nText : NoAttr K CR "text"
theorem cutS_mid (pre n suf : List Nat) : cutS (Z (pre ++ n ++ suf)) (some ((pre.length : Nat) : Int)) (some (((pre ++ n).length : Nat) : Int)) = Z n := by
  unfold cutS
  rw [HT.sIx_nat, HT.sIx_nat, Z_len]
  have h1 : min pre.length (pre ++ n ++ suf).length = pre.length := by simp only [List.length_append]; omega
  have h2 : min (pre ++ n).length (pre ++ n ++ suf).length - pre.length = n.length := by simp only [List.length_append]; omega
  rw [h1, h2]
  show Z (((pre ++ n ++ suf).drop pre.length).take n.length) = Z n
  rw [List.append_assoc, List.drop_left, List.take_left]
/-- a method's promise -/
structure Mth (P : Program) (w : World) (K : PySem.W.Frag) (mg : Str → Option Value) (base : Heap) (C : Addr) (m : Str) (k : Nat) (ps : List Str) (sp : Sp) where
  f : Addr
  fd : FuncData
  me : Meth K C m f
  ok : FnOk P w K mg base CX0 k f fd ps sp
  b : Binds K fd ps []
section
variable {X : Cx} {k j : Nat} {ps : List Str} {sp : Sp} {C : Addr} {m : Str} {E : XK} {o e : Expr} {es : List Expr} {ta : TE} {t : TA} {pos apos : Pos} {pl : Sem Bool}
theorem pe_methM (M : Mth X.prog X.w X.K X.mg X.base C m k ps sp) (he : PE X o ta) (c : Cls X.K C) (hr : Room j X.A) (ha : PA X (e :: es) t) (hk : k ≤ j := by omega)
    (hst : starEach (e :: es) X.env = (false, eval e X.env) :: starEach es X.env := by rfl) (hpl : (backTo pos (starEach es X.env)).any (·.1) = false := by rfl)
    (ht : eval (.Call (.Attribute o m apos) (e :: es) [] pos) X.env = (do
      let ov ← eval o X.env
      standAt apos.atName
      let (f, first) ← holding [ov] (getMethod ov m pl)
      callWith pos f first (backTo pos (starEach (e :: es) X.env)) (backToKw pos (keywordEach [] X.env))) := by rfl) :
    PE X (.Call (.Attribute o m apos) (e :: es) [] pos) (tMeth C m sp [] E0 ta t) := pe_meth (pl := pl) he c M.me M.ok (hr.mono hk) M.b .nil pass0 ha hst hpl ht
theorem pe_methM0 (M : Mth X.prog X.w X.K X.mg X.base C m k ps sp) (he : PE X o ta) (c : Cls X.K C) (hr : Room j X.A) (hk : k ≤ j := by omega)
    (ht : eval (.Call (.Attribute o m apos) [] [] pos) X.env = (do
      let ov ← eval o X.env
      standAt apos.atName
      let (f, first) ← holding [ov] (getMethod ov m pl)
      callWith pos f first (backTo pos (starEach [] X.env)) (backToKw pos (keywordEach [] X.env))) := by rfl) :
    PE X (.Call (.Attribute o m apos) [] [] pos) (tMeth C m sp [] E0 ta tNil) := pe_meth0 (pl := pl) he c M.me M.ok (hr.mono hk) M.b .nil pass0 ht
end
/-- nothing but what stands at p has changed -/
def Mv (p : Addr) (H H' : Hp) : Prop := ∀ b, b ≠ p → H' b = H b
theorem Mv.refl (p : Addr) (H : Hp) : Mv p H H := fun _ _ => rfl
theorem Mv.upd {p : Addr} {H H' : Hp} {o : HO} (h : Mv p H H') : Mv p H (upd H' p o) := fun b n => by rw [upd_ne n]; exact h b n
theorem Mv.trans {p : Addr} {H H1 H2 : Hp} (h : Mv p H H1) (g : Mv p H1 H2) : Mv p H H2 := fun b n => (g b n).trans (h b n)
def oneOf (g : Str) (c : Nat) : Bool := decide (c ∈ g.cps.toList)
def seesB (suf : List Nat) (g : Str) : Bool := suf.head?.any (oneOf g)
def zSpace : Str := Str.ofString " "
def spRd0 (CR : Addr) : Sp := fun vs H Q _ => ∃ (p dx : Addr) (cs : List Nat), vs = [.ref p, .str (Z cs)] ∧ H p = some (.ins CR dx []) ∧ ∀ H', Mv p H H' → H' p = some (rO CR dx [] cs) → Q .non H'
def spSees (CR : Addr) : Sp := fun vs H Q _ => ∃ (p dx : Addr) (pre suf : List Nat) (g : Str), vs = [.ref p, .str g] ∧ H p = some (rO CR dx pre suf) ∧ pre.length + suf.length ≤ sizeLine ∧ Q (.bl (seesB suf g)) H
def spDone (CR : Addr) : Sp := fun vs H Q _ => ∃ (p dx : Addr) (pre suf : List Nat), vs = [.ref p] ∧ H p = some (rO CR dx pre suf) ∧ pre.length + suf.length ≤ sizeLine ∧ Q (.bl (decide (suf = []))) H
def spFinish (CR : Addr) : Sp := fun vs H Q _ => ∃ (p dx : Addr) (pre : List Nat), vs = [.ref p] ∧ H p = some (rO CR dx pre []) ∧ pre.length ≤ sizeLine ∧ Q .non H
def spTake (CR : Addr) : Sp := fun vs H Q _ => ∃ (p dx : Addr) (pre suf : List Nat) (c : Nat) (g : Str), vs = [.ref p, .str g] ∧ H p = some (rO CR dx pre (c :: suf)) ∧ oneOf g c = true ∧ pre.length + suf.length + 1 ≤ sizeLine ∧
  ∀ H', Mv p H H' → H' p = some (rO CR dx (pre ++ [c]) suf) → Q (.str ⟨#[c]⟩) H'
def spSkip (CR : Addr) : Sp := fun vs H Q _ => ∃ (p dx : Addr) (pre suf : List Nat) (k : Nat), vs = [.ref p] ∧ H p = some (rO CR dx pre (List.replicate k 32 ++ suf)) ∧ seesB suf zSpace = false ∧ pre.length + k + suf.length ≤ sizeLine ∧
  ∀ H', Mv p H H' → H' p = some (rO CR dx (pre ++ List.replicate k 32) suf) → Q .non H'
def spTakeName (CR : Addr) : Sp := fun vs H Q _ => ∃ (p dx : Addr) (pre n suf : List Nat), vs = [.ref p] ∧ H p = some (rO CR dx pre (n ++ suf)) ∧ isName (Z n) = true ∧ suf.head?.any isLD = false ∧ pre.length + n.length + suf.length ≤ sizeLine ∧
  ∀ H', Mv p H H' → H' p = some (rO CR dx (pre ++ n) suf) → Q (.str (Z n)) H'
section
variable {P : Program} {w : World} {K : PySem.W.Frag} {mg : Str → Option Value} {base : Heap} {f : Addr} {fd : FuncData} {CR : Addr}
theorem okRd0 (T : RdTxt K CR) (F : Fun K "__init__" "Reader.__init__" sRd0 f fd) : FnOk P w K mg base CX0 1 f fd NRd0 (spRd0 CR) := by
  refine F.ok scRd0 (fun vs H Q E h => ?_) (fun cdv A outer s H vs Q E hr h => ?_)
  · obtain ⟨p, dx, cs, rfl, _⟩ := h
    rfl
  obtain ⟨p, dx, cs, rfl, hp, q⟩ := h
  refine ⟨_, pss_cons (ps_fld (pv 0) (pv 1) rfl) (pss_one (ps_fld (pv 0) pe_int rfl)), ?_⟩
  refine ⟨_, rfl, _, rfl, p, CR, dx, _, rfl, hp, T.cl, T.nText, (by show 0 < 1000; decide), ?_⟩
  refine ⟨_, rfl, p, CR, dx, _, rfl, upd_same, T.cl, T.nAt, (by show 1 < 1000; decide), ?_⟩
  refine q _ (Mv.upd (Mv.upd (Mv.refl _ _))) ?_
  rw [upd_same, putF_new]
  rfl
theorem okRd1 (T : Txt K mg) (R : RdTxt K CR) (F : Fun K "sees" "Reader.sees" sRd1 f fd) : FnOk P w K mg base CX0 1 f fd NRd1 (spSees CR) := by
  refine F.ok scRd1 (fun vs H Q E h => ?_) (fun cdv A outer s H vs Q E hr h => ?_)
  · obtain ⟨p, dx, pre, suf, g, rfl, _⟩ := h
    rfl
  obtain ⟨p, dx, pre, suf, g, rfl, hp, hl, q⟩ := h
  refine ⟨_, pss_one (ps_ret (pe_and (pe_cmpR op_lt (pe_fld (pv 0) rfl) (pe_callB call_len rfl T.len (by decide +kernel) (pa_cons (pe_fld (pv 0) rfl) pa_nil)) (nomark _)) (pe_one (pe_cmpR op_in_sign (pe_ix ix_str (pe_fld (pv 0) rfl) (pe_fld (pv 0) rfl) (fun _ _ => rfl)) (pv 1) rfl)))), ?_⟩
  have hz : (Z (pre ++ suf)).length = pre.length + suf.length := by rw [Z_len, List.length_append]
  refine ⟨_, rfl, _, CR, _, _, _, rfl, hp, R.cl, R.nAt, rF_at _ _, _, rfl, _, CR, _, _, _, rfl, hp, R.cl, R.nText, rF_text _ _, _, _, rfl, ⟨by rw [hz]; exact hl, rfl⟩, _, _, rfl, rfl, _, rfl, ?_⟩
  rw [hz]
  cases suf with
  | nil =>
    rw [show decide ((pre.length : Int) < ((pre.length + ([] : List Nat).length : Nat) : Int)) = false from decide_eq_false (by simp only [List.length_nil]; omega)]
    exact iteF q
  | cons c r =>
    rw [show decide ((pre.length : Int) < ((pre.length + (c :: r).length : Nat) : Int)) = true from decide_eq_true (by simp only [List.length_cons]; omega)]
    refine iteT ⟨_, rfl, _, CR, _, _, _, rfl, hp, R.cl, R.nText, rF_text _ _, _, rfl, _, CR, _, _, _, rfl, hp, R.cl, R.nAt, rF_at _ _, _, _, c, rfl, rfl, by rw [hz]; exact hl, atI_nat (j := pre.length) ?_, _, rfl, c, g, rfl, rfl, q⟩
    show (pre ++ c :: r)[pre.length]? = some c
    rw [List.getElem?_append_right (Nat.le_refl _), Nat.sub_self]
    rfl
theorem okRd2 (T : Txt K mg) (R : RdTxt K CR) (F : Fun K "is_done" "Reader.is_done" sRd2 f fd) : FnOk P w K mg base CX0 1 f fd NRd2 (spDone CR) := by
  refine F.ok scRd2 (fun vs H Q E h => ?_) (fun cdv A outer s H vs Q E hr h => ?_)
  · obtain ⟨p, dx, pre, suf, rfl, _⟩ := h
    rfl
  obtain ⟨p, dx, pre, suf, rfl, hp, hl, q⟩ := h
  refine ⟨_, pss_one (ps_ret (pe_cmpR op_eq (pe_fld (pv 0) rfl) (pe_callB call_len rfl T.len (by decide +kernel) (pa_cons (pe_fld (pv 0) rfl) pa_nil)) (nomark _))), ?_⟩
  have hz : (Z (pre ++ suf)).length = pre.length + suf.length := by rw [Z_len, List.length_append]
  refine ⟨_, rfl, _, CR, _, _, _, rfl, hp, R.cl, R.nAt, rF_at _ _, _, rfl, _, CR, _, _, _, rfl, hp, R.cl, R.nText, rF_text _ _, _, _, rfl, ⟨by rw [hz]; exact hl, rfl⟩, ?_⟩
  rw [hz]
  refine ⟨rfl, ?_⟩
  rw [dec_int, show ((pre.length : Int) == ((pre.length + suf.length : Nat) : Int)) = decide (suf = []) from ?_]
  · exact q
  cases suf with
  | nil => simp
  | cons c r =>
    rw [decide_eq_false (by simp), beq_eq_false_iff_ne]
    simp only [List.length_cons]
    omega
theorem okRd3 {R : RdTxt K CR} (M2 : Mth P w K mg base CR "is_done" 1 NRd2 (spDone CR)) (F : Fun K "finish" "Reader.finish" sRd3 f fd) : FnOk P w K mg base CX0 2 f fd NRd2 (spFinish CR) := by
  refine F.ok scRd3 (fun vs H Q E h => ?_) (fun cdv A outer s H vs Q E hr h => ?_)
  · obtain ⟨p, dx, pre, rfl, _⟩ := h
    rfl
  obtain ⟨p, dx, pre, rfl, hp, hl, q⟩ := h
  refine ⟨_, pss_one (ps_if (pt_not (pt_val (pe_methM0 M2 (pv 0) R.cl hr))) (pss_one ps_no) pss_nil), ?_⟩
  refine ⟨_, rfl, p, dx, _, rfl, hp, rF_no, p, dx, pre, [], rfl, hp, hl, ?_⟩
  exact ⟨_, rfl, q⟩
theorem okRd4 {R : RdTxt K CR} (M1 : Mth P w K mg base CR "sees" 1 NRd1 (spSees CR)) (F : Fun K "take" "Reader.take" sRd4 f fd) : FnOk P w K mg base CX0 2 f fd NRd1 (spTake CR) := by
  refine F.ok scRd4 (fun vs H Q E h => ?_) (fun cdv A outer s H vs Q E hr h => ?_)
  · obtain ⟨p, dx, pre, suf, c, g, rfl, _⟩ := h
    rfl
  obtain ⟨p, dx, pre, suf, c, g, rfl, hp, hc, hl, q⟩ := h
  refine ⟨_, pss_cons (ps_if (pt_not (pt_val (pe_methM M1 (pv 0) R.cl hr (pa_cons (pv 1) pa_nil)))) (pss_one ps_no) pss_nil)
    (pss_cons (ps_fldaug (pv 0) pe_int in_add) (pss_one (ps_ret (pe_ix ix_str (pe_fld (pv 0) rfl) (pe_op op_sub (pe_fld (pv 0) rfl) pe_int) (fun _ _ => rfl))))), ?_⟩
  refine ⟨_, rfl, p, dx, _, rfl, hp, rF_no, _, rfl, p, dx, pre, c :: suf, g, rfl, hp, by rw [List.length_cons]; omega, ?_⟩
  refine ⟨_, rfl, ?_⟩
  rw [show seesB (c :: suf) g = true from hc]
  refine iteF ?_
  have hz : (Z (pre ++ c :: suf)).length ≤ sizeLine := by
    rw [Z_len, List.length_append, List.length_cons]
    omega
  have e1 : HO.ins CR dx (putF "at" (.int ((pre.length : Int) + 1)) (rF (.str (Z (pre ++ c :: suf))) (.int pre.length))) = rO CR dx (pre ++ [c]) suf := by
    rw [putF_at]
    exact rO_move CR dx pre [c] suf
  refine ⟨_, rfl, _, CR, _, _, _, rfl, hp, R.cl, R.nAt, rF_at _ _, _, _, rfl, rfl, dx, _, hp, (by show 2 < 1000; decide), ?_⟩
  rw [e1]
  have hp2 : upd H p (rO CR dx (pre ++ [c]) suf) p = some (rO CR dx (pre ++ [c]) suf) := upd_same
  refine ⟨_, rfl, _, CR, _, _, _, rfl, hp2, R.cl, R.nText, rF_text _ _, _, rfl, _, CR, _, _, _, rfl, hp2, R.cl, R.nAt, rF_at _ _, _, _, rfl, rfl, _, _, c, rfl, rfl, ?_, ?_, q _ (Mv.upd (Mv.refl _ _)) hp2⟩
  · rw [Z_len]
    simp only [List.length_append, List.length_cons, List.length_nil]
    omega
  · rw [show (((pre ++ [c]).length : Nat) : Int) - 1 = (pre.length : Nat) by simp only [List.length_append, List.length_cons, List.length_nil]; omega]
    refine atI_nat (j := pre.length) ?_
    show (pre ++ [c] ++ suf)[pre.length]? = some c
    rw [List.append_assoc, List.getElem?_append_right (Nat.le_refl _), Nat.sub_self]
    rfl
theorem okRd5 {R : RdTxt K CR} (M1 : Mth P w K mg base CR "sees" 1 NRd1 (spSees CR)) (F : Fun K "skip_spaces" "Reader.skip_spaces" sRd5 f fd) : FnOk P w K mg base CX0 2 f fd NRd2 (spSkip CR) := by
  refine F.ok scRd5 (fun vs H Q E h => ?_) (fun cdv A outer s H vs Q E hr h => ?_)
  · obtain ⟨p, dx, pre, suf, k, rfl, _⟩ := h
    rfl
  obtain ⟨p, dx, pre, suf, k, rfl, hp, hs, hl, q⟩ := h
  refine ⟨_, pss_one (ps_while PassesOwn.never (pt_val (pe_methM M1 (pv 0) R.cl hr (pa_cons pe_str pa_nil))) (pss_one (ps_fldaug (pv 0) pe_int in_add))), ?_⟩
  refine ⟨fun m σ H' => σ = start NRd2 [.ref p] ∧ Mv p H H' ∧ ∃ j, j + m = k ∧ H' p = some (rO CR dx (pre ++ List.replicate j 32) (List.replicate m 32 ++ suf)), ⟨k, rfl, Mv.refl _ _, 0, by omega, by simpa using hp⟩, ?_⟩
  rintro m σ H' ⟨rfl, mv, j, e, h'⟩
  refine ⟨_, rfl, p, dx, _, rfl, h', rF_no, p, dx, _, _, zSpace, rfl, h', by simp only [List.length_append, List.length_replicate]; omega, ?_⟩
  refine ⟨_, rfl, ?_⟩
  cases m with
  | zero =>
    rw [show seesB (List.replicate 0 32 ++ suf) zSpace = false from hs]
    have ej : j = k := by omega
    subst ej
    exact iteF (q H' mv h')
  | succ m =>
    rw [show seesB (List.replicate (m + 1) 32 ++ suf) zSpace = true from (by show oneOf zSpace 32 = true; decide +kernel)]
    refine iteT ⟨fun σ H'' => σ = start NRd2 [.ref p] ∧ Mv p H H'' ∧ ∃ j, j + m = k ∧ H'' p = some (rO CR dx (pre ++ List.replicate j 32) (List.replicate m 32 ++ suf)), fun σ'' H'' h => ⟨m, Nat.lt_succ_self m, h⟩, ?_⟩
    refine ⟨_, rfl, _, CR, _, _, _, rfl, h', R.cl, R.nAt, rF_at _ _, _, _, rfl, rfl, dx, _, h', (by show 2 < 1000; decide), rfl, Mv.upd mv, j + 1, by omega, ?_⟩
    rw [upd_same, putF_at]
    have := rO_move CR dx (pre ++ List.replicate j 32) [32] (List.replicate m 32 ++ suf)
    rw [show pre ++ List.replicate (j + 1) 32 = pre ++ List.replicate j 32 ++ [32] by rw [List.replicate_succ', List.append_assoc]]
    exact congrArg some this
theorem okRd9 {R : RdTxt K CR} (T : Txt K mg) (M1 : Mth P w K mg base CR "sees" 1 NRd1 (spSees CR)) (M4 : Mth P w K mg base CR "take" 2 NRd1 (spTake CR)) (F : Fun K "take_name" "Reader.take_name" sRd9 f fd) : FnOk P w K mg base CX0 3 f fd NRd2 (spTakeName CR) := by
  refine F.ok scRd9 (fun vs H Q E h => ?_) (fun cdv A outer s H vs Q E hr h => ?_)
  · obtain ⟨p, dx, pre, n, suf, rfl, _⟩ := h
    rfl
  obtain ⟨p, dx, pre, n, suf, rfl, hp, hn, hs, hl, q⟩ := h
  refine ⟨_, pss_cons (ps_set (i := 1) scRd9.nd rfl (Or.inl rfl) (pe_fld (pv 0) rfl)) (pss_cons (ps_expr (pe_methM M4 (pv 0) R.cl hr (pa_cons (pe_globE T.LETTERS) pa_nil)))
    (pss_cons (ps_while PassesOwn.never (PW.pt (pw_and (pt_cmpR op_lt (pe_op op_sub (pe_fld (pv 0) rfl) (pv 1)) (pe_globE T.LONGEST_NAME) (nomark _)) (pw_and1 (PW.pt (pw_or (pt_val (pe_methM M1 (pv 0) R.cl hr (pa_cons (pe_globE T.LETTERS) pa_nil))) (pw_or1 (pt_val (pe_methM M1 (pv 0) R.cl hr (pa_cons (pe_globE T.DIGITS) pa_nil)))))))))
      (pss_one (ps_fldaug (pv 0) pe_int in_add)))
    (pss_one (ps_ret (pe_slice sl_str (pe_fld (pv 0) rfl) (po_some (pv 1)) (po_some (pe_fld (pv 0) rfl))))))), ?_⟩
  cases n with
  | nil => exact absurd hn (by decide)
  | cons c n =>
  have hn2 : isL c = true ∧ (∀ d ∈ c :: n, isLD d = true) ∧ (c :: n).length ≤ 12 := by
    unfold isName at hn
    rw [Bool.and_eq_true, Bool.and_eq_true, decide_eq_true_eq, Z_len] at hn
    exact ⟨hn.2.1, fun d hd => List.all_eq_true.mp hn.2.2 d hd, hn.1.2⟩
  obtain ⟨hc, hall, h12⟩ := hn2
  have hz0 : (pre ++ c :: n ++ suf).length ≤ sizeLine := by simp only [List.length_append]; omega
  refine ⟨_, rfl, _, CR, _, _, _, rfl, hp, R.cl, R.nAt, rF_at _ _, ?_⟩
  refine ⟨_, rfl, p, dx, _, rfl, hp, rF_no, p, dx, pre, n ++ suf, c, zLetters, rfl, hp, hc, by simp only [List.length_append, List.length_cons] at hz0 ⊢; omega, fun H1 m1 h1 => ?_⟩
  refine ⟨fun m σ H' => σ = start NRd9 [.ref p, .int pre.length] ∧ Mv p H H' ∧ ∃ a b, c :: n = a ++ b ∧ b.length = m ∧ 1 ≤ a.length ∧ H' p = some (rO CR dx (pre ++ a) (b ++ suf)), ⟨n.length, rfl, m1, [c], n, rfl, rfl, Nat.le_refl _, h1⟩, ?_⟩
  rintro m σ H' ⟨rfl, mv, a, b, e, el, ha, h'⟩
  refine ⟨_, rfl, _, CR, _, _, _, rfl, h', R.cl, R.nAt, rF_at _ _, _, rfl, _, _, rfl, rfl, _, _, rfl, rfl, _, rfl, ?_⟩
  rw [show (((pre ++ a).length : Nat) : Int) - pre.length = (a.length : Nat) by rw [List.length_append]; omega]
  have hzb : pre.length + a.length + (b ++ suf).length ≤ sizeLine := by
    have := congrArg List.length e
    simp only [List.length_append, List.length_cons] at this hz0 ⊢
    omega
  have hzc : (pre ++ a).length + (b ++ suf).length ≤ sizeLine := by rw [List.length_append]; exact hzb
  cases b with
  | nil =>
    have ea : a = c :: n := by rw [e, List.append_nil]
    subst ea
    have fin : ∀ H2, H2 = H' → tRet (tSl rSlS (tFld K (tVar 0) (Str.ofString "text")) (tPart (tVar 1)) (tPart (tFld K (tVar 0) (Str.ofString "at")))) { nx := fun x H' => Q V.non H', rt := Q } (start NRd9 [V.ref p, V.int pre.length]) H2 := by
      intro H2 e2
      subst e2
      refine ⟨_, rfl, _, CR, _, _, _, rfl, h', R.cl, R.nText, rF_text _ _, _, rfl, _, rfl, _, rfl, _, CR, _, _, _, rfl, h', R.cl, R.nAt, rF_at _ _, _, rfl, _, rfl, ?_, ?_⟩
      · rw [Z_len]
        simp only [List.length_append, List.nil_append] at hz0 ⊢
        omega
      · have := cutS_mid pre (c :: n) suf
        rw [List.append_assoc] at this
        rw [List.nil_append, List.append_assoc, this]
        exact q _ mv (by rw [List.nil_append] at h'; exact h')
    refine ite2 (fun c1 => ?_) (fun c1 => ?_)
    · refine ⟨_, rfl, p, dx, _, rfl, h', rF_no, p, dx, _, _, zLetters, rfl, h', hzc, _, rfl, ?_⟩
      have hs1 : seesB ([] ++ suf) zLetters = false ∧ seesB ([] ++ suf) zDigits = false := by
        cases suf with
        | nil => exact ⟨rfl, rfl⟩
        | cons x r =>
          have hx : (isL x || decide (x ∈ zDigits.cps.toList)) = false := hs
          rw [Bool.or_eq_false_iff] at hx
          exact hx
      rw [hs1.1]
      refine iteF ⟨_, rfl, p, dx, _, rfl, h', rF_no, p, dx, _, _, zDigits, rfl, h', hzc, _, rfl, ?_⟩
      rw [hs1.2]
      exact iteF (fin _ rfl)
    · exact fin _ rfl
  | cons d b =>
    have hd : (isL d || decide (d ∈ zDigits.cps.toList)) = true := hall d (by rw [e]; simp)
    have hm : b.length < m := by rw [← el]; exact Nat.lt_succ_self _
    have e2 : c :: n = (a ++ [d]) ++ b := by rw [e, List.append_assoc]; rfl
    have hlt : a.length < 12 := by
      have := congrArg List.length e
      simp only [List.length_append, List.length_cons] at this h12
      omega
    rw [decide_eq_true (by omega : ((a.length : Nat) : Int) < 12)]
    refine iteT ⟨_, rfl, p, dx, _, rfl, h', rF_no, p, dx, _, _, zLetters, rfl, h', hzc, _, rfl, ?_⟩
    by_cases hL : isL d = true
    all_goals
      first
      | rw [show seesB (d :: b ++ suf) zLetters = true from hL]
        refine iteT ?_
        refine iteT ?_
      | have hL2 : isL d = false := by simpa using hL
        rw [hL2, Bool.false_or] at hd
        rw [show seesB (d :: b ++ suf) zLetters = false from hL2]
        refine iteF ⟨_, rfl, p, dx, _, rfl, h', rF_no, p, dx, _, _, zDigits, rfl, h', hzc, _, rfl, ?_⟩
        rw [show seesB (d :: b ++ suf) zDigits = true from hd]
        refine iteT ?_
    all_goals
      refine ⟨fun σ H'' => σ = start NRd9 [.ref p, .int pre.length] ∧ Mv p H H'' ∧ ∃ a' b', c :: n = a' ++ b' ∧ b'.length = b.length ∧ 1 ≤ a'.length ∧ H'' p = some (rO CR dx (pre ++ a') (b' ++ suf)), fun σ'' H'' h => ⟨b.length, hm, h⟩, ?_⟩
      refine ⟨_, rfl, _, CR, _, _, _, rfl, h', R.cl, R.nAt, rF_at _ _, _, _, rfl, rfl, dx, _, h', (by show 2 < 1000; decide), rfl, Mv.upd mv, a ++ [d], b, e2, rfl, by simp, ?_⟩
      rw [upd_same, putF_at]
      have := rO_move CR dx (pre ++ a) [d] (b ++ suf)
      rw [show pre ++ (a ++ [d]) = pre ++ a ++ [d] by rw [List.append_assoc]]
      exact congrArg some this
end
/-! the same for a list of signs -/
def signsL (cs : List Nat) : List V := cs.map fun c => V.str ⟨#[c]⟩
theorem inV_signs (c : Nat) (cs : List Nat) : inV (.str ⟨#[c]⟩) (signsL cs) = decide (c ∈ cs) := by
  have e : signsL cs = (cs.map fun c => (⟨#[c]⟩ : Str)).map V.str := by unfold signsL; rw [List.map_map]; rfl
  rw [e, inV_str]
  refine decide_eq_decide.mpr ⟨fun h => ?_, fun h => List.mem_map.mpr ⟨c, h, rfl⟩⟩
  obtain ⟨d, hd, e⟩ := List.mem_map.mp h
  have e2 : d = c := by
    have := congrArg (fun z : Str => z.cps.toList) e
    simpa using this
  rw [← e2]
  exact hd
theorem signs_flat (cs : List Nat) : (signsL cs).all flatV = true := by
  rw [List.all_eq_true]
  intro x h
  obtain ⟨d, hd, rfl⟩ := List.mem_map.mp h
  rfl
def seesLB (suf cs : List Nat) : Bool := suf.head?.any fun c => decide (c ∈ cs)
def spSeesL (K : PySem.W.Frag) (CR : Addr) : Sp := fun vs H Q _ => ∃ (p dx l : Addr) (pre suf cs : List Nat), vs = [.ref p, .ref l] ∧ H p = some (rO CR dx pre suf) ∧ SqL K H l (signsL cs) ∧ pre.length + suf.length ≤ sizeLine ∧ Q (.bl (seesLB suf cs)) H
def spTakeL (K : PySem.W.Frag) (CR : Addr) : Sp := fun vs H Q _ => ∃ (p dx l : Addr) (pre suf : List Nat) (c : Nat) (cs : List Nat), vs = [.ref p, .ref l] ∧ H p = some (rO CR dx pre (c :: suf)) ∧ SqL K H l (signsL cs) ∧ c ∈ cs ∧ pre.length + suf.length + 1 ≤ sizeLine ∧
  ∀ H', Mv p H H' → H' p = some (rO CR dx (pre ++ [c]) suf) → Q (.str ⟨#[c]⟩) H'
section
variable {P : Program} {w : World} {K : PySem.W.Frag} {mg : Str → Option Value} {base : Heap} {f : Addr} {fd : FuncData} {CR : Addr}
theorem okRd1L (T : Txt K mg) (R : RdTxt K CR) (F : Fun K "sees" "Reader.sees" sRd1 f fd) : FnOk P w K mg base CX0 1 f fd NRd1 (spSeesL K CR) := by
  refine F.ok scRd1 (fun vs H Q E h => ?_) (fun cdv A outer s H vs Q E hr h => ?_)
  · obtain ⟨p, dx, l, pre, suf, cs, rfl, _⟩ := h
    rfl
  obtain ⟨p, dx, l, pre, suf, cs, rfl, hp, hL, hl, q⟩ := h
  refine ⟨_, pss_one (ps_ret (pe_and (pe_cmpR op_lt (pe_fld (pv 0) rfl) (pe_callB call_len rfl T.len (by decide +kernel) (pa_cons (pe_fld (pv 0) rfl) pa_nil)) (nomark _)) (pe_one (pe_cmpR op_in_seq (pe_ix ix_str (pe_fld (pv 0) rfl) (pe_fld (pv 0) rfl) (fun _ _ => rfl)) (pv 1) rfl)))), ?_⟩
  have hz : (Z (pre ++ suf)).length = pre.length + suf.length := by rw [Z_len, List.length_append]
  refine ⟨_, rfl, _, CR, _, _, _, rfl, hp, R.cl, R.nAt, rF_at _ _, _, rfl, _, CR, _, _, _, rfl, hp, R.cl, R.nText, rF_text _ _, _, _, rfl, ⟨by rw [hz]; exact hl, rfl⟩, _, _, rfl, rfl, _, rfl, ?_⟩
  rw [hz]
  cases suf with
  | nil =>
    rw [show decide ((pre.length : Int) < ((pre.length + ([] : List Nat).length : Nat) : Int)) = false from decide_eq_false (by simp only [List.length_nil]; omega)]
    exact iteF q
  | cons c r =>
    rw [show decide ((pre.length : Int) < ((pre.length + (c :: r).length : Nat) : Int)) = true from decide_eq_true (by simp only [List.length_cons]; omega)]
    refine iteT ⟨_, rfl, _, CR, _, _, _, rfl, hp, R.cl, R.nText, rF_text _ _, _, rfl, _, CR, _, _, _, rfl, hp, R.cl, R.nAt, rF_at _ _, _, _, c, rfl, rfl, by rw [hz]; exact hl, atI_nat (j := pre.length) ?_, _, rfl, l, _, rfl, .inl hL, rfl, signs_flat cs, by show Q (.bl (inV (.str ⟨#[c]⟩) (signsL cs))) H; rw [inV_signs]; exact q⟩
    show (pre ++ c :: r)[pre.length]? = some c
    rw [List.getElem?_append_right (Nat.le_refl _), Nat.sub_self]
    rfl
theorem okRd4L {R : RdTxt K CR} (M1 : Mth P w K mg base CR "sees" 1 NRd1 (spSeesL K CR)) (F : Fun K "take" "Reader.take" sRd4 f fd) : FnOk P w K mg base CX0 2 f fd NRd1 (spTakeL K CR) := by
  refine F.ok scRd4 (fun vs H Q E h => ?_) (fun cdv A outer s H vs Q E hr h => ?_)
  · obtain ⟨p, dx, l, pre, suf, c, cs, rfl, _⟩ := h
    rfl
  obtain ⟨p, dx, l, pre, suf, c, cs, rfl, hp, hL, hc, hl, q⟩ := h
  refine ⟨_, pss_cons (ps_if (pt_not (pt_val (pe_methM M1 (pv 0) R.cl hr (pa_cons (pv 1) pa_nil)))) (pss_one ps_no) pss_nil)
    (pss_cons (ps_fldaug (pv 0) pe_int in_add) (pss_one (ps_ret (pe_ix ix_str (pe_fld (pv 0) rfl) (pe_op op_sub (pe_fld (pv 0) rfl) pe_int) (fun _ _ => rfl))))), ?_⟩
  refine ⟨_, rfl, p, dx, _, rfl, hp, rF_no, _, rfl, p, dx, l, pre, c :: suf, cs, rfl, hp, hL, by rw [List.length_cons]; omega, ?_⟩
  refine ⟨_, rfl, ?_⟩
  rw [show seesLB (c :: suf) cs = true from decide_eq_true hc]
  refine iteF ?_
  have hz : (Z (pre ++ c :: suf)).length ≤ sizeLine := by
    rw [Z_len, List.length_append, List.length_cons]
    omega
  have e1 : HO.ins CR dx (putF "at" (.int ((pre.length : Int) + 1)) (rF (.str (Z (pre ++ c :: suf))) (.int pre.length))) = rO CR dx (pre ++ [c]) suf := by
    rw [putF_at]
    exact rO_move CR dx pre [c] suf
  refine ⟨_, rfl, _, CR, _, _, _, rfl, hp, R.cl, R.nAt, rF_at _ _, _, _, rfl, rfl, dx, _, hp, (by show 2 < 1000; decide), ?_⟩
  rw [e1]
  have hp2 : upd H p (rO CR dx (pre ++ [c]) suf) p = some (rO CR dx (pre ++ [c]) suf) := upd_same
  refine ⟨_, rfl, _, CR, _, _, _, rfl, hp2, R.cl, R.nText, rF_text _ _, _, rfl, _, CR, _, _, _, rfl, hp2, R.cl, R.nAt, rF_at _ _, _, _, rfl, rfl, _, _, c, rfl, rfl, ?_, ?_, q _ (Mv.upd (Mv.refl _ _)) hp2⟩
  · rw [Z_len]
    simp only [List.length_append, List.length_cons, List.length_nil]
    omega
  · rw [show (((pre ++ [c]).length : Nat) : Int) - 1 = (pre.length : Nat) by simp only [List.length_append, List.length_cons, List.length_nil]; omega]
    refine atI_nat (j := pre.length) ?_
    show (pre ++ [c] ++ suf)[pre.length]? = some c
    rw [List.append_assoc, List.getElem?_append_right (Nat.le_refl _), Nat.sub_self]
    rfl
end
end My

set_option Elab.async false
set_option linter.all false
set_option maxRecDepth 100000
namespace My
open PySem L2
abbrev sWr0 : Stmt := inClass (top 16) 0
abbrev NWr0 : List Str := ["self", "form", "depth", "leaves"]
theorem scWr0 : FnScope NWr0 NWr0 (defScope sWr0) := ⟨rfl, rfl, rfl, by decide +kernel, rfl, by decide +kernel, by decide +kernel⟩
abbrev stake_leaf : Stmt := top 17
abbrev Ntake_leaf : List Str := ["reader", "words", "name"]
abbrev Ptake_leaf : List Str := ["reader", "words"]
theorem sctake_leaf : FnScope Ntake_leaf Ptake_leaf (defScope stake_leaf) := ⟨rfl, rfl, rfl, by decide +kernel, rfl, by decide +kernel, by decide +kernel⟩
abbrev stake_sign : Stmt := top 18
abbrev Ntake_sign : List Str := ["reader", "words", "begins", "first", "told", "more", "sign"]
abbrev Ptake_sign : List Str := ["reader", "words", "begins"]
theorem sctake_sign : FnScope Ntake_sign Ptake_sign (defScope stake_sign) := ⟨rfl, rfl, rfl, by decide +kernel, rfl, by decide +kernel, by decide +kernel⟩
abbrev sgrouped : Stmt := top 19
abbrev Ngrouped : List Str := ["half", "other", "left", "word", "depth", "leaves"]
abbrev Pgrouped : List Str := ["half", "other"]
theorem scgrouped : FnScope Ngrouped Pgrouped (defScope sgrouped) := ⟨rfl, rfl, rfl, by decide +kernel, rfl, by decide +kernel, by decide +kernel⟩
abbrev stold_form : Stmt := top 23
abbrev Ntold_form : List Str := ["part"]
theorem sctold_form : FnScope Ntold_form Ntold_form (defScope stold_form) := ⟨rfl, rfl, rfl, by decide +kernel, rfl, by decide +kernel, by decide +kernel⟩
theorem putF_len (f : Str) (v : V) : ∀ fs : List (Str × V), (putF f v fs).length ≤ fs.length + 1
  | [] => by show 1 ≤ 1; decide
  | (g, x) :: r => by
    show (if g = f then _ else _ : List (Str × V)).length ≤ _
    by_cases h : g = f
    · rw [if_pos h]
      simp
    · rw [if_neg h]
      have := putF_len f v r
      simp only [List.length_cons]
      omega
/-! ### forms as trees -/
inductive Sg where
  | mul | bar | amp | plus
def Sg.code : Sg → Nat | .mul => 42 | .bar => 124 | .amp => 38 | .plus => 43
def Sg.word : Sg → Str | .mul => Str.ofString "both" | .bar => Str.ofString "between" | .amp => Str.ofString "offered" | .plus => Str.ofString "chosen"
def leafZ (co : Bool) : Str := if co then Str.ofString "counter" else Str.ofString "good"
inductive FT where
  | leaf (co : Bool) (n : List Nat)
  | node (s : Sg) (l r : FT)
def FT.dep : FT → Nat | .leaf _ _ => 0 | .node _ l r => 1 + max l.dep r.dep
def FT.lvs : FT → Nat | .leaf _ _ => 1 | .node _ l r => l.lvs + r.lvs
def FT.data : FT → PyData | .leaf co n => .tuple [.str (leafZ co), .str (Z n)] | .node s l r => .tuple [.str s.word, l.data, r.data]
def FT.Ok : FT → Prop | .leaf _ n => isName (Z n) = true | .node _ l r => l.Ok ∧ r.Ok
def Fm (K : PySem.W.Frag) (H : Hp) : FT → V → Prop
  | .leaf co n, v => ∃ a, v = .ref a ∧ SqT K H a [.str (leafZ co), .str (Z n)]
  | .node s l r, v => ∃ a x y, v = .ref a ∧ SqT K H a [.str s.word, x, y] ∧ Fm K H l x ∧ Fm K H r y
/-! ### tuples stay -/
def Hard (o : HO) : Prop := (∃ xs, o = .tup xs) ∨ ∃ ob u, o = .frz ob u
def KT (H H' : Hp) : Prop := ∀ a o, Hard o → H a = some o → H' a = some o
theorem KT.refl (H : Hp) : KT H H := fun _ _ _ h => h
theorem KT.trans {H H1 H2 : Hp} (a : KT H H1) (b : KT H1 H2) : KT H H2 := fun c o n h => b c o n (a c o n h)
theorem Same.kt {H H' : Hp} (s : Same H H') : KT H H' := fun a o _ h => s a o h
theorem KT.seq {K : PySem.W.Frag} {H H' : Hp} {a : Addr} {xs : List V} (k : KT H H') (h : SqT K H a xs) : SqT K H' a xs := by
  rcases h with (h | ⟨u, h⟩) | h
  · exact .inl (.inl (k _ _ (.inl ⟨_, rfl⟩) h))
  · exact .inl (.inr ⟨u, k _ _ (.inr ⟨_, _, rfl⟩) h⟩)
  · exact .inr h
theorem KT.fm {K : PySem.W.Frag} {H H' : Hp} (k : KT H H') : ∀ (t : FT) {v : V}, Fm K H t v → Fm K H' t v
  | .leaf _ _, _, ⟨a, e, h⟩ => ⟨a, e, k.seq h⟩
  | .node _ l r, _, ⟨a, x, y, e, h, hl, hr⟩ => ⟨a, x, y, e, k.seq h, k.fm l hl, k.fm r hr⟩
theorem Keep.kt {p : Addr} {H H' : Hp} {C dx : Addr} {fs : List (Str × V)} (hp : H p = some (.ins C dx fs)) (k : Keep p H H') : KT H H' := fun a o n h => by
  refine k a o (fun e => ?_) h
  subst e
  rw [hp] at h
  cases h
  rcases n with ⟨_, e⟩ | ⟨_, _, e⟩ <;> cases e
theorem Mv.keep {p : Addr} {H H' : Hp} (m : Mv p H H') : Keep p H H' := fun b o n h => by rw [m b n]; exact h
theorem FT.of_fm {K : PySem.W.Frag} {H : Hp} : ∀ (t : FT) {v : V}, Fm K H t v → Dp K H v t.data
  | .leaf _ _, _, ⟨a, e, h⟩ => by subst e; exact .tup h (.cons (.str _) (.cons (.str _) .nil))
  | .node _ l r, _, ⟨a, x, y, e, h, hl, hr⟩ => by subst e; exact .tup h (.cons (.str _) (.cons (FT.of_fm l hl) (.cons (FT.of_fm r hr) .nil)))
/-! ### what is written -/
def wF (u d l : V) : List (Str × V) := [("form", u), ("depth", d), ("leaves", l)]
def wO (CW dx : Addr) (u : V) (d l : Nat) : HO := .ins CW dx (wF u (.int d) (.int l))
theorem nFD : ¬ (("form" : Str) = "depth") := by decide +kernel
theorem nFL : ¬ (("form" : Str) = "leaves") := by decide +kernel
theorem nDL : ¬ (("depth" : Str) = "leaves") := by decide +kernel
theorem wF_form (u d l : V) : (wF u d l).lookup ("form" : Str) = some u := by
  unfold wF
  simp only [List.lookup, beq_self_eq_true]
theorem wF_depth (u d l : V) : (wF u d l).lookup ("depth" : Str) = some d := by
  unfold wF
  simp only [List.lookup, (by decide +kernel : (("depth" : Str) == "form") = false), beq_self_eq_true]
theorem wF_leaves (u d l : V) : (wF u d l).lookup ("leaves" : Str) = some l := by
  unfold wF
  simp only [List.lookup, (by decide +kernel : (("leaves" : Str) == "form") = false), (by decide +kernel : (("leaves" : Str) == "depth") = false), beq_self_eq_true]
theorem putF_wF (u d l : V) : putF "leaves" l (putF "depth" d (putF "form" u [])) = wF u d l := by
  have e1 : putF "depth" d (putF "form" u []) = ([("form", u), ("depth", d)] : List (Str × V)) := by
    show (if ("form" : Str) = "depth" then _ else _ : List (Str × V)) = _
    rw [if_neg nFD]
    rfl
  rw [e1]
  show (if ("form" : Str) = "leaves" then _ else _ : List (Str × V)) = _
  rw [if_neg nFL]
  show _ :: (if ("depth" : Str) = "leaves" then _ else _ : List (Str × V)) = _
  rw [if_neg nDL]
  rfl
theorem lt3 (f g : Str) (u v : V) : (putF f u (putF g v [])).length < 1000 := by
  have := putF_len f u (putF g v [])
  have e : (putF g v []).length = 1 := rfl
  omega
def Wr (K : PySem.W.Frag) (CW : Addr) (H : Hp) (t : FT) (v : V) : Prop :=
  ∃ a dx u, v = .ref a ∧ H a = some (wO CW dx u t.dep t.lvs) ∧ (t.dep ≤ 12 → Fm K H t u) ∧ (12 < t.dep → u = .non)
structure WrTxt (K : PySem.W.Frag) (mg : Str → Option Value) (CW fI : Addr) : Prop where
  cl : Cls K CW
  nForm : NoAttr K CW "form"
  nDepth : NoAttr K CW "depth"
  nLeaves : NoAttr K CW "leaves"
  made : Mk K CW fI
  g : mg "Written" = some (.ref CW)
theorem Wr.same {K : PySem.W.Frag} {CW : Addr} {H H' : Hp} {t : FT} {v : V} (h : Wr K CW H t v) (s : Same H H') : Wr K CW H' t v := by
  obtain ⟨a, dx, u, e, h1, h2, h3⟩ := h
  exact ⟨a, dx, u, e, s _ _ h1, fun d => (Same.kt s).fm t (h2 d), h3⟩
theorem rO_ne_wO {CR dx CW dy : Addr} {pre suf : List Nat} {u : V} {d l : Nat} : rO CR dx pre suf ≠ wO CW dy u d l := fun e => by
  have e2 := HO.ins.inj e
  have e3 := congrArg (fun q : List (Str × V) => q.length) e2.2.2
  exact absurd e3 (by show ¬ (2 = 3); decide)
theorem Wr.keep {K : PySem.W.Frag} {CR dx CW : Addr} {pre suf : List Nat} {H H' : Hp} {p : Addr} {t : FT} {v : V} (h : Wr K CW H t v) (hp : H p = some (rO CR dx pre suf)) (k : Keep p H H') : Wr K CW H' t v := by
  obtain ⟨a, dx, u, e, h1, h2, h3⟩ := h
  refine ⟨a, dx, u, e, k _ _ (fun z => ?_) h1, fun d => (Keep.kt hp k).fm t (h2 d), h3⟩
  rw [z, hp] at h1
  exact rO_ne_wO (Option.some.inj h1)
def zTilde : Str := Str.ofString "~"
def leafS (co : Bool) (n : List Nat) : List Nat := n ++ (if co then [126] else [])
/-- the signs of forms with their words -/
def wordsF : List (Key × V) := [(.inr ⟨#[42]⟩, .str (Str.ofString "both")), (.inr ⟨#[124]⟩, .str (Str.ofString "between")), (.inr ⟨#[38]⟩, .str (Str.ofString "offered")), (.inr ⟨#[43]⟩, .str (Str.ofString "chosen")), (.inr ⟨#[126]⟩, .str (Str.ofString "counter"))]
def forkC : List Nat := [42, 124, 38, 43]
def spWr0 (CW : Addr) : Sp := fun vs H Q _ => ∃ (p dx : Addr) (u : V) (d l : Nat), vs = [.ref p, u, .int d, .int l] ∧ H p = some (.ins CW dx []) ∧ ∀ H', Mv p H H' → H' p = some (wO CW dx u d l) → Q .non H'
def spTakeLeaf (K : PySem.W.Frag) (CR CW : Addr) : Sp := fun vs H Q _ => ∃ (p dx W : Addr) (pre n suf : List Nat) (co : Bool), vs = [.ref p, .ref W] ∧ H p = some (rO CR dx pre (leafS co n ++ suf)) ∧ H W = some (.dK wordsF) ∧ isName (Z n) = true ∧ suf.head?.any isLD = false ∧ seesB suf zTilde = false ∧
  pre.length + (leafS co n).length + suf.length ≤ sizeLine ∧ ∀ H' v, Keep p H H' → H' p = some (rO CR dx (pre ++ leafS co n) suf) → Wr K CW H' (.leaf co n) v → Q v H'
def spTakeSign (K : PySem.W.Frag) (CR : Addr) : Sp := fun vs H Q _ => ∃ (p dx W l : Addr) (pre suf : List Nat) (s : Sg), vs = [.ref p, .ref W, .ref l] ∧ H p = some (rO CR dx pre (s.code :: suf)) ∧ H W = some (.dK wordsF) ∧ SqL K H l (signsL forkC) ∧
  pre.length + suf.length + 1 ≤ sizeLine ∧ ∀ H', Keep p H H' → H' p = some (rO CR dx (pre ++ [s.code]) suf) → Q (.str s.word) H'
def spGrouped (K : PySem.W.Frag) (CW : Addr) : Sp := fun vs H Q _ => ∃ (h : Addr) (v1 v2 : V) (s : Sg) (l r : FT), vs = [.ref h, v2] ∧ SqT K H h [v1, .str s.word] ∧ Wr K CW H l v1 ∧ Wr K CW H r v2 ∧
  ∀ H' v, Same H H' → Wr K CW H' (.node s l r) v → Q v H'
def spTold (K : PySem.W.Frag) (CW : Addr) : Sp := fun vs H Q _ => ∃ (v : V) (t : FT), vs = [v] ∧ Wr K CW H t v ∧ t.dep ≤ 12 ∧ ∀ u, Fm K H t u → Q u H
structure TxtW (K : PySem.W.Frag) (mg : Str → Option Value) (w : World) where
  max : mg "max" = none
  DEEPEST : ∃ u, mg "DEEPEST" = some u ∧ RelV (.int 12) u
  aFW : Addr
  FORM_WORDS : ∃ u, mg "FORM_WORDS" = some u ∧ RelV (.ref aFW) u
  dFW : SDict K w aFW wordsF
  dict : mg "dict" = none
section
variable {P : Program} {w : World} {K : PySem.W.Frag} {mg : Str → Option Value} {base : Heap} {f : Addr} {fd : FuncData} {CR CW fI : Addr}
theorem okWr0 (T : WrTxt K mg CW fI) (F : Fun K "__init__" "Written.__init__" sWr0 f fd) : FnOk P w K mg base CX0 1 f fd NWr0 (spWr0 CW) := by
  refine F.ok scWr0 (fun vs H Q E h => ?_) (fun cdv A outer s H vs Q E hr h => ?_)
  · obtain ⟨p, dx, u, d, l, rfl, _⟩ := h
    rfl
  obtain ⟨p, dx, u, d, l, rfl, hp, q⟩ := h
  refine ⟨_, pss_cons (ps_fld (pv 0) (pv 1) rfl) (pss_cons (ps_fld (pv 0) (pv 2) rfl) (pss_one (ps_fld (pv 0) (pv 3) rfl))), ?_⟩
  refine ⟨_, rfl, _, rfl, p, CW, dx, _, rfl, hp, T.cl, T.nForm, (by show 0 < 1000; decide), ?_⟩
  refine ⟨_, rfl, _, rfl, p, CW, dx, _, rfl, upd_same, T.cl, T.nDepth, (by show 1 < 1000; decide), ?_⟩
  refine ⟨_, rfl, _, rfl, p, CW, dx, _, rfl, upd_same, T.cl, T.nLeaves, lt3 _ _ _ _, ?_⟩
  refine q _ (Mv.upd (Mv.upd (Mv.upd (Mv.refl _ _)))) ?_
  rw [upd_same, putF_wF]
  rfl
theorem same_make {H : Hp} {x dx C : Addr} (nx : H x = none) (nd : H dx = none) (ne : dx ≠ x) : Same H (upd (upd H dx (.own x)) x (.ins C dx [])) := fun b o e => by
  rw [upd_ne (ne_of_none e nx), upd_ne (ne_of_none e nd)]
  exact e
theorem same_mv {H H1 H2 : Hp} {x : Addr} (s : Same H H1) (nx : H x = none) (m : Mv x H1 H2) : Same H H2 := fun b o e => by
  rw [m b (ne_of_none e nx)]
  exact s b o e
theorem wr_make {H : Hp} {Q : VK} {E : XK} {u : V} {d l : Nat} (x dx : Addr) (nx : H x = none) (nd : H dx = none) (ne : dx ≠ x) (q : ∀ H', Same H H' → H' x = some (wO CW dx u d l) → Q (.ref x) H') :
    spWr0 CW [.ref x, u, .int d, .int l] (upd (upd H dx (.own x)) x (.ins CW dx [])) (fun v H3 => v = .non ∧ Q (.ref x) H3) E :=
  ⟨x, dx, u, d, l, rfl, upd_same, fun H' m h => ⟨rfl, q H' (same_mv (same_make nx nd ne) nx m) h⟩⟩
theorem oktake_leaf {R : RdTxt K CR} (T : WrTxt K mg CW fI) {fdI : FuncData} (GI : FnOk P w K mg base CX0 1 fI fdI NWr0 (spWr0 CW)) (bI : Binds K fdI NWr0 []) (M1 : Mth P w K mg base CR "sees" 1 NRd1 (spSees CR)) (M4 : Mth P w K mg base CR "take" 2 NRd1 (spTake CR))
    (M9 : Mth P w K mg base CR "take_name" 3 NRd2 (spTakeName CR)) (F : Fun K "take_leaf" "take_leaf" stake_leaf f fd) : FnOk P w K mg base CX0 4 f fd Ptake_leaf (spTakeLeaf K CR CW) := by
  refine F.ok sctake_leaf (fun vs H Q E h => ?_) (fun cdv A outer s H vs Q E hr h => ?_)
  · obtain ⟨p, dx, W, pre, n, suf, co, rfl, _⟩ := h
    rfl
  obtain ⟨p, dx, W, pre, n, suf, co, rfl, hp, hW, hn, hs, ht, hl, q⟩ := h
  refine ⟨_, (pss_cons (ps_set (i := 2) sctake_leaf.nd rfl (Or.inl rfl) (pe_methM0 M9 (pv 0) R.cl hr))
  (pss_cons (ps_if (PW.pt (pw_and (pt_cmp (pc_din (hu_of hr) pe_str (pv 1))) (pw_and1 (pt_val (pe_methM M1 (pv 0) R.cl hr (pa_cons pe_str pa_nil))))))
    (pss_cons (ps_expr (pe_methM M4 (pv 0) R.cl hr (pa_cons pe_str pa_nil)))
    (pss_one (ps_ret (pe_make T.made GI (hr.mono (by decide)) rfl T.g bI .nil pass0 (pa_cons (pe_tupN (pa_cons (pe_dget (hu_of hr) (pv 1) pe_str (fun _ _ => rfl)) (pa_cons (pv 2) pa_nil))) (pa_cons pe_int (pa_cons pe_int pa_nil)))))))
    pss_nil)
  (pss_one (ps_ret (pe_make T.made GI (hr.mono (by decide)) rfl T.g bI .nil pass0 (pa_cons (pe_tupN (pa_cons pe_str (pa_cons (pv 2) pa_nil))) (pa_cons pe_int (pa_cons pe_int pa_nil)))))))), ?_⟩
  refine ⟨_, rfl, p, dx, _, rfl, hp, rF_no, p, dx, pre, n, (if co then [126] else []) ++ suf, rfl, by rw [hp]; unfold leafS; rw [List.append_assoc], hn, ?_, ?_, fun H1 m1 h1 => ?_⟩
  · cases co
    · exact hs
    · show isLD 126 = false
      decide +kernel
  · unfold leafS at hl
    simp only [List.length_append] at hl ⊢
    omega
  have hl1 : (pre ++ n).length + ((if co then [126] else []) ++ suf).length ≤ sizeLine := by
    unfold leafS at hl
    simp only [List.length_append] at hl ⊢
    omega
  have nWp : W ≠ p := fun e => by rw [e, hp] at hW; cases hW
  have hW1 : H1 W = some (.dK wordsF) := by rw [m1 W nWp]; exact hW
  refine ⟨_, rfl, W, _, rfl, DGet.k (k := Sum.inr zTilde) hW1, _, rfl, ?_⟩
  refine iteT ?_
  refine ⟨_, rfl, p, dx, _, rfl, h1, rF_no, p, dx, pre ++ n, _, zTilde, rfl, h1, hl1, _, rfl, ?_⟩
  cases co with
  | false =>
    rw [show seesB ((if false = true then [126] else []) ++ suf) zTilde = false from ht]
    refine iteF ⟨_, rfl, le1k, fun t H2 s2 e2 => fun x dx' nx nd ne => wr_make (d := 0) (l := 1) x dx' nx nd ne fun H3 s3 h3 => ?_⟩
    have hh : H1 p = some (rO CR dx (pre ++ leafS false n) suf) := by
      rw [h1]
      unfold leafS
      rw [if_neg (by decide), List.append_nil]
      rfl
    exact q H3 _ ((Mv.keep m1).trans (Same.toKeep (s2.trans s3))) (s3 _ _ (s2 _ _ hh)) ⟨x, dx', _, rfl, h3, fun _ => ⟨t, rfl, (Same.kt s3).seq e2⟩, fun h => absurd h (by show ¬ (12 < 0); decide)⟩
  | true =>
    rw [show seesB ((if true = true then [126] else []) ++ suf) zTilde = true from (by show oneOf zTilde 126 = true; decide +kernel)]
    refine iteT ⟨_, rfl, p, dx, _, rfl, h1, rF_no, p, dx, pre ++ n, suf, 126, zTilde, rfl, h1, by decide +kernel, ?_, fun H1' m1' h1' => ?_⟩
    · simp only [List.length_append, if_true, List.length_cons, List.length_nil] at hl1 ⊢
      omega
    have hW1' : H1' W = some (.dK wordsF) := by rw [m1' W nWp]; exact hW1
    refine ⟨_, rfl, W, _, rfl, DGet.k (k := Sum.inr zTilde) hW1', _, rfl, le1k, fun t H2 s2 e2 => fun x dx' nx nd ne => wr_make (d := 0) (l := 1) x dx' nx nd ne fun H3 s3 h3 => ?_⟩
    have hh : H1' p = some (rO CR dx (pre ++ leafS true n) suf) := by
      rw [h1']
      unfold leafS
      rw [if_pos rfl, List.append_assoc]
    exact q H3 _ ((Mv.keep (m1.trans m1')).trans (Same.toKeep (s2.trans s3))) (s3 _ _ (s2 _ _ hh)) ⟨x, dx', _, rfl, h3, fun _ => ⟨t, rfl, (Same.kt s3).seq e2⟩, fun h => absurd h (by show ¬ (12 < 0); decide)⟩
theorem Sg.mem (s : Sg) : s.code ∈ forkC := by cases s <;> decide
theorem cut1 (c : Nat) : cutS ⟨#[c]⟩ (some 1) none = ⟨#[]⟩ := rfl
/-- of the first i signs those that are just this one -/
def flS (s : Sg) (i : Nat) : List V := (((wordsF.take i).map fun kv => kV kv.1).filter fun v => decide (v = .str ⟨#[s.code]⟩))
theorem flS_5 (s : Sg) : flS s 5 = [.str ⟨#[s.code]⟩] := by cases s <;> rfl
theorem words_at (s : Sg) : valV wordsF (Sum.inr ⟨#[s.code]⟩) = some (.str s.word) := by cases s <;> rfl
theorem words_key {i : Nat} {k : Key} {v : V} (h : wordsF[i]? = some (k, v)) : ∃ c, k = .inr ⟨#[c]⟩ ∧ i < 5 := by
  match i, h with
  | 0, h => exact ⟨_, (Prod.mk.inj (Option.some.inj h)).1.symm, by decide⟩
  | 1, h => exact ⟨_, (Prod.mk.inj (Option.some.inj h)).1.symm, by decide⟩
  | 2, h => exact ⟨_, (Prod.mk.inj (Option.some.inj h)).1.symm, by decide⟩
  | 3, h => exact ⟨_, (Prod.mk.inj (Option.some.inj h)).1.symm, by decide⟩
  | 4, h => exact ⟨_, (Prod.mk.inj (Option.some.inj h)).1.symm, by decide⟩
  | _ + 5, h => cases h
theorem flS_next {s : Sg} {i : Nat} {k : Key} {v : V} (h : wordsF[i]? = some (k, v)) : flS s (i + 1) = if kV k = .str ⟨#[s.code]⟩ then flS s i ++ [kV k] else flS s i := by
  unfold flS
  rw [take_next h, List.map_append, List.filter_append]
  by_cases e : kV k = .str ⟨#[s.code]⟩
  · rw [if_pos e]
    simp [e]
  · rw [if_neg e]
    simp [e]
theorem flS_len (s : Sg) (i : Nat) : (flS s i).length ≤ 5 := by
  unfold flS
  refine Nat.le_trans (List.length_filter_le _ _) ?_
  rw [List.length_map, List.length_take]
  exact Nat.min_le_right _ _
theorem oktake_sign {R : RdTxt K CR} (M4 : Mth P w K mg base CR "take" 2 NRd1 (spTake CR)) (M4L : Mth P w K mg base CR "take" 2 NRd1 (spTakeL K CR)) (F : Fun K "take_sign" "take_sign" stake_sign f fd) : FnOk P w K mg base CX0 3 f fd Ptake_sign (spTakeSign K CR) := by
  refine F.ok sctake_sign (fun vs H Q E h => ?_) (fun cdv A outer s H vs Q E hr h => ?_)
  · obtain ⟨p, dx, W, l, pre, suf, s, rfl, _⟩ := h
    rfl
  obtain ⟨p, dx, W, l, pre, suf, sg, rfl, hp, hW, hL, hl, q⟩ := h
  refine ⟨_, (pss_cons (ps_set (i := 3) sctake_sign.nd rfl (Or.inr rfl) (pe_methM M4L (pv 0) R.cl hr (pa_cons (pv 2) pa_nil)))
  (pss_cons (ps_lock (ps_set (i := 4) sctake_sign.nd rfl (Or.inl rfl) (pe_ix ix_list (pe_lc (own := [("sign", 6)]) (g := (gName 6)) rfl sctake_sign.nd (pi_keys (pv 1)) (blkOk_by (own := [("sign", 6)]) (N := Ntake_sign) (sc := defScope stake_sign) (by decide +kernel)) (fun _ _ _ _ _ => (pg_name (i := 6) sctake_sign.nd rfl (Or.inl rfl))) (fun _ _ _ _ _ => (pts_one (pt_cmpR op_eq (pe_ix ix_str (pv 6) pe_int (fun _ _ => rfl)) (pv 3) (nomark _)))) (fun _ _ _ _ _ => (pv 6))) pe_int (fun _ _ => rfl))))
  (pss_cons (ps_for PassesOwn.never rfl (pi_str (pe_slice sl_str (pv 4) (po_some pe_int) po_none)) (pg_name (i := 5) sctake_sign.nd rfl (Or.inl rfl))
    (pss_one (ps_expr (pe_methM M4 (pv 0) R.cl hr (pa_cons (pv 5) pa_nil)))))
  (pss_one (ps_ret (pe_dget (hu_of hr) (pv 1) (pv 4) (fun _ _ => rfl))))))), ?_⟩
  have nWp : W ≠ p := fun e => by rw [e, hp] at hW; cases hW
  refine ⟨_, rfl, p, dx, _, rfl, hp, rF_no, _, rfl, p, dx, l, pre, suf, sg.code, forkC, rfl, hp, hL, sg.mem, hl, fun H1 m1 h1 => ?_⟩
  have hW1 : H1 W = some (.dK wordsF) := by rw [m1 W nWp]; exact hW
  refine ⟨W, .dK wordsF, hW1, trivial, fun od => ?_⟩
  obtain ⟨G, hG⟩ : ∃ G, G = upd H1 W (.frz od (.dK wordsF)) := ⟨_, rfl⟩
  rw [← hG]
  have gW : G W = some (.frz od (.dK wordsF)) := by rw [hG]; exact upd_same
  refine ⟨_, rfl, W, od, rfl, .inl ⟨wordsF, gW, fun D nD => ?_⟩⟩
  have nDW : D ≠ W := fun e => by rw [e, gW] at nD; cases nD
  refine lc_it walk_keys (fun i H' => Same G H' ∧ H' D = some (.lst (flS sg i))) ⟨same_new nD _, upd_same⟩ (fun i H' _ z => z.1 _ _ gW) (fun i x H2 H3 hi z y => ?_) (fun H' z => ?_)
  · obtain ⟨rfl, k, v, hk, rfl⟩ := y
    obtain ⟨c, rfl, _⟩ := words_key hk
    refine ⟨rfl, _, rfl, ⟨#[c]⟩, 0, c, rfl, rfl, (by show 1 ≤ sizeLine; decide), rfl, _, rfl, rfl, _, rfl, ?_⟩
    have fn := flS_next (s := sg) hk
    have hn : G D = none := nD
    refine ite2 (fun e => ?_) (fun e => ?_)
    · have e' : kV (.inr ⟨#[c]⟩) = .str ⟨#[sg.code]⟩ := of_decide_eq_true e
      rw [if_pos e'] at fn
      refine ⟨_, rfl, _, z.2, Nat.lt_of_le_of_lt (flS_len sg i) (by decide), same_fresh z.1 hn, ?_⟩
      rw [upd_same, fn]
    · have e' : ¬ kV (.inr ⟨#[c]⟩) = .str ⟨#[sg.code]⟩ := fun u => e (decide_eq_true u)
      rw [if_neg e'] at fn
      refine ⟨z.1, ?_⟩
      rw [fn]
      exact z.2
  · have p2 : H' D = some (.lst [.str ⟨#[sg.code]⟩]) := by rw [z.2]; exact congrArg (fun u => some (HO.lst u)) (flS_5 sg)
    have gW' := z.1 _ _ gW
    have nDp : D ≠ p := fun e => by
      have : G p = some (rO CR dx (pre ++ [sg.code]) suf) := by rw [hG, upd_ne (Ne.symm nWp)]; exact h1
      rw [e, this] at nD
      cases nD
    refine ⟨D, _, 0, _, rfl, rfl, SqL.of p2, rfl, gW', ?_⟩
    have hp2 : upd H' W (.dK wordsF) p = some (rO CR dx (pre ++ [sg.code]) suf) := by
      rw [upd_ne (Ne.symm nWp)]
      refine z.1 _ _ ?_
      rw [hG, upd_ne (Ne.symm nWp)]
      exact h1
    have kp : Keep p H (upd H' W (.dK wordsF)) := fun b o n e => by
      by_cases eb : b = W
      · subst eb
        rw [upd_same]
        rw [hW] at e
        exact e
      · rw [upd_ne eb]
        refine z.1 _ _ ?_
        rw [hG, upd_ne eb]
        exact m1.keep b o n e
    have hW2 : upd H' W (.dK wordsF) W = some (.dK wordsF) := upd_same
    refine ⟨_, rfl, _, rfl, _, rfl, (by show 1 ≤ sizeLine; decide), ?_⟩
    rw [cut1]
    refine ⟨_, rfl, ?_⟩
    refine for_it walk_str (fun i σ H'' => σ = [some (.ref p), some (.ref W), some (.ref l), some (.str ⟨#[sg.code]⟩), some (.str ⟨#[sg.code]⟩), none, none] ∧ H'' = upd H' W (.dK wordsF)) ⟨rfl, rfl⟩ (fun _ _ _ _ _ => trivial) (fun i x σ HX HY hi pv yy => absurd hi (Nat.not_lt_zero _)) (fun σ HX pv => ?_)
    obtain ⟨rfl, rfl⟩ := pv
    exact ⟨_, rfl, _, rfl, W, _, rfl, (by have g := DGet.k (k := Sum.inr ⟨#[sg.code]⟩) hW2; rw [words_at] at g; exact g), q _ kp hp2⟩
theorem okgrouped (T : WrTxt K mg CW fI) (Y : TxtW K mg w) {fdI : FuncData} (GI : FnOk P w K mg base CX0 1 fI fdI NWr0 (spWr0 CW)) (bI : Binds K fdI NWr0 []) (F : Fun K "grouped" "grouped" sgrouped f fd) : FnOk P w K mg base CX0 3 f fd Pgrouped (spGrouped K CW) := by
  refine F.ok scgrouped (fun vs H Q E h => ?_) (fun cdv A outer s H vs Q E hr h => ?_)
  · obtain ⟨h, v1, v2, s, l, r, rfl, _⟩ := h
    rfl
  obtain ⟨h, v1, v2, sg, l, r, rfl, hh, ⟨a1, dx1, u1, rfl, k1, f1, n1⟩, ⟨a2, dx2, u2, rfl, k2, f2, n2⟩, q⟩ := h
  refine ⟨_, (pss_cons (ps_asg (pv 0) (pg_tup rfl (pgs_cons (pg_name (i := 2) scgrouped.nd rfl (Or.inl rfl)) (pgs_cons (pg_name (i := 3) scgrouped.nd rfl (Or.inl rfl)) pgs_nil))))
  (pss_cons (ps_set (i := 4) scgrouped.nd rfl (Or.inl rfl) (pe_op op_add pe_int (pe_callB (call_max2 rfl) rfl Y.max (by decide +kernel) (pa_cons (pe_fld (pv 2) rfl) (pa_cons (pe_fld (pv 1) rfl) pa_nil)))))
  (pss_cons (ps_set (i := 5) scgrouped.nd rfl (Or.inl rfl) (pe_op op_add (pe_fld (pv 2) rfl) (pe_fld (pv 1) rfl)))
  (pss_cons (ps_if (pt_cmpR op_gt (pv 4) (pe_globE Y.DEEPEST) (nomark _))
    (pss_one (ps_ret (pe_make T.made GI (hr.mono (by decide)) rfl T.g bI .nil pass0 (pa_cons pe_non (pa_cons (pv 4) (pa_cons (pv 5) pa_nil))))))
    pss_nil)
  (pss_one (ps_ret (pe_make T.made GI (hr.mono (by decide)) rfl T.g bI .nil pass0 (pa_cons (pe_tupN (pa_cons (pv 3) (pa_cons (pe_fld (pv 2) rfl) (pa_cons (pe_fld (pv 1) rfl) pa_nil)))) (pa_cons (pv 4) (pa_cons (pv 5) pa_nil)))))))))), ?_⟩
  refine ⟨_, rfl, h, _, rfl, hh, rfl, _, _, rfl, _, _, rfl, rfl, ?_⟩
  refine ⟨_, rfl, _, CW, _, _, _, rfl, k1, T.cl, T.nDepth, wF_depth _ _ _, _, rfl, _, CW, _, _, _, rfl, k2, T.cl, T.nDepth, wF_depth _ _ _, _, _, rfl, _, _, rfl, rfl, ?_⟩
  refine ⟨_, rfl, _, CW, _, _, _, rfl, k1, T.cl, T.nLeaves, wF_leaves _ _ _, _, rfl, _, CW, _, _, _, rfl, k2, T.cl, T.nLeaves, wF_leaves _ _ _, _, _, rfl, rfl, ?_⟩
  have ed : (1 : Int) + (if ((r.dep : Nat) : Int) > ((l.dep : Nat) : Int) then ((r.dep : Nat) : Int) else ((l.dep : Nat) : Int)) = (((FT.node sg l r).dep : Nat) : Int) := by
    show _ = (((1 + max l.dep r.dep : Nat)) : Int)
    by_cases c : ((r.dep : Nat) : Int) > ((l.dep : Nat) : Int)
    · rw [if_pos c]; omega
    · rw [if_neg c]; omega
  dsimp only
  rw [ed]
  have el : ((l.lvs : Nat) : Int) + ((r.lvs : Nat) : Int) = (((FT.node sg l r).lvs : Nat) : Int) := by
    show _ = (((l.lvs + r.lvs : Nat)) : Int)
    omega
  rw [el]
  refine ⟨_, rfl, _, _, rfl, rfl, _, rfl, ?_⟩
  refine ite2 (fun c1 => ?_) (fun c1 => ?_)
  · have c2 : 12 < (FT.node sg l r).dep := by
      have := of_decide_eq_true c1
      omega
    exact ⟨_, rfl, _, rfl, fun x dx nx nd ne => wr_make x dx nx nd ne fun H3 s3 h3 => q H3 _ s3 ⟨x, dx, _, rfl, h3, fun h => absurd h (by omega), fun _ => rfl⟩⟩
  · have c2 : (FT.node sg l r).dep ≤ 12 := Nat.le_of_not_lt fun h => c1 (decide_eq_true (by omega))
    have c3 : 1 + max l.dep r.dep ≤ 12 := c2
    refine ⟨_, rfl, _, rfl, _, CW, _, _, _, rfl, k1, T.cl, T.nForm, wF_form _ _ _, _, rfl, _, CW, _, _, _, rfl, k2, T.cl, T.nForm, wF_form _ _ _, le1k, fun t H2 s2 e2 => ⟨_, rfl, _, rfl, fun x dx nx nd ne => wr_make x dx nx nd ne fun H3 s3 h3 => ?_⟩⟩
    have k : KT H H3 := Same.kt (s2.trans s3)
    exact q H3 _ (s2.trans s3) ⟨x, dx, _, rfl, h3, fun _ => ⟨t, _, _, rfl, (Same.kt s3).seq e2, k.fm l (f1 (by omega)), k.fm r (f2 (by omega))⟩, fun h => absurd h (by omega)⟩
theorem oktold_form (T : WrTxt K mg CW fI) (Y : TxtW K mg w) (F : Fun K "told_form" "told_form" stold_form f fd) : FnOk P w K mg base CX0 1 f fd Ntold_form (spTold K CW) := by
  refine F.ok sctold_form (fun vs H Q E h => ?_) (fun cdv A outer s H vs Q E hr h => ?_)
  · obtain ⟨v, t, rfl, _⟩ := h
    rfl
  obtain ⟨v, t, rfl, ⟨a, dx, u, rfl, k, hf, hn⟩, hd, q⟩ := h
  refine ⟨_, (pss_cons (ps_if (pt_cmpR op_gt (pe_fld (pv 0) rfl) (pe_globE Y.DEEPEST) (nomark _)) (pss_one ps_no) pss_nil) (pss_one (ps_ret (pe_fld (pv 0) rfl)))), ?_⟩
  refine ⟨_, rfl, _, CW, _, _, _, rfl, k, T.cl, T.nDepth, wF_depth _ _ _, _, _, rfl, rfl, _, rfl, ?_⟩
  rw [decide_eq_false (by omega)]
  exact iteF ⟨_, rfl, _, CW, _, _, _, rfl, k, T.cl, T.nForm, wF_form _ _ _, q _ (hf hd)⟩
end
end My

set_option Elab.async false
set_option linter.all false
set_option maxRecDepth 100000
namespace My
open PySem L2
abbrev stake_halved : Stmt := top 20
abbrev Ntake_halved : List Str := ["reader", "words", "begins", "halves", "part", "sign"]
abbrev Ptake_halved : List Str := ["reader", "words"]
theorem sctake_halved : FnScope Ntake_halved Ptake_halved (defScope stake_halved) := ⟨rfl, rfl, rfl, by decide +kernel, rfl, by decide +kernel, by decide +kernel⟩
abbrev stake_form : Stmt := top 21
abbrev Ntake_form : List Str := ["reader"]
abbrev Ptake_form : List Str := ["reader"]
theorem sctake_form : FnScope Ntake_form Ptake_form (defScope stake_form) := ⟨rfl, rfl, rfl, by decide +kernel, rfl, by decide +kernel, by decide +kernel⟩
/-! ### texts of forms, with spaces -/
abbrev spc (k : Nat) : List Nat := List.replicate k 32
inductive Half : FT → List Nat → Prop
  | leaf (co : Bool) (n : List Nat) : isName (Z n) = true → Half (.leaf co n) (leafS co n)
  | node (s : Sg) {l r : FT} (a b c d : Nat) {tl tr : List Nat} : Half l tl → Half r tr → Half (.node s l r) (40 :: (spc a ++ (tl ++ (spc b ++ (s.code :: (spc c ++ (tr ++ (spc d ++ [41]))))))))
inductive Fr where
  | lf (s : Sg) (r : FT)
  | rt (s : Sg) (l : FT)
/-- what stands behind a part, with R behind the whole -/
inductive Tail (R : List Nat) : List Fr → List Nat → Prop
  | nil : Tail R [] R
  | rt1 (s : Sg) (l : FT) : Tail R [.rt s l] R
  | rt (s : Sg) (l : FT) (k : Nat) {f : Fr} {fs : List Fr} {t : List Nat} : Tail R (f :: fs) t → Tail R (.rt s l :: f :: fs) (41 :: (spc k ++ t))
  | lf (s : Sg) (l : FT) (c d : Nat) {r : FT} {tr : List Nat} {fs : List Fr} {t : List Nat} : Half r tr → Tail R (.rt s l :: fs) t → Tail R (.lf s r :: fs) (s.code :: (spc c ++ (tr ++ (spc d ++ t))))
def plug : List Fr → FT → FT
  | [], t => t
  | .lf s r :: fs, t => plug fs (.node s t r)
  | .rt s l :: fs, t => plug fs (.node s l t)
theorem ixN_last {α : Type} (xs : List α) (v : α) : ixN (xs ++ [v]).length (-1) = some xs.length := by
  unfold ixN
  rw [if_neg (by decide), if_pos (by simp only [List.length_append, List.length_cons, List.length_nil]; omega)]
  congr 1
  simp only [List.length_append, List.length_cons, List.length_nil]
  omega
theorem set_last {α : Type} (v u : α) : ∀ xs : List α, (xs ++ [v]).set xs.length u = xs ++ [u]
  | [] => rfl
  | x :: xs => congrArg (x :: ·) (set_last v u xs)
theorem Tail.swap {R : List Nat} {s : Sg} {l l' : FT} {fs : List Fr} {t : List Nat} (h : Tail R (.rt s l :: fs) t) : Tail R (.rt s l' :: fs) t := by
  cases h with
  | rt1 => exact .rt1 s l'
  | rt _ _ k h => exact .rt s l' k h
def zFork : Str := Str.ofString "*|&+"
def zOpen : Str := Str.ofString "("
def zClose : Str := Str.ofString ")"
/-- what stands behind a part -/
def Stops (t : List Nat) : Prop := t.head?.any isLD = false ∧ seesB t zTilde = false ∧ seesB t zSpace = false
theorem Sg.no (s : Sg) : isLD s.code = false ∧ oneOf zTilde s.code = false ∧ oneOf zSpace s.code = false ∧ oneOf zFork s.code = true := by
  cases s <;> decide +kernel
theorem Sg.stops (s : Sg) (t : List Nat) : Stops (s.code :: t) := ⟨s.no.1, s.no.2.1, s.no.2.2.1⟩
theorem Sg.sees (s : Sg) (t : List Nat) : seesLB (s.code :: t) forkC = true := decide_eq_true s.mem
theorem close_stops (t : List Nat) : Stops (41 :: t) := ⟨(by decide +kernel : isLD 41 = false), (by decide +kernel : oneOf zTilde 41 = false), (by decide +kernel : oneOf zSpace 41 = false)⟩
theorem Tail.stops {R : List Nat} {fr : List Fr} {t : List Nat} (hR : Stops R) (h : Tail R fr t) : Stops t := by
  cases h with
  | nil => exact hR
  | rt1 => exact hR
  | rt => exact close_stops _
  | lf s => exact s.stops _
theorem spc_stops {k : Nat} {t : List Nat} (h : Stops t) : (spc k ++ t).head?.any isLD = false ∧ seesB (spc k ++ t) zTilde = false := by
  cases k with
  | zero => exact ⟨h.1, h.2.1⟩
  | succ k => exact ⟨(by decide +kernel : isLD 32 = false), (by decide +kernel : oneOf zTilde 32 = false)⟩
theorem letter_no {c : Nat} (h : isL c = true) : oneOf zOpen c = false ∧ oneOf zSpace c = false := by
  have h2 : c ∈ zLetters.cps.toList := of_decide_eq_true h
  constructor
  · refine decide_eq_false fun hc => ?_
    have e : c = 40 := by
      have : zOpen.cps.toList = [40] := by decide +kernel
      rw [this] at hc
      simpa using hc
    subst e
    exact absurd h2 (by decide +kernel)
  · refine decide_eq_false fun hc => ?_
    have e : c = 32 := by
      have : zSpace.cps.toList = [32] := by decide +kernel
      rw [this] at hc
      simpa using hc
    subst e
    exact absurd h2 (by decide +kernel)
theorem leaf_head {co : Bool} {n t : List Nat} (h : isName (Z n) = true) : seesB (leafS co n ++ t) zOpen = false ∧ seesB (leafS co n ++ t) zSpace = false := by
  cases n with
  | nil => exact absurd h (by decide)
  | cons c n =>
    unfold isName at h
    rw [Bool.and_eq_true, Bool.and_eq_true] at h
    exact letter_no h.2.1
theorem Half.space {t : FT} {txt : List Nat} (h : Half t txt) (r : List Nat) : seesB (txt ++ r) zSpace = false := by
  cases h with
  | leaf co n hn => exact (leaf_head hn).2
  | node => exact (by decide +kernel : oneOf zSpace 40 = false)
/-! ### what stays through the reading -/
def Gd (CW : Addr) (H H' : Hp) : Prop := ∀ a o, (Hard o ∨ ∃ dx u d l, o = wO CW dx u d l) → H a = some o → H' a = some o
section
variable {K : PySem.W.Frag} {CW CR dx : Addr} {H H' : Hp} {p : Addr}
theorem Gd.of_same (s : Same H H') : Gd CW H H' := fun a o _ h => s a o h
theorem Gd.of_keep {pre suf : List Nat} (hp : H p = some (rO CR dx pre suf)) (k : Keep p H H') : Gd CW H H' := fun a o n h => by
  refine k a o (fun e => ?_) h
  subst e
  rw [hp] at h
  have h := Option.some.inj h
  rcases n with n | ⟨_, _, _, _, e⟩
  · subst h
    rcases n with ⟨_, e⟩ | ⟨_, _, e⟩ <;> cases e
  · exact rO_ne_wO (h.trans e)
theorem Gd.of_lst {L : Addr} {xs ys : List V} (hL : H L = some (.lst xs)) : Gd CW H (upd H L (.lst ys)) := fun a o n h => by
  refine (upd_ne (fun e => ?_)).trans h
  subst e
  rw [hL] at h
  have h := Option.some.inj h
  subst h
  rcases n with (⟨_, e⟩ | ⟨_, _, e⟩) | ⟨_, _, _, _, e⟩ <;> cases e
theorem Gd.trans {H1 H2 : Hp} (a : Gd CW H H1) (b : Gd CW H1 H2) : Gd CW H H2 := fun c o n h => b c o n (a c o n h)
theorem Gd.kt (g : Gd CW H H') : KT H H' := fun a o n h => g a o (.inl n) h
theorem Wr.gd {t : FT} {v : V} (g : Gd CW H H') (h : Wr K CW H t v) : Wr K CW H' t v := by
  obtain ⟨a, dx, u, e, h1, h2, h3⟩ := h
  exact ⟨a, dx, u, e, g _ _ (.inr ⟨_, _, _, _, rfl⟩) h1, fun d => g.kt.fm t (h2 d), h3⟩
def FrV (K : PySem.W.Frag) (CW : Addr) (H : Hp) : Fr → V → Prop
  | .lf _ _, v => v = .non
  | .rt s l, v => ∃ h v1, v = .ref h ∧ SqT K H h [v1, .str s.word] ∧ Wr K CW H l v1
theorem FrV.gd (g : Gd CW H H') : ∀ {f : Fr} {v : V}, FrV K CW H f v → FrV K CW H' f v
  | .lf _ _, _, h => h
  | .rt _ _, _, ⟨h, v1, e, hs, hw⟩ => ⟨h, v1, e, g.kt.seq hs, hw.gd g⟩
def Stk (K : PySem.W.Frag) (CW : Addr) (H : Hp) : List Fr → List V → Prop
  | [], xs => xs = [.non]
  | f :: fs, xs => ∃ v vs, xs = v :: vs ∧ FrV K CW H f v ∧ ((fs = [] ∧ vs = []) ∨ (fs ≠ [] ∧ Stk K CW H fs vs))
theorem Stk.gd (g : Gd CW H H') : ∀ {fr : List Fr} {xs : List V}, Stk K CW H fr xs → Stk K CW H' fr xs
  | [], _, h => h
  | f :: fs, _, ⟨v, vs, e, hf, h⟩ => ⟨v, vs, e, hf.gd g, h.imp id fun h => ⟨h.1, h.2.gd g⟩⟩
end
def spTakeHalved (K : PySem.W.Frag) (CR CW : Addr) : Sp := fun vs H Q _ => ∃ (p dx W : Addr) (pre txt rest R : List Nat) (k k2 : Nat) (fr : List Fr) (t : FT), vs = [.ref p, .ref W] ∧ H p = some (rO CR dx pre (spc k ++ (txt ++ (spc k2 ++ rest)))) ∧ H W = some (.dK wordsF) ∧
  Half t txt ∧ Stops R ∧ seesLB R forkC = false ∧ Tail R fr rest ∧ ((fr = [] ∧ ∃ co n, t = .leaf co n) ∨ ∃ s r, fr = [.lf s r]) ∧ (pre ++ (spc k ++ (txt ++ (spc k2 ++ rest)))).length + 2 ≤ sizeLine ∧
  ∀ H' v pre', Keep p H H' → H' p = some (rO CR dx pre' R) → pre' ++ R = pre ++ (spc k ++ (txt ++ (spc k2 ++ rest))) → Wr K CW H' (plug fr t) v → Q v H'
def spTakeForm (K : PySem.W.Frag) (CR CW : Addr) : Sp := fun vs H Q _ => ∃ (p dx : Addr) (pre txt rest R : List Nat) (k k2 : Nat) (fr : List Fr) (t : FT), vs = [.ref p] ∧ H p = some (rO CR dx pre (spc k ++ (txt ++ (spc k2 ++ rest)))) ∧
  Half t txt ∧ Stops R ∧ seesLB R forkC = false ∧ Tail R fr rest ∧ ((fr = [] ∧ ∃ co n, t = .leaf co n) ∨ ∃ s r, fr = [.lf s r]) ∧ (pre ++ (spc k ++ (txt ++ (spc k2 ++ rest)))).length + 2 ≤ sizeLine ∧
  ∀ H' v pre', Keep p H H' → H' p = some (rO CR dx pre' R) → pre' ++ R = pre ++ (spc k ++ (txt ++ (spc k2 ++ rest))) → Wr K CW H' (plug fr t) v → Q v H'
/-- the first signs, all but ~ -/
def flB (i : Nat) : List V := (((wordsF.take i).map fun kv => kV kv.1).filter fun v => !decide (v = .str zTilde))
theorem flB_5 : flB 5 = signsL forkC := by decide +kernel
theorem flB_len (i : Nat) : (flB i).length ≤ 5 := by
  unfold flB
  refine Nat.le_trans (List.length_filter_le _ _) ?_
  rw [List.length_map, List.length_take]
  exact Nat.min_le_right _ _
theorem flB_next {i : Nat} {k : Key} {v : V} (h : wordsF[i]? = some (k, v)) : flB (i + 1) = if kV k = .str zTilde then flB i else flB i ++ [kV k] := by
  unfold flB
  rw [take_next h, List.map_append, List.filter_append]
  by_cases e : kV k = .str zTilde
  · rw [if_pos e]
    simp [e]
  · rw [if_neg e]
    simp [e]
section
variable {P : Program} {w : World} {K : PySem.W.Frag} {mg : Str → Option Value} {base : Heap} {f : Addr} {fd : FuncData} {CR CW fI : Addr}
theorem oktake_halved {R : RdTxt K CR} (T : WrTxt K mg CW fI) (X0 : Txt K mg) (M1 : Mth P w K mg base CR "sees" 1 NRd1 (spSees CR)) (M1L : Mth P w K mg base CR "sees" 1 NRd1 (spSeesL K CR)) (M4 : Mth P w K mg base CR "take" 2 NRd1 (spTake CR))
    (M5 : Mth P w K mg base CR "skip_spaces" 2 NRd2 (spSkip CR)) (Ctake_leaf : Cal P w K mg base "take_leaf" 4 Ptake_leaf (spTakeLeaf K CR CW)) (Cgrouped : Cal P w K mg base "grouped" 3 Pgrouped (spGrouped K CW)) (Ctake_sign : Cal P w K mg base "take_sign" 3 Ptake_sign (spTakeSign K CR))
    (F : Fun K "take_halved" "take_halved" stake_halved f fd) : FnOk P w K mg base CX0 5 f fd Ptake_halved (spTakeHalved K CR CW) := by
  refine F.ok sctake_halved (fun vs H Q E h => ?_) (fun cdv A outer s H vs Q E hr h => ?_)
  · obtain ⟨p, dx, W, pre, txt, rest, R, k, k2, fr, t, rfl, _⟩ := h
    rfl
  obtain ⟨p, dx, W, pre, txt, rest, R0, k, k2, fr, t, rfl, hp, hW, hh, hR, hR2, ht, hfr, hl, q⟩ := h
  refine ⟨_, (pss_cons (ps_lock (ps_setLc (i := 2) (own := [("sign", 5)]) (g := (gName 5)) rfl sctake_halved.nd rfl rfl (sw_true rfl rfl rfl (by decide +kernel)) (pi_keys (pv 1)) (blkOk_by (own := [("sign", 5)]) (N := Ntake_halved) (sc := defScope stake_halved) (by decide +kernel)) (fun _ _ _ _ _ => (pg_name (i := 5) sctake_halved.nd rfl (Or.inl rfl))) (fun _ _ _ _ _ => (pts_one (pt_cmpR op_ne (pv 5) pe_str (nomark _)))) (fun _ _ _ _ _ => (pe_ix ix_str (pv 5) pe_int (fun _ _ => rfl)))))
  (pss_cons (ps_set (i := 3) sctake_halved.nd rfl (Or.inl rfl) (pe_lst (pa_cons pe_non pa_nil)))
  (pss_one (ps_while PassesOwn.never (pt_truth pe_bl (by intro _; rfl))
    (pss_cons (ps_expr (pe_methM0 M5 (pv 0) R.cl hr))
    (pss_cons (ps_if (pt_val (pe_methM M1 (pv 0) R.cl hr (pa_cons pe_str pa_nil)))
      (pss_cons (ps_expr (pe_methM M4 (pv 0) R.cl hr (pa_cons pe_str pa_nil)))
      (pss_cons (ps_expr (pe_bm PySem.F.plainAttrs_list PySem.F.slot_list_append PySem.F.type_list_append mt_append (pv 3) (pa_cons pe_non pa_nil)))
      (pss_one ps_continue)))
      pss_nil)
    (pss_cons (ps_set (i := 4) sctake_halved.nd rfl (Or.inl rfl) (pe_callC Ctake_leaf hr (pa_cons (pv 0) (pa_cons (pv 1) pa_nil))))
    (pss_cons (ps_expr (pe_methM0 M5 (pv 0) R.cl hr))
    (pss_cons (ps_while PassesOwn.never (PW.pt (pw_and (pt_cmpR op_gt (pe_callB call_len rfl X0.len (by decide +kernel) (pa_cons (pv 3) pa_nil)) pe_int (nomark _)) (pw_and1 (pt_cmpR op_notN (pe_ix ix_list (pv 3) (pe_un un_neg pe_int) (fun _ _ => rfl)) pe_non (nomark _)))))
      (pss_cons (ps_expr (pe_methM M4 (pv 0) R.cl hr (pa_cons pe_str pa_nil)))
      (pss_cons (ps_expr (pe_methM0 M5 (pv 0) R.cl hr))
      (pss_one (ps_set (i := 4) sctake_halved.nd rfl (Or.inl rfl) (pe_callC Cgrouped hr (pa_cons (pe_bm0 PySem.F.plainAttrs_list PySem.F.slot_list_pop PySem.F.type_list_pop mt_pop (pv 3)) (pa_cons (pv 4) pa_nil))))))))
    (pss_cons (ps_if (pt_cmpR op_notN (pe_ix ix_list (pv 3) (pe_un un_neg pe_int) (fun _ _ => rfl)) pe_non (nomark _))
      (pss_one (ps_ret (pe_callC Cgrouped hr (pa_cons (pe_ix ix_list (pv 3) (pe_un un_neg pe_int) (fun _ _ => rfl)) (pa_cons (pv 4) pa_nil)))))
      pss_nil)
    (pss_cons (ps_if (PW.pt (pw_and (pt_cmpR op_eq (pe_callB call_len rfl X0.len (by decide +kernel) (pa_cons (pv 3) pa_nil)) pe_int (nomark _)) (pw_and (pt_cmpR op_eq (pe_fld (pv 4) rfl) pe_int (nomark _)) (pw_and1 (pt_not (pt_val (pe_methM M1L (pv 0) R.cl hr (pa_cons (pv 2) pa_nil))))))))
      (pss_one (ps_ret (pv 4)))
      pss_nil)
    (pss_one (ps_asg (pe_tupN (pa_cons (pv 4) (pa_cons (pe_callC Ctake_sign hr (pa_cons (pv 0) (pa_cons (pv 1) (pa_cons (pv 2) pa_nil)))) pa_nil))) (pg_sub (pv 3) (pe_un un_neg pe_int) set_list)))))))))))))), ?_⟩
  have nWp : W ≠ p := fun e => by rw [e, hp] at hW; cases hW
  refine ⟨W, .dK wordsF, hW, trivial, fun od => ?_⟩
  obtain ⟨G, hG⟩ : ∃ G, G = upd H W (.frz od (.dK wordsF)) := ⟨_, rfl⟩
  rw [← hG]
  have gW : G W = some (.frz od (.dK wordsF)) := by rw [hG]; exact upd_same
  refine ⟨_, rfl, W, od, rfl, .inl ⟨wordsF, gW, fun B nB => ?_⟩⟩
  have nBW : B ≠ W := fun e => by rw [e, gW] at nB; cases nB
  have nBH : H B = none := by
    have e := nB
    rw [hG, upd_ne nBW] at e
    exact e
  refine lc_it walk_keys (fun i H' => Same G H' ∧ H' B = some (.lst (flB i))) ⟨same_new nB _, upd_same⟩ (fun i H' _ z => z.1 _ _ gW) (fun i x H2 H3 hi z y => ?_) (fun H' z => ?_)
  · obtain ⟨rfl, kk, v, hk, rfl⟩ := y
    obtain ⟨c, rfl, _⟩ := words_key hk
    refine ⟨rfl, _, rfl, rfl, _, rfl, ?_⟩
    have fn := flB_next hk
    refine ite2 (fun e => ?_) (fun e => ?_)
    · have e' : ¬ kV (.inr ⟨#[c]⟩) = .str zTilde := fun u => by
        have u' : kV (.inr ⟨#[c]⟩) = V.str (Str.ofString "~") := u
        rw [decide_eq_true u'] at e
        cases e
      rw [if_neg e'] at fn
      refine ⟨_, rfl, ⟨#[c]⟩, 0, c, rfl, rfl, (by show 1 ≤ sizeLine; decide), rfl, _, z.2, Nat.lt_of_le_of_lt (flB_len i) (by decide), same_fresh z.1 nB, ?_⟩
      rw [upd_same, fn]
      rfl
    · have e' : kV (.inr ⟨#[c]⟩) = .str zTilde := by
        refine Decidable.byContradiction fun u => e ?_
        have u' : ¬ kV (.inr ⟨#[c]⟩) = V.str (Str.ofString "~") := u
        rw [decide_eq_false u']
        rfl
      rw [if_pos e'] at fn
      refine ⟨z.1, ?_⟩
      rw [fn]
      exact z.2
  refine ⟨z.1 _ _ gW, ?_⟩
  have zB : H' B = some (.lst (signsL forkC)) := by rw [z.2]; exact congrArg (fun u => some (HO.lst u)) flB_5
  have hB1 : upd H' W (.dK wordsF) B = some (.lst (signsL forkC)) := by rw [upd_ne nBW]; exact zB
  have s0 : Same H (upd H' W (.dK wordsF)) := fun b o e => by
    by_cases eb : b = W
    · subst eb
      rw [upd_same]
      rw [hW] at e
      exact e
    · rw [upd_ne eb]
      refine z.1 _ _ ?_
      rw [hG, upd_ne eb]
      exact e
  clear z zB gW hG
  generalize upd H' W (.dK wordsF) = H0 at hB1 s0 ⊢
  clear H' nB G
  have hp := s0 _ _ hp
  have hW := s0 _ _ hW
  have nBp : B ≠ p := fun e => by rw [e, hp] at hB1; cases hB1
  refine ⟨(by show 1 ≤ sizeLine; decide), fun L nL => ?_⟩
  have nLp : L ≠ p := fun e => by rw [e, hp] at nL; cases nL
  have q : ∀ H' v pre', Keep p H0 H' → H' p = some (rO CR dx pre' R0) → pre' ++ R0 = pre ++ (spc k ++ (txt ++ (spc k2 ++ rest))) → Wr K CW H' (plug fr t) v → Q v H' := fun H' v pre' kp => q H' v pre' ((Same.toKeep s0).trans kp)
  obtain ⟨whole, hw⟩ : ∃ whole, whole = pre ++ (spc k ++ (txt ++ (spc k2 ++ rest))) := ⟨_, rfl⟩
  rw [← hw] at hl q
  obtain ⟨T0, hT⟩ : ∃ T0, T0 = plug fr t := ⟨_, rfl⟩
  rw [← hT] at q
  have st0 : Stk K CW (upd H0 L (.lst [.non])) fr [.non] := by
    rcases hfr with ⟨rfl, _⟩ | ⟨s, r, rfl⟩
    · rfl
    · exact ⟨_, _, rfl, rfl, .inl ⟨rfl, rfl⟩⟩
  have hfr2 : fr = [] → ∃ co n, t = .leaf co n := fun e => by
    rcases hfr with ⟨_, h⟩ | ⟨s, r, h⟩
    · exact h
    · rw [h] at e; cases e
  refine ⟨fun m σ H' => ∃ (o : Option V) (fr : List Fr) (t : FT) (pre' txt rest : List Nat) (k k2 : Nat) (xs : List V), σ = [some (.ref p), some (.ref W), some (.ref B), some (.ref L), o, none] ∧ Keep p H0 H' ∧ H' p = some (rO CR dx pre' (spc k ++ (txt ++ (spc k2 ++ rest)))) ∧
    whole = pre' ++ (spc k ++ (txt ++ (spc k2 ++ rest))) ∧ (spc k ++ (txt ++ (spc k2 ++ rest))).length ≤ m ∧ Half t txt ∧ Tail R0 fr rest ∧ (fr = [] → ∃ co n, t = .leaf co n) ∧ T0 = plug fr t ∧ Stk K CW H' fr xs ∧ H' L = some (.lst xs.reverse) ∧ xs.length ≤ pre'.length + 1,
    ⟨_, none, fr, t, pre, txt, rest, k, k2, [.non], rfl, fun b o n e => by rw [upd_ne (fun z => by rw [z, nL] at e; cases e)]; exact e, by rw [upd_ne (Ne.symm nLp)]; exact hp, hw, Nat.le_refl _, hh, ht, hfr2, hT, st0, upd_same, Nat.le_add_left _ _⟩, ?_⟩
  clear hh ht hfr hT hfr2 hw st0 hp
  rintro m σ H' ⟨o, fr, t, pre', txt, rest, k, k2, xs, rfl, kp, hp, hw, hm, hh, ht, hfr, hT, st, hL, hx⟩
  refine ⟨_, rfl, ?_⟩
  refine iteT ?_
  have hl1 : pre'.length + (k + (txt.length + (k2 + rest.length))) + 2 ≤ sizeLine := by
    rw [hw] at hl
    simp only [List.length_append, List.length_replicate] at hl
    exact hl
  refine ⟨_, fun _ _ h => h, ?_⟩
  have gR : Gd CW H' H' := Gd.of_same (Same.refl H')
  refine ⟨_, rfl, p, dx, _, rfl, hp, rF_no, p, dx, pre', txt ++ (spc k2 ++ rest), k, rfl, hp, hh.space _, by simp only [List.length_append, List.length_replicate]; omega, fun H1 m1 h1 => ?_⟩
  replace h1 : H1 p = some (rO CR dx (pre' ++ spc k) (txt ++ (spc k2 ++ rest))) := h1
  have g1 : Gd CW H' H1 := Gd.of_keep hp m1.keep
  have hL1 : H1 L = some (.lst xs.reverse) := by rw [m1 L nLp]; exact hL
  have hw1 : whole = pre' ++ spc k ++ (txt ++ (spc k2 ++ rest)) := by rw [hw, List.append_assoc]
  have hl2 : (pre' ++ spc k).length + (txt ++ (spc k2 ++ rest)).length + 2 ≤ sizeLine := by
    simp only [List.length_append, List.length_replicate]
    omega
  refine ⟨_, rfl, p, dx, _, rfl, h1, rF_no, p, dx, _, _, zOpen, rfl, h1, by omega, _, rfl, ?_⟩
  have hm1 : (txt ++ (spc k2 ++ rest)).length ≤ m := by
    simp only [List.length_append, List.length_replicate] at hm ⊢
    omega
  cases hh with
  | @node s l r a b c d tl tr hl3 hr3 =>
    rw [show seesB (40 :: (spc a ++ (tl ++ (spc b ++ (s.code :: (spc c ++ (tr ++ (spc d ++ [41]))))))) ++ (spc k2 ++ rest)) zOpen = true from (by show oneOf zOpen 40 = true; decide +kernel)]
    obtain ⟨f0, fs, rfl⟩ : ∃ f0 fs, fr = f0 :: fs := by
      cases fr with
      | nil =>
        obtain ⟨_, _, e⟩ := hfr rfl
        cases e
      | cons f0 fs => exact ⟨f0, fs, rfl⟩
    have e0 : 40 :: (spc a ++ (tl ++ (spc b ++ (s.code :: (spc c ++ (tr ++ (spc d ++ [41]))))))) ++ (spc k2 ++ rest) = 40 :: (spc a ++ (tl ++ (spc b ++ (s.code :: (spc c ++ (tr ++ (spc d ++ (41 :: (spc k2 ++ rest))))))))) := by
      simp only [List.append_assoc, List.cons_append, List.nil_append]
    rw [e0] at h1 hw1 hl2 hm1
    refine iteT ⟨_, rfl, p, dx, _, rfl, h1, rF_no, p, dx, _, _, 40, zOpen, rfl, h1, by decide +kernel, by simp only [List.length_cons] at hl2; omega, fun H2 m2 h2 => ?_⟩
    have hL2 : H2 L = some (.lst xs.reverse) := by rw [m2 L nLp]; exact hL1
    have g2 : Gd CW H1 H2 := Gd.of_keep h1 m2.keep
    refine ⟨_, rfl, .inl ⟨rfl, _, SqL.of hL2⟩, L, _, .non, rfl, rfl, hL2, ?_, ?_⟩
    · rw [List.length_reverse]
      have : pre'.length + 2 < sizeLine := by
        simp only [List.length_append, List.length_replicate, List.length_cons] at hl2
        omega
      omega
    refine ⟨(spc a ++ (tl ++ (spc b ++ (s.code :: (spc c ++ (tr ++ (spc d ++ (41 :: (spc k2 ++ rest))))))))).length, ?_, o, .lf s r :: f0 :: fs, l, pre' ++ spc k ++ [40], tl, s.code :: (spc c ++ (tr ++ (spc d ++ (41 :: (spc k2 ++ rest))))), a, b, .non :: xs, rfl, ?_, ?_, ?_, Nat.le_refl _, hl3, .lf s l c d hr3 (.rt s l k2 ht), (fun e => by cases e), hT, ?_, ?_, ?_⟩
    · simp only [List.length_cons] at hm1 ⊢
      omega
    · intro b o' n e
      rw [upd_ne (fun z => by rw [z, nL] at e; cases e)]
      exact ((kp.trans m1.keep).trans m2.keep) b o' n e
    · rw [upd_ne (Ne.symm nLp)]
      exact h2
    · rw [hw1]
      simp only [List.append_assoc, List.cons_append, List.nil_append]
    · exact ⟨.non, xs, rfl, rfl, .inr ⟨(by intro z; cases z), ((st.gd g1).gd g2).gd (Gd.of_lst hL2)⟩⟩
    · rw [upd_same, List.reverse_cons]
    · simp only [List.length_cons, List.length_append, List.length_nil, List.length_replicate]
      omega
  | leaf co n hn =>
    rw [(leaf_head hn).1]
    refine iteF ?_
    have hn0 : 0 < n.length := by
      cases n with
      | nil => exact absurd hn (by decide)
      | cons => exact Nat.succ_pos _
    have ls : n.length ≤ (leafS co n).length := by
      unfold leafS
      rw [List.length_append]
      omega
    refine ⟨_, rfl, _, rfl, p, dx, W, _, n, _, co, rfl, h1, (kp.trans m1.keep) W _ nWp hW, hn, (spc_stops (ht.stops hR)).1, (spc_stops (ht.stops hR)).2, by simp only [List.length_append, List.length_replicate] at hl2 ⊢; omega, fun H2 v kp2 h2 w2 => ?_⟩
    refine ⟨_, rfl, p, dx, _, rfl, h2, rF_no, p, dx, _, rest, k2, rfl, h2, (ht.stops hR).2.2, by simp only [List.length_append, List.length_replicate] at hl2 ⊢; omega, fun H3 m3 h3 => ?_⟩
    replace h3 : H3 p = some (rO CR dx (pre' ++ spc k ++ leafS co n ++ spc k2) rest) := h3
    have g2 : Gd CW H1 H2 := Gd.of_keep h1 kp2
    have g3 : Gd CW H2 H3 := Gd.of_keep h2 m3.keep
    have hL3 : H3 L = some (.lst xs.reverse) := by
      rw [m3 L nLp]
      exact kp2 _ _ nLp hL1
    have k3 : Keep p H0 H3 := ((kp.trans m1.keep).trans kp2).trans m3.keep
    have hw3 : whole = pre' ++ spc k ++ leafS co n ++ spc k2 ++ rest := by rw [hw1]; simp only [List.append_assoc]
    refine ⟨fun m2 σ H' => ∃ (fr : List Fr) (t : FT) (v : V) (pre2 rest : List Nat) (xs : List V), σ = [some (.ref p), some (.ref W), some (.ref B), some (.ref L), some v, none] ∧ Keep p H0 H' ∧ H' p = some (rO CR dx pre2 rest) ∧ whole = pre2 ++ rest ∧ rest.length ≤ m2 ∧ rest.length < m ∧ Tail R0 fr rest ∧ (fr = [] → ∃ co n, t = .leaf co n) ∧
      T0 = plug fr t ∧ Wr K CW H' t v ∧ Stk K CW H' fr xs ∧ H' L = some (.lst xs.reverse) ∧ xs.length ≤ pre2.length + 1, ⟨_, fr, .leaf co n, v, _, rest, xs, rfl, k3, h3, hw3, Nat.le_refl _, ?_, ht, fun _ => ⟨co, n, rfl⟩, hT, w2.gd g3, ((st.gd g1).gd g2).gd g3, hL3, ?_⟩, ?_⟩
    · simp only [List.length_append, List.length_replicate] at hm1
      omega
    · simp only [List.length_append, List.length_replicate]
      omega
    clear hw3 k3 hL3 g3 g2 h3 m3 w2 h2 kp2 v H2 H3 ls hn0 hn hm1 hl2 hw1 hL1 g1 h1 H1 m1 gR hl1 hx hL st hT hfr ht hm hw hp kp H' fr pre' co n xs k k2 rest
    rintro m2 σ H' ⟨fr, t, v, pre2, rest, xs, rfl, kp, hp, hw, hm2, hm, ht, hfr, hT, w1, st, hL, hx⟩
    refine ⟨_, rfl, _, _, rfl, .inl ⟨_, SqL.of hL, rfl⟩, _, _, rfl, rfl, _, rfl, ?_⟩
    have hlw : pre2.length + rest.length + 2 ≤ sizeLine := by
      rw [hw, List.length_append] at hl
      exact hl
    cases fr with
    | nil =>
      have ex : xs = [.non] := st
      subst ex
      obtain rfl : rest = R0 := by cases ht; rfl
      obtain ⟨co, n, rfl⟩ := hfr rfl
      obtain ⟨aw, dw, uw, rfl, kw, hw1, hw2⟩ := w1
      refine iteF ?_
      refine ⟨_, rfl, _, rfl, L, _, _, _, rfl, rfl, SqL.of hL, atI_last [] V.non, rfl, _, rfl, iteF ?_⟩
      refine ⟨_, rfl, _, _, rfl, .inl ⟨_, SqL.of hL, rfl⟩, rfl, _, rfl, ?_⟩
      refine iteT ⟨_, rfl, _, CW, _, _, _, rfl, kw, T.cl, T.nDepth, wF_depth _ _ _, rfl, _, rfl, ?_⟩
      refine iteT ⟨_, rfl, p, dx, _, rfl, hp, rF_no, _, rfl, p, dx, B, _, _, forkC, rfl, hp, SqL.of (kp B _ nBp hB1), by omega, _, rfl, ?_⟩
      rw [hR2]
      refine iteT ?_
      exact ⟨_, rfl, q H' _ _ kp hp hw.symm (by rw [hT]; exact ⟨aw, dw, uw, rfl, kw, hw1, hw2⟩)⟩
    | cons f0 fs =>
      obtain ⟨v0, vs, rfl, hf, hrest⟩ := st
      rw [List.reverse_cons] at hL
      cases f0 with
      | lf s r =>
        cases hf
        cases ht with
        | @lf _ l0 c d _ tr _ t' hr2 ht2 =>
        refine ite2 (fun c1 => ⟨_, rfl, _, rfl, L, _, _, _, rfl, rfl, SqL.of hL, atI_last _ _, rfl, _, rfl, ?_⟩) (fun c1 => ?_)
        all_goals refine iteF ?_
        all_goals refine ⟨_, rfl, _, rfl, L, _, _, _, rfl, rfl, SqL.of hL, atI_last _ _, rfl, _, rfl, iteF ?_⟩
        all_goals obtain ⟨aw, dw, uw, rfl, kw, hw1, hw2⟩ := w1
        all_goals refine ⟨_, rfl, _, _, rfl, .inl ⟨_, SqL.of hL, rfl⟩, rfl, _, rfl, ?_⟩
        all_goals refine ite2 (fun c2 => ⟨_, rfl, _, CW, _, _, _, rfl, kw, T.cl, T.nDepth, wF_depth _ _ _, rfl, _, rfl, ?_⟩) (fun c2 => iteF ?_)
        all_goals first
          | refine ite2 (fun c3 => ⟨_, rfl, p, dx, _, rfl, hp, rF_no, _, rfl, p, dx, B, _, _, forkC, rfl, hp, SqL.of (kp B _ nBp hB1), by omega, _, rfl, ?_⟩) (fun c3 => iteF ?_)
          | skip
        all_goals first
          | (rw [s.sees]; refine iteF ?_)
          | skip
        all_goals refine ⟨_, rfl, _, rfl, _, rfl, _, rfl, p, dx, W, B, pre2, _, s, rfl, hp, kp W _ nWp hW, SqL.of (kp B _ nBp hB1), by simp only [List.length_cons] at hlw; omega, fun H4 k4 h4 => ⟨le1k, fun a H5 s5 e5 => ?_⟩⟩
        all_goals refine ⟨_, rfl, _, rfl, L, _, _, vs.reverse.length, rfl, rfl, s5 _ _ (k4 L _ nLp hL), ixN_last _ _, ?_⟩
        all_goals
          have hL5 : H5 L = some (.lst (vs.reverse ++ [V.non])) := s5 _ _ (k4 L _ nLp hL)
          have g5 : Gd CW H' H5 := (Gd.of_keep hp k4).trans (Gd.of_same s5)
          have g6 : Gd CW H' (upd H5 L (.lst ((vs.reverse ++ [V.non]).set vs.reverse.length (.ref a)))) := g5.trans (Gd.of_lst hL5)
          have hwt : Wr K CW H' t (.ref aw) := ⟨aw, dw, uw, rfl, kw, hw1, hw2⟩
          have kp5 : Keep p H0 (upd H5 L (.lst ((vs.reverse ++ [V.non]).set vs.reverse.length (.ref a)))) := fun b o' n e => by
            rw [upd_ne (fun z => by rw [z, nL] at e; cases e)]
            exact ((kp.trans k4).trans (Same.toKeep s5)) b o' n e
          have hp5 : upd H5 L (.lst ((vs.reverse ++ [V.non]).set vs.reverse.length (.ref a))) p = some (rO CR dx (pre2 ++ [s.code]) (spc c ++ (tr ++ (spc d ++ t')))) := by
            rw [upd_ne (Ne.symm nLp)]
            exact s5 _ _ h4
          have hw5 : whole = pre2 ++ [s.code] ++ (spc c ++ (tr ++ (spc d ++ t'))) := by
            rw [hw]
            simp only [List.append_assoc, List.cons_append, List.nil_append]
          have hlt : (spc c ++ (tr ++ (spc d ++ t'))).length < m := by
            rw [List.length_cons] at hm
            omega
          have hx5 : (V.ref a :: vs).length ≤ (pre2 ++ [s.code]).length + 1 := by
            simp only [List.length_cons, List.length_append, List.length_nil] at hx ⊢
            omega
          have st5 : Stk K CW (upd H5 L (.lst ((vs.reverse ++ [V.non]).set vs.reverse.length (.ref a)))) (.rt s t :: fs) (V.ref a :: vs) := ⟨_, _, rfl, ⟨a, .ref aw, rfl, (Gd.of_lst (CW := CW) hL5).kt.seq e5, hwt.gd g6⟩, hrest.imp id (fun h => ⟨h.1, h.2.gd g6⟩)⟩
        all_goals exact ⟨_, hlt, _, .rt s t :: fs, r, pre2 ++ [s.code], tr, t', c, d, .ref a :: vs, rfl, kp5, hp5, hw5, Nat.le_refl _, hr2, ht2.swap, (fun e => by cases e), hT, st5, by rw [upd_same, set_last, List.reverse_cons], hx5⟩
      | rt s l =>
        obtain ⟨h, v1, rfl, hs, hwl⟩ := hf
        cases fs with
        | nil =>
          have ev : vs = [] := by
            rcases hrest with ⟨_, e⟩ | ⟨e, _⟩
            · exact e
            · exact absurd rfl e
          subst ev
          obtain rfl : rest = R0 := by cases ht; rfl
          refine iteF ?_
          refine ⟨_, rfl, _, rfl, L, _, _, _, rfl, rfl, SqL.of hL, atI_last _ _, rfl, _, rfl, iteT ?_⟩
          refine ⟨_, rfl, _, rfl, L, _, _, _, rfl, rfl, SqL.of hL, atI_last _ _, _, rfl, h, v1, v, s, l, t, rfl, hs, hwl, w1, fun H4 v4 s4 w4 => ?_⟩
          exact q H4 _ _ (kp.trans (Same.toKeep s4)) (s4 _ _ hp) hw.symm (by rw [hT]; exact w4)
        | cons f1 fs =>
          have hst2 : Stk K CW H' (f1 :: fs) vs := by
            rcases hrest with ⟨e, _⟩ | ⟨_, e⟩
            · cases e
            · exact e
          have hvs : 0 < vs.length := by
            obtain ⟨_, _, rfl, _⟩ := hst2
            exact Nat.succ_pos _
          cases ht with
          | @rt _ _ k _ _ t' ht2 =>
          have hlong : (1 : Int) < ((((V.ref h :: vs).reverse).length : Nat) : Int) := by
            simp only [List.length_reverse, List.length_cons]
            omega
          refine ite2 (fun _ => ⟨_, rfl, _, rfl, L, _, _, _, rfl, rfl, SqL.of hL, atI_last _ _, rfl, _, rfl, iteT ?_⟩) (fun c1 => absurd (decide_eq_true hlong) c1)
          refine ⟨_, fun _ _ h => h, ?_⟩
          refine ⟨_, rfl, p, dx, _, rfl, hp, rF_no, p, dx, pre2, _, 41, zClose, rfl, hp, by decide +kernel, by simp only [List.length_cons] at hlw; omega, fun H4 m4 h4 => ?_⟩
          refine ⟨_, rfl, p, dx, _, rfl, h4, rF_no, p, dx, _, t', k, rfl, h4, (ht2.stops hR).2.2, by simp only [List.length_cons, List.length_append, List.length_replicate, List.length_nil] at hlw ⊢; omega, fun H5 m5 h5 => ?_⟩
          have hL5 : H5 L = some (.lst (vs.reverse ++ [V.ref h])) := by rw [m5 L nLp, m4 L nLp]; exact hL
          have g5 : Gd CW H' H5 := (Gd.of_keep hp m4.keep).trans (Gd.of_keep h4 m5.keep)
          have g6 : Gd CW H' (upd H5 L (.lst (vs.reverse ++ [V.ref h]).dropLast)) := g5.trans (Gd.of_lst hL5)
          refine ⟨_, rfl, .inl ⟨rfl, _, SqL.of hL5⟩, L, _, .ref h, rfl, rfl, hL5, by simp, _, rfl, h, v1, v, s, l, t, rfl, g6.kt.seq hs, hwl.gd g6, w1.gd g6, fun H6 v6 s6 w6 => ?_⟩
          refine ⟨t'.length, ?_, f1 :: fs, .node s l t, v6, pre2 ++ [41] ++ spc k, t', vs, rfl, ?_, ?_, ?_, Nat.le_refl _, ?_, ht2, (fun e => by cases e), hT, w6, (hst2.gd g6).gd (Gd.of_same s6), ?_, ?_⟩
          · simp only [List.length_cons, List.length_append, List.length_replicate] at hm2
            omega
          · intro b o' n e
            refine s6 _ _ ?_
            rw [upd_ne (fun z => by rw [z, nL] at e; cases e)]
            exact ((kp.trans m4.keep).trans m5.keep) b o' n e
          · refine s6 _ _ ?_
            rw [upd_ne (Ne.symm nLp)]
            exact h5
          · rw [hw]
            simp only [List.append_assoc, List.cons_append, List.nil_append]
          · simp only [List.length_cons, List.length_append, List.length_replicate] at hm
            omega
          · refine s6 _ _ ?_
            rw [upd_same, List.dropLast_concat]
          · simp only [List.length_cons, List.length_append, List.length_replicate] at hx ⊢
            omega
theorem oktake_form (Y : TxtW K mg w) (Ctake_halved : Cal P w K mg base "take_halved" 5 Ptake_halved (spTakeHalved K CR CW)) (F : Fun K "take_form" "take_form" stake_form f fd) : FnOk P w K mg base CX0 6 f fd Ptake_form (spTakeForm K CR CW) := by
  refine F.ok sctake_form (fun vs H Q E h => ?_) (fun cdv A outer s H vs Q E hr h => ?_)
  · obtain ⟨p, dx, pre, txt, rest, R, k, k2, fr, t, rfl, _⟩ := h
    rfl
  obtain ⟨p, dx, pre, txt, rest, R, k, k2, fr, t, rfl, hp, hh, hR, hR2, ht, hfr, hl, q⟩ := h
  refine ⟨_, (pss_one (ps_ret (pe_callC Ctake_halved hr (pa_cons (pv 0) (pa_cons (pe_callTy call_dictS rfl Y.dict (by decide +kernel) (pa_cons (pe_globE Y.FORM_WORDS) pa_nil)) pa_nil))))), ?_⟩
  refine ⟨_, rfl, _, wordsF, rfl, Y.dFW, fun W nW => ?_⟩
  have s1 := same_new nW (.dK wordsF)
  exact ⟨p, dx, W, pre, txt, rest, R, k, k2, fr, t, rfl, s1 _ _ hp, upd_same, hh, hR, hR2, ht, hfr, hl, fun H' v pre' kp => q H' v pre' ((Same.toKeep s1).trans kp)⟩
end
end My

set_option Elab.async false
set_option linter.all false
set_option maxRecDepth 100000
namespace My
open PySem L2
abbrev Nis_leaf : List Str := ["form"]
abbrev scheck_text : Stmt := top 13
abbrev Ncheck_text : List Str := ["text"]
theorem sccheck_text : FnScope Ncheck_text Ncheck_text (defScope scheck_text) := ⟨rfl, rfl, rfl, by decide +kernel, rfl, by decide +kernel, by decide +kernel⟩
abbrev Nread_form : List Str := ["text", "reader", "part"]
structure CalX (P : Program) (w : World) (K : PySem.W.Frag) (mg : Str → Option Value) (base : Heap) (x : Str) (k : Nat) (ps : List Str) (sp : Sp) where
  f : Addr
  fd : FuncData
  ok : FnOk P w K mg base (L2.CX P w) k f fd ps sp
  m : mg x = some (.ref f)
  kp : PySem.W.keepIn K (.ref f) = true
  b : Binds K fd ps []
/-- the text of a form; of a half -/
def wrt : Bool → FT → List Nat
  | _, .leaf co n => leafS co n
  | false, .node s l r => wrt true l ++ (32 :: s.code :: 32 :: wrt true r)
  | true, .node s l r => 40 :: (wrt true l ++ (32 :: s.code :: 32 :: wrt true r) ++ [41])
def FT.isLeaf : FT → Bool | .leaf _ _ => true | .node _ _ _ => false
def isDictV (H : Hp) (v : V) : Prop := ∃ (a : Addr) (kvs : List (Key × V)), v = .ref a ∧ H a = some (.dK kvs)
def badE (C : Addr) (fld : Str) (v : V) (H : Hp) (E : XK) : Prop := ∀ (d : Addr) (H' : Hp), Same H H' → H' d = none → E (.ref C) (some d) (upd H' d (.xd [(fld, v)]))
def spLeafT (K : PySem.W.Frag) : Sp := fun vs H Q _ => ∃ v t, vs = [v] ∧ Fm K H t v ∧ Q (.bl t.isLeaf) H
def spWritten (K : PySem.W.Frag) (h : Bool) (n : Nat) : Sp := fun vs H Q _ => ∃ v t, vs = [v] ∧ Fm K H t v ∧ t.dep < n ∧ (wrt h t).length + 10 ≤ sizeLine ∧ Q (.str (Z (wrt h t))) H
def spToldX (K : PySem.W.Frag) (CW CD : Addr) : Sp := fun vs H Q E => ∃ (v : V) (t : FT), vs = [v] ∧ Wr K CW H t v ∧ (t.dep ≤ 12 → ∀ u, Fm K H t u → Q u H) ∧ (12 < t.dep → badE CD "most" (.int 12) H E)
def spCheckForm (K : PySem.W.Frag) (CB : Addr) : Sp := fun vs H Q E => ∃ v, vs = [v] ∧ ((∃ D, Dp K H v D ∧ (∀ z, D = .str z → z.length ≤ 1000) ∧ shortD D = true ∧ D.depth ≤ 60 ∧ (isForm 12 D = true → ∀ H', Same H H' → Q .non H') ∧ (isForm 12 D = false → badE CB "value" v H E)) ∨ (isDictV H v ∧ badE CB "value" v H E))
def spCheckText (K : PySem.W.Frag) (CB : Addr) : Sp := fun vs H Q E => ∃ v, vs = [v] ∧ ((∃ D, Dp K H v D ∧ (isStrD D = true → Q .non H) ∧ (isStrD D = false → badE CB "value" v H E)) ∨ (isDictV H v ∧ badE CB "value" v H E))
structure TxtS (K : PySem.W.Frag) (mg : Str → Option Value) (w : World) where
  aWS : Addr
  WORD_SIGNS : ∃ u, mg "WORD_SIGNS" = some u ∧ RelV (.ref aWS) u
  kWS : ∀ s : Sg, KDct K w aWS s.word (.str ⟨#[s.code]⟩)
theorem Z_cat (a b : List Nat) : Z a ++ Z b = Z (a ++ b) := by
  have : (Z a ++ Z b).cps.toList = (Z (a ++ b)).cps.toList := TL.tl_append (Z a) (Z b)
  exact TL.ext_tl this
section
variable {P : Program} {w : World} {K : PySem.W.Frag} {mg : Str → Option Value} {base : Heap} {f : Addr} {fd : FuncData} {CR CW fI : Addr}
theorem okcheck_text {CB : Addr} (T : Txt K mg) (O : OneE P w K mg base "BadValue" "value" CB) (F : Fun K "check_text" "check_text" scheck_text f fd) : FnOk P w K mg base (L2.CX P w) 4 f fd Ncheck_text (spCheckText K CB) := by
  refine F.okX sccheck_text (fun vs H Q E h => ?_) (fun cdv A outer s H vs Q E hr h => ?_)
  · obtain ⟨v, rfl, _⟩ := h
    rfl
  obtain ⟨v, rfl, h⟩ := h
  refine ⟨_, (pss_one (ps_if (pt_not (pt_val (pe_callB call_isi rfl T.isinstance (by decide +kernel) (pa_cons (pv 0) (pa_cons (pe_bltn (v := .ty "str") rfl T.str (by decide +kernel) rfl) pa_nil)))))
    (pss_one (ps_raise1 (k := 0) O rfl (hr.mono (by decide)) (takes_of rfl rfl rfl rfl) (pv 0)))
    pss_nil)), ?_⟩
  rcases h with ⟨D, hv, q1, q2⟩ | ⟨⟨a, kvs, rfl, ha⟩, q⟩
  · refine ⟨_, rfl, _, _, _, _, _, rfl, .ty "str", tyx_of hv, kit_str D, _, rfl, ?_⟩
    cases c : isStrD D with
    | true => exact iteF (q1 c)
    | false => exact iteT ⟨_, rfl, mk_one O.oex O.no fun d nd => q2 c d H (Same.refl H) nd⟩
  · exact ⟨_, rfl, _, _, _, _, _, rfl, .ty "str", .base (.dK ha), kit_dict_str, _, rfl, iteT ⟨_, rfl, mk_one O.oex O.no fun d nd => q d H (Same.refl H) nd⟩⟩
theorem oktold_formX {CD : Addr} (T : WrTxt K mg CW fI) (Y : TxtW K mg w) (O : OneE P w K mg base "TooDeep" "most" CD) (F : Fun K "told_form" "told_form" stold_form f fd) : FnOk P w K mg base (L2.CX P w) 4 f fd Ntold_form (spToldX K CW CD) := by
  refine F.okX sctold_form (fun vs H Q E h => ?_) (fun cdv A outer s H vs Q E hr h => ?_)
  · obtain ⟨v, t, rfl, _⟩ := h
    rfl
  obtain ⟨v, t, rfl, ⟨a, dx, u, rfl, k, hf, hn⟩, q1, q2⟩ := h
  refine ⟨_, (pss_cons (ps_if (pt_cmpR op_gt (pe_fld (pv 0) rfl) (pe_globE Y.DEEPEST) (nomark _)) (pss_one (ps_raise1 (k := 0) O rfl (hr.mono (by decide)) (takes_of rfl rfl rfl rfl) (pe_globE Y.DEEPEST))) pss_nil) (pss_one (ps_ret (pe_fld (pv 0) rfl)))), ?_⟩
  refine ⟨_, rfl, _, CW, _, _, _, rfl, k, T.cl, T.nDepth, wF_depth _ _ _, _, _, rfl, rfl, _, rfl, ?_⟩
  by_cases c : 12 < t.dep
  · rw [decide_eq_true (by omega)]
    exact iteT (mk_one O.oex O.no fun d nd => q2 c d H (Same.refl H) nd)
  · rw [decide_eq_false (by omega)]
    exact iteF ⟨_, rfl, _, CW, _, _, _, rfl, k, T.cl, T.nForm, wF_form _ _ _, q1 (by omega) _ (hf (by omega))⟩
end
end My

set_option Elab.async false
set_option linter.all false
set_option maxRecDepth 100000
namespace My
open PySem L2
/-- a text of this form -/
def TxR (R : List Nat) (T0 : FT) (cs : List Nat) : Prop := ∃ (k k2 : Nat) (txt rest : List Nat) (fr : List Fr) (t : FT), cs = spc k ++ (txt ++ (spc k2 ++ rest)) ∧ Half t txt ∧ Tail R fr rest ∧ ((fr = [] ∧ ∃ co n, t = .leaf co n) ∨ ∃ s r, fr = [.lf s r]) ∧ T0 = plug fr t
def Tx (T0 : FT) (cs : List Nat) : Prop := TxR [] T0 cs
def spReadForm (K : PySem.W.Frag) (CB CD : Addr) : Sp := fun vs H Q E => ∃ v, vs = [v] ∧ ((∃ T0 cs, v = .str (Z cs) ∧ Tx T0 cs ∧ cs.length + 12 ≤ sizeLine ∧ (T0.dep ≤ 12 → ∀ H' u, Same H H' → Fm K H' T0 u → Q u H') ∧ (12 < T0.dep → badE CD "most" (.int 12) H E)) ∨
  (∃ D, Dp K H v D ∧ isStrD D = false ∧ badE CB "value" v H E) ∨ (isDictV H v ∧ badE CB "value" v H E))
def spFormText (K : PySem.W.Frag) (CB : Addr) : Sp := fun vs H Q E => ∃ v, vs = [v] ∧ ((∃ t, Fm K H t v ∧ t.dep ≤ 12 ∧ t.Ok ∧ (wrt false t).length + 10 ≤ sizeLine ∧ ∀ H', Same H H' → Q (.str (Z (wrt false t))) H') ∨
  (∃ D, Dp K H v D ∧ (∀ z, D = .str z → z.length ≤ 1000) ∧ shortD D = true ∧ D.depth ≤ 60 ∧ isForm 12 D = false ∧ badE CB "value" v H E) ∨ (isDictV H v ∧ badE CB "value" v H E))
structure RdTxt2 (K : PySem.W.Frag) (mg : Str → Option Value) (CR fI : Addr) : Prop where
  made : Mk K CR fI
  g : mg "Reader" = some (.ref CR)
section
variable {P : Program} {w : World} {K : PySem.W.Frag} {mg : Str → Option Value} {base : Heap} {f : Addr} {fd : FuncData} {CR CW fI : Addr}
theorem badE.same {C : Addr} {fld : Str} {v : V} {H H1 : Hp} {E : XK} (b : badE C fld v H E) (s : Same H H1) : badE C fld v H1 E := fun d H' s' n => b d H' (s.trans s') n
end
end My

set_option Elab.async false
set_option linter.all false
set_option maxRecDepth 100000
namespace My
open PySem L2
/-! ### texts that forms have -/
theorem wrt_half : ∀ t : FT, t.Ok → Half t (wrt true t)
  | .leaf co n, h => .leaf co n h
  | .node s l r, h => by
    have := Half.node s 0 1 1 0 (wrt_half l h.1) (wrt_half r h.2)
    have e : wrt true (.node s l r) = 40 :: (spc 0 ++ (wrt true l ++ (spc 1 ++ (s.code :: (spc 1 ++ (wrt true r ++ (spc 0 ++ [41]))))))) := by
      show 40 :: (wrt true l ++ (32 :: s.code :: 32 :: wrt true r) ++ [41]) = _
      simp only [List.append_assoc, List.replicate_succ, List.replicate_zero, List.nil_append, List.cons_append]
    rw [e]
    exact this
theorem wrt_tx (t : FT) (h : t.Ok) : Tx t (wrt false t) := by
  cases t with
  | leaf co n =>
    refine ⟨0, 0, leafS co n, [], [], .leaf co n, ?_, .leaf co n h, .nil, .inl ⟨rfl, co, n, rfl⟩, rfl⟩
    show leafS co n = _
    simp only [List.replicate_zero, List.nil_append, List.append_nil]
  | node s l r =>
    refine ⟨0, 1, wrt true l, _, [.lf s r], l, ?_, wrt_half l h.1, .lf s l 1 0 (wrt_half r h.2) (.rt1 s l), .inr ⟨s, r, rfl⟩, rfl⟩
    show wrt true l ++ (32 :: s.code :: 32 :: wrt true r) = _
    simp only [List.replicate_succ, List.replicate_zero, List.nil_append, List.cons_append, List.append_nil]
/-- tokens, with spaces between -/
inductive Gp : List (List Nat) → List Nat → Prop
  | nil (k : Nat) : Gp [] (spc k)
  | cons (k : Nat) {t : List Nat} {ts : List (List Nat)} {cs : List Nat} : Gp ts cs → Gp (t :: ts) (spc k ++ (t ++ cs))
def toks : Bool → FT → List (List Nat)
  | _, .leaf co n => [leafS co n]
  | false, .node s l r => toks true l ++ ([s.code] :: toks true r)
  | true, .node s l r => [40] :: (toks true l ++ ([s.code] :: toks true r) ++ [[41]])
theorem gp_half : ∀ (t : FT) {ts : List (List Nat)} {cs : List Nat}, t.Ok → Gp (toks true t ++ ts) cs → ∃ k txt cs', cs = spc k ++ (txt ++ cs') ∧ Half t txt ∧ Gp ts cs'
  | .leaf co n, ts, cs, h, g => by
    cases g with
    | cons k g => exact ⟨k, _, _, rfl, .leaf co n h, g⟩
  | .node s l r, ts, cs, h, g => by
    have e : toks true (.node s l r) ++ ts = [40] :: (toks true l ++ ([s.code] :: (toks true r ++ ([41] :: ts)))) := by
      show ([40] :: (toks true l ++ ([s.code] :: toks true r) ++ [[41]])) ++ ts = _
      simp only [List.append_assoc, List.cons_append, List.nil_append]
    rw [e] at g
    cases g with
    | cons k g =>
      obtain ⟨a, tl, c1, rfl, hl, g1⟩ := gp_half l h.1 g
      cases g1 with
      | @cons b _ _ c2 g2 =>
        obtain ⟨c, tr, c3, rfl, hr, g3⟩ := gp_half r h.2 g2
        cases g3 with
        | @cons d _ _ c4 g4 =>
          refine ⟨k, _, c4, ?_, .node s a b c d hl hr, g4⟩
          simp only [List.append_assoc, List.cons_append, List.nil_append]
theorem gp_tx (t : FT) {cs : List Nat} (h : t.Ok) (g : Gp (toks false t) cs) : Tx t cs := by
  cases t with
  | leaf co n =>
    cases g with
    | cons k g =>
      cases g with
      | nil k2 =>
        refine ⟨k, k2, leafS co n, [], [], .leaf co n, ?_, .leaf co n h, .nil, .inl ⟨rfl, co, n, rfl⟩, rfl⟩
        rw [List.append_nil]
  | node s l r =>
    have e : toks false (.node s l r) = toks true l ++ ([s.code] :: (toks true r ++ [])) := by rw [List.append_nil]; rfl
    rw [e] at g
    obtain ⟨a, tl, c1, rfl, hl, g1⟩ := gp_half l h.1 g
    cases g1 with
    | @cons b _ _ c2 g2 =>
      obtain ⟨c, tr, c3, rfl, hr, g3⟩ := gp_half r h.2 g2
      cases g3 with
      | nil d =>
        refine ⟨a, b, tl, _, [.lf s r], l, ?_, hl, .lf s l c d hr (.rt1 s l), .inr ⟨s, r, rfl⟩, rfl⟩
        rw [List.append_nil]
        rfl
theorem gp_flat : ∀ ts : List (List Nat), Gp ts ts.flatten
  | [] => .nil 0
  | t :: ts => by
    have := Gp.cons 0 (t := t) (gp_flat ts)
    rw [List.flatten_cons]
    exact this
theorem half_inner {s : Sg} {l r : FT} {txt : List Nat} (h : Half (.node s l r) txt) : ∃ body, txt = 40 :: (body ++ [41]) ∧ Tx (.node s l r) body := by
  cases h with
  | @node _ _ _ a b c d tl tr hl hr =>
    refine ⟨spc a ++ (tl ++ (spc b ++ (s.code :: (spc c ++ (tr ++ spc d))))), ?_, a, b, tl, _, [.lf s r], l, ?_, hl, .lf s l c d hr (.rt1 s l), .inr ⟨s, r, rfl⟩, rfl⟩
    · simp only [List.append_assoc, List.cons_append, List.nil_append]
    · rw [List.append_nil]
/-- forms within forms -/
def deepL (a : FT) : Nat → FT → FT
  | 0, t => t
  | n + 1, t => .node .mul a (deepL a n t)
def deepR (b : FT) : Nat → FT → FT
  | 0, t => t
  | n + 1, t => .node .amp (deepR b n t) b
def reps (n : Nat) (x : List Nat) : List Nat := (List.replicate n x).flatten
theorem reps_succ (n : Nat) (x : List Nat) : reps (n + 1) x = x ++ reps n x := by
  unfold reps
  rw [List.replicate_succ, List.flatten_cons]
theorem reps_succ' (n : Nat) (x : List Nat) : reps (n + 1) x = reps n x ++ x := by
  unfold reps
  rw [List.replicate_succ', List.flatten_append, List.flatten_cons, List.flatten_nil, List.append_nil]
def ltA : List Nat := [40, 97, 32, 42, 32]
def rtB : List Nat := [32, 38, 32, 98, 126, 41]
def ftA : FT := .leaf false [97]
def ftB : FT := .leaf true [98]
theorem half_deepL (t : FT) {txt : List Nat} (h : Half t txt) : ∀ n, Half (deepL ftA n t) (reps n ltA ++ (txt ++ reps n [41]))
  | 0 => by
    show Half t ([] ++ (txt ++ []))
    rw [List.nil_append, List.append_nil]
    exact h
  | n + 1 => by
    have := Half.node .mul 0 1 1 0 (Half.leaf false [97] (by decide +kernel)) (half_deepL t h n)
    rw [reps_succ, reps_succ']
    have e : ltA ++ reps n ltA ++ (txt ++ (reps n [41] ++ [41])) = 40 :: (spc 0 ++ (leafS false [97] ++ (spc 1 ++ (Sg.mul.code :: (spc 1 ++ ((reps n ltA ++ (txt ++ reps n [41])) ++ (spc 0 ++ [41]))))))) := by
      show [40, 97, 32, 42, 32] ++ reps n ltA ++ (txt ++ (reps n [41] ++ [41])) = 40 :: ([] ++ ([97] ++ ([32] ++ (42 :: ([32] ++ ((reps n ltA ++ (txt ++ reps n [41])) ++ ([] ++ [41])))))))
      simp only [List.append_assoc, List.cons_append, List.nil_append]
    rw [e]
    exact this
theorem half_deepR (t : FT) {txt : List Nat} (h : Half t txt) : ∀ n, Half (deepR ftB n t) (reps n [40] ++ (txt ++ reps n rtB))
  | 0 => by
    show Half t ([] ++ (txt ++ []))
    rw [List.nil_append, List.append_nil]
    exact h
  | n + 1 => by
    have := Half.node .amp 0 1 1 0 (half_deepR t h n) (Half.leaf true [98] (by decide +kernel))
    rw [reps_succ, reps_succ']
    have e : [40] ++ reps n [40] ++ (txt ++ (reps n rtB ++ rtB)) = 40 :: (spc 0 ++ ((reps n [40] ++ (txt ++ reps n rtB)) ++ (spc 1 ++ (Sg.amp.code :: (spc 1 ++ (leafS true [98] ++ (spc 0 ++ [41]))))))) := by
      show [40] ++ reps n [40] ++ (txt ++ (reps n rtB ++ [32, 38, 32, 98, 126, 41])) = 40 :: ([] ++ ((reps n [40] ++ (txt ++ reps n rtB)) ++ ([32] ++ (38 :: ([32] ++ ([98, 126] ++ ([] ++ [41])))))))
      simp only [List.append_assoc, List.cons_append, List.nil_append]
    rw [e]
    exact this
theorem deepL_dep (a : FT) (ha : a.dep = 0) (t : FT) : ∀ n, (deepL a n t).dep = n + t.dep
  | 0 => by show t.dep = _; omega
  | n + 1 => by
    show 1 + max a.dep (deepL a n t).dep = _
    rw [deepL_dep a ha t n, ha]
    omega
theorem deepR_dep (b : FT) (hb : b.dep = 0) (t : FT) : ∀ n, (deepR b n t).dep = n + t.dep
  | 0 => by show t.dep = _; omega
  | n + 1 => by
    show 1 + max (deepR b n t).dep b.dep = _
    rw [deepR_dep b hb t n, hb]
    omega
/-! ### forms as data -/
theorem sg_of {w : Str} (h : w ∈ halfW) : ∃ s : Sg, w = s.word := by
  unfold halfW at h
  simp only [List.mem_cons, List.not_mem_nil, or_false] at h
  rcases h with rfl | rfl | rfl | rfl
  · exact ⟨.mul, rfl⟩
  · exact ⟨.bar, rfl⟩
  · exact ⟨.amp, rfl⟩
  · exact ⟨.plus, rfl⟩
theorem leaf_of {w : Str} (h : w ∈ leafW) : ∃ co, w = leafZ co := by
  unfold leafW at h
  simp only [List.mem_cons, List.not_mem_nil, or_false] at h
  rcases h with rfl | rfl
  · exact ⟨false, rfl⟩
  · exact ⟨true, rfl⟩
theorem ft_of : ∀ {k : Nat} {D : PyData}, isForm k D = true → ∃ t : FT, D = t.data ∧ t.Ok ∧ t.dep ≤ k := by
  intro k
  induction k with
  | zero =>
    intro D h
    rcases isForm_inv h with ⟨w, n, rfl, hw, hn⟩ | ⟨j, w, a, b, e, _⟩
    · obtain ⟨co, rfl⟩ := leaf_of hw
      exact ⟨.leaf co n.cps.toList, rfl, hn, Nat.le_refl _⟩
    · cases e
  | succ k ih =>
    intro D h
    rcases isForm_inv h with ⟨w, n, rfl, hw, hn⟩ | ⟨j, w, a, b, e, rfl, hw, ha, hb⟩
    · obtain ⟨co, rfl⟩ := leaf_of hw
      exact ⟨.leaf co n.cps.toList, rfl, hn, Nat.zero_le _⟩
    · cases e
      obtain ⟨s, rfl⟩ := sg_of hw
      obtain ⟨l, rfl, ol, dl⟩ := ih ha
      obtain ⟨r, rfl, or', dr⟩ := ih hb
      exact ⟨.node s l r, rfl, ⟨ol, or'⟩, by show 1 + max l.dep r.dep ≤ k + 1; omega⟩
theorem fm_of_dp {K : PySem.W.Frag} {H : Hp} : ∀ (t : FT) {v : V}, Dp K H v t.data → Fm K H t v
  | .leaf co n, v, h => by
    cases h with | tup hT hA => cases hA with | cons h1 hA => cases hA with | cons h2 hN =>
    cases hN
    cases h1
    cases h2
    exact ⟨_, rfl, hT⟩
  | .node s l r, v, h => by
    cases h with | tup hT hA => cases hA with | cons h1 hA => cases hA with | cons h2 hA => cases hA with | cons h3 hN =>
    cases hN
    cases h1
    exact ⟨_, _, _, rfl, hT, fm_of_dp l h2, fm_of_dp r h3⟩
end My

set_option Elab.async false
set_option linter.all false
set_option maxRecDepth 100000
namespace My
open PySem PySem.Spec PyProof.Rows L2 SX
section
variable {X : Cx}
def rMulT : R2 := fun x y H Q => ∃ (cs : List Nat) (n : Nat), x = .str (Z cs) ∧ y = .int n ∧ cs.length ≤ 16 ∧ n ≤ 2000 ∧ Q (.str (Z (reps n cs))) H
theorem fold_list (a : Array Nat) : ∀ (k : Nat) (b : Array Nat), ((List.replicate k a).foldl (· ++ ·) b).toList = b.toList ++ reps k a.toList
  | 0, b => by
    show b.toList = b.toList ++ []
    rw [List.append_nil]
  | k + 1, b => by
    rw [List.replicate_succ, List.foldl_cons, fold_list a k (b ++ a), reps_succ, Array.toList_append, List.append_assoc]
theorem mul_Z (cs : List Nat) (n : Nat) : Txt.mul (Z cs) (n : Int) = Z (reps n cs) := by
  unfold Txt.mul
  by_cases h0 : (n : Int) < 1
  · have e : n = 0 := by omega
    subst e
    rw [if_pos h0]
    rfl
  · rw [if_neg h0]
    by_cases h1 : ((n : Int) == 1 || (Z cs).length == 0) = true
    · rw [if_pos h1]
      rw [Bool.or_eq_true] at h1
      rcases h1 with h1 | h1
      · have e : n = 1 := by have := eq_of_beq h1; omega
        subst e
        show Z cs = Z (reps 1 cs)
        rw [reps_succ]
        show Z cs = Z (cs ++ [])
        rw [List.append_nil]
      · have e : cs = [] := by
          have := eq_of_beq h1
          rw [Z_len] at this
          exact List.eq_nil_of_length_eq_zero this
        subst e
        have : ∀ n, reps n [] = [] := fun n => by
          induction n with
          | zero => rfl
          | succ n ih => rw [reps_succ, ih]; rfl
        rw [this]
    · rw [if_neg h1]
      refine TL.ext_tl ?_
      show ((List.replicate (n : Int).toNat (Z cs).cps).foldl (· ++ ·) #[]).toList = reps n cs
      rw [fold_list]
      rfl
theorem op_mulT : OpR X (binaryOp .Mult) rMulT := by
  intro pins s σ H x y v u Q I rx ry ⟨cs, n, ex, ey, hz, hn, q⟩
  subst ex ey
  obtain ⟨t, rfl⟩ := rx
  obtain ⟨t2, rfl⟩ := ry
  exact PySem.SB.mul (mulOk_of 16 2000 (by rw [Z_len]; exact hz) (by omega) (by omega) (by decide) (by decide)) fun t' k => ⟨.str (Txt.mul (Z cs) n), H, I.tok _, ⟨_, rfl⟩, by rw [mul_Z]; exact q⟩
end
abbrev N_law_form_text : List Str := ["_law_form", "_law_is_half", "_law_sign", "_law_text"]
abbrev P_law_form_text : List Str := ["_law_form", "_law_is_half"]
def spLText (K : PySem.W.Frag) (n : Nat) : Sp := fun vs H Q _ => ∃ (v : V) (t : FT) (h : Bool), vs = [v, .bl h] ∧ Fm K H t v ∧ t.dep < n ∧ (wrt true t).length + 20 ≤ sizeLine ∧ ∀ H', Same H H' → Q (.str (Z (wrt h t))) H'
def signD : List (Key × V) := [(.inr "both", .str "*"), (.inr "between", .str "|"), (.inr "offered", .str "&"), (.inr "chosen", .str "+")]
theorem signD_get (s : Sg) : valV (mergeK [] signD) (.inr s.word) = some (.str (Z [s.code])) := by cases s <;> rfl
theorem sl {n m : Nat} (a : List Nat) (b : List Nat) (h : a.length + b.length ≤ sizeLine) : (Z a).length + (Z b).length ≤ sizeLine := by rw [Z_len, Z_len]; exact h
theorem leafS_eq (co : Bool) (n : List Nat) : leafS co n = n ++ reps (if co then 1 else 0) [126] := by cases co <;> rfl
theorem wrt_short (h : Bool) (t : FT) : (wrt h t).length ≤ (wrt true t).length := by
  cases t with
  | leaf co n => cases h <;> exact Nat.le_refl _
  | node s l r =>
    cases h with
    | true => exact Nat.le_refl _
    | false =>
      show (wrt true l ++ (32 :: s.code :: 32 :: wrt true r)).length ≤ (40 :: (wrt true l ++ (32 :: s.code :: 32 :: wrt true r) ++ [41])).length
      simp only [List.length_append, List.length_cons, List.length_nil]
      omega
theorem same_disp {H : Hp} {p : Addr} {o o' : HO} (n : H p = none) : Same H (upd (upd H p o) p o') := fun b u e => by
  rw [upd_ne (ne_of_none e n), upd_ne (ne_of_none e n)]
  exact e
section
variable {P : Program} {w : World} {K : PySem.W.Frag} {mg : Str → Option Value} {base : Heap} {f : Addr} {fd : FuncData} {CR CW fI : Addr}
end
end My

set_option Elab.async false
set_option linter.all false
set_option maxRecDepth 100000
namespace My
open PySem L2
abbrev s_law_tokens : Stmt := top 44
abbrev N_law_tokens : List Str := ["_law_form", "_law_is_half", "_law_sign", "_law_tokens_here"]
theorem sc_law_tokens : FnScope N_law_tokens P_law_form_text (defScope s_law_tokens) := ⟨rfl, rfl, rfl, by decide +kernel, rfl, by decide +kernel, by decide +kernel⟩
abbrev s_law_spaced : Stmt := top 45
abbrev N_law_spaced : List Str := ["_law_pen", "_law_tokens_here", "_law_most", "_law_out", "_law_token"]
abbrev P_law_spaced : List Str := ["_law_pen", "_law_tokens_here"]
theorem sc_law_spaced : FnScope N_law_spaced P_law_spaced (defScope s_law_spaced) := ⟨rfl, rfl, rfl, by decide +kernel, rfl, by decide +kernel, by decide +kernel⟩
def zsV (ts : List (List Nat)) : List V := ts.map fun t => V.str (Z t)
def spTokens (K : PySem.W.Frag) (n : Nat) : Sp := fun vs H Q _ => ∃ (v : V) (t : FT) (h : Bool), vs = [v, .bl h] ∧ Fm K H t v ∧ t.dep < n ∧ (toks true t).length + 20 ≤ 1000 ∧ (wrt true t).length + 20 ≤ sizeLine ∧ ∀ H' p, Same H H' → H' p = some (.lst (zsV (toks h t))) → Q (.ref p) H'
theorem zsV_len (ts : List (List Nat)) : (zsV ts).length = ts.length := by unfold zsV; rw [List.length_map]
theorem zsV_cat (a b : List (List Nat)) : zsV (a ++ b) = zsV a ++ zsV b := by unfold zsV; rw [List.map_append]
section
variable {P : Program} {w : World} {K : PySem.W.Frag} {mg : Str → Option Value} {base : Heap} {f : Addr} {fd : FuncData} {CR CW fI : Addr}
theorem ok_law_tokens {n : Nat} (T : Txt K mg) (F : Fun K "_law_tokens" "_law_tokens" s_law_tokens f fd) (C_law_tokens : Cal P w K mg base "_law_tokens" (1 + n) P_law_form_text (spTokens K n)) : FnOk P w K mg base CX0 (1 + n + 1) f fd P_law_form_text (spTokens K (n + 1)) := by
  refine F.ok sc_law_tokens (fun vs H Q E h => ?_) (fun cdv A outer s H vs Q E hr h => ?_)
  · obtain ⟨v, t, h, rfl, _⟩ := h
    rfl
  obtain ⟨v, t, b, rfl, hf, hd, hn, hl, q⟩ := h
  refine ⟨_, (pss_cons (ps_if (pt_cmpR op_eq (pe_callB call_len rfl T.len (by decide +kernel) (pa_cons (pv 0) pa_nil)) pe_int (nomark _))
    (pss_one (ps_ret (pe_lstN (pa_cons (pe_op op_add_str (pe_ix ix_tup (pv 0) pe_int (fun _ _ => rfl)) (pe_op op_mulT pe_str (pe_callTy call_int1 rfl T.int (by decide +kernel) (pa_cons (pe_cmpR op_eq (pe_ix ix_tup (pv 0) pe_int (fun _ _ => rfl)) pe_str (nomark _)) pa_nil)))) pa_nil))))
    pss_nil)
  (pss_cons (ps_set (i := 2) sc_law_tokens.nd rfl (Or.inl rfl) (pe_dget (hu_of hr) (pe_disp (pps_cons pe_str pe_str (pps_cons pe_str pe_str (pps_cons pe_str pe_str (pps_cons pe_str pe_str pps_nil)))) (by rfl) (by rfl) (fun z => by cases z) (by decide)) (pe_ix ix_tup (pv 0) pe_int (fun _ _ => rfl)) (fun _ _ => rfl)))
  (pss_cons (ps_set (i := 3) sc_law_tokens.nd rfl (Or.inl rfl) (pe_op op_catLN (pe_op op_catLN (pe_callC C_law_tokens hr (pa_cons (pe_ix ix_tup (pv 0) pe_int (fun _ _ => rfl)) (pa_cons pe_bl pa_nil))) (pe_lstN (pa_cons (pv 2) pa_nil))) (pe_callC C_law_tokens hr (pa_cons (pe_ix ix_tup (pv 0) pe_int (fun _ _ => rfl)) (pa_cons pe_bl pa_nil)))))
  (pss_one (ps_ret (pe_ifExp (pt_truth (pv 1) (by intro _; rfl)) (pe_op op_catLN (pe_op op_catLN (pe_lstN (pa_cons pe_str pa_nil)) (pv 3)) (pe_lstN (pa_cons pe_str pa_nil))) (pv 3))))))), ?_⟩
  cases t with
  | leaf co m =>
    obtain ⟨a, rfl, hs⟩ := hf
    have hl2 : (leafS co m).length + 20 ≤ sizeLine := hl
    have hl3 : m.length ≤ (leafS co m).length := by
      unfold leafS
      rw [List.length_append]
      omega
    refine ⟨_, rfl, _, _, rfl, .inr ⟨_, hs, rfl⟩, rfl, _, rfl, iteT ?_⟩
    refine ⟨_, rfl, a, _, _, _, rfl, rfl, hs, rfl, ?_⟩
    refine ⟨_, rfl, a, _, _, _, rfl, rfl, hs, rfl, rfl, .inr ⟨_, rfl, [126], (if co then 1 else 0), rfl, ?_, by decide, by cases co <;> decide, _, _, rfl, rfl, ?_, le1k, fun p H1 s1 h1 => q H1 p s1 ?_⟩⟩
    · cases co <;> rfl
    · refine sl (n := 0) (m := 0) _ _ ?_
      have : (reps (if co then 1 else 0) [126]).length ≤ 1 := by cases co <;> decide
      omega
    · have e : Z m ++ Z (reps (if co then 1 else 0) [126]) = Z (leafS co m) := by rw [Z_cat, ← leafS_eq]
      have h1 : H1 p = some (.lst [V.str (Z m ++ Z (reps (if co then 1 else 0) [126]))]) := h1
      rw [e] at h1
      cases b <;> exact h1
  | node s l r =>
    obtain ⟨a, x, y, rfl, hs, hx, hy⟩ := hf
    have hdd : 1 + max l.dep r.dep < n + 1 := hd
    have hl2 : (wrt true l).length + (wrt true r).length + 25 ≤ sizeLine := by
      have e : wrt true (.node s l r) = 40 :: (wrt true l ++ (32 :: s.code :: 32 :: wrt true r) ++ [41]) := rfl
      rw [e] at hl
      simp only [List.length_append, List.length_cons, List.length_nil] at hl
      omega
    have hn2 : (toks true l).length + (toks true r).length + 23 ≤ 1000 := by
      have e : toks true (.node s l r) = [40] :: (toks true l ++ ([s.code] :: toks true r) ++ [[41]]) := rfl
      rw [e] at hn
      simp only [List.length_append, List.length_cons, List.length_nil] at hn
      omega
    refine ⟨_, rfl, _, _, rfl, .inr ⟨_, hs, rfl⟩, rfl, _, rfl, iteF ?_⟩
    intro p5 np5
    refine ⟨upd_same, signD, rfl, by decide, ?_⟩
    have s5 : Same H (upd (upd H p5 (.dK [])) p5 (.dK (mergeK [] signD))) := same_disp np5
    refine ⟨_, rfl, a, _, _, _, rfl, rfl, (Same.kt s5).seq hs, rfl, p5, .str (Z [s.code]), rfl, .inl ⟨_, .inr s.word, .inl upd_same, rfl, (signD_get s).symm⟩, ?_⟩
    refine ⟨_, rfl, a, _, _, _, rfl, rfl, (Same.kt s5).seq hs, rfl, x, l, true, rfl, (Same.kt s5).fm l hx, by omega, by omega, by omega, fun H1 p1 s1 h1 => ?_⟩
    refine ⟨_, rfl, le1k, fun p2 H2 s2 h2 => ⟨p1, p2, _, _, rfl, rfl, s2 _ _ h1, h2, by rw [zsV_len]; simp only [List.length_cons, List.length_nil]; omega, fun p3 H3 s3 h3 => ?_⟩⟩
    have k3 := Same.kt (((s5.trans s1).trans s2).trans s3)
    refine ⟨_, rfl, a, _, _, _, rfl, rfl, k3.seq hs, rfl, y, r, true, rfl, k3.fm r hy, by omega, by omega, by omega, fun H4 p4 s4 h4 => ?_⟩
    refine ⟨p3, p4, _, _, rfl, rfl, s4 _ _ h3, h4, by simp only [List.length_append, zsV_len, List.length_cons, List.length_nil]; omega, fun p6 H6 s6 h6 => ?_⟩
    have sA : Same H H6 := ((((s5.trans s1).trans s2).trans s3).trans s4).trans s6
    have e6 : zsV (toks true l) ++ [V.str (Z [s.code])] ++ zsV (toks true r) = zsV (toks false (.node s l r)) := by
      show _ = zsV (toks true l ++ ([s.code] :: toks true r))
      rw [zsV_cat, List.append_assoc]
      rfl
    rw [e6] at h6
    have hb : (toks false (.node s l r)).length + 2 ≤ 1000 := by
      show (toks true l ++ ([s.code] :: toks true r)).length + 2 ≤ 1000
      simp only [List.length_append, List.length_cons]
      omega
    refine ⟨_, rfl, b, rfl, ?_⟩
    cases b with
    | false => exact iteF ⟨_, rfl, q H6 p6 sA h6⟩
    | true =>
      refine iteT ⟨le1k, fun p7 H7 s7 h7 => ⟨_, rfl, p7, p6, _, _, rfl, rfl, h7, s7 _ _ h6, by rw [zsV_len]; simp only [List.length_cons, List.length_nil]; omega, fun p8 H8 s8 h8 => ⟨le1k, fun p9 H9 s9 h9 => ⟨p8, p9, _, _, rfl, rfl, s9 _ _ h8, h9, by simp only [List.length_append, zsV_len, List.length_cons, List.length_nil]; omega, fun p10 H10 s10 h10 => ?_⟩⟩⟩⟩
      refine q H10 p10 ((((sA.trans s7).trans s8).trans s9).trans s10) ?_
      rw [h10]
      have e8 : [V.str (Str.ofString "(")] ++ zsV (toks false (.node s l r)) ++ [V.str (Str.ofString ")")] = zsV (toks true (.node s l r)) := by
        show _ = zsV ([40] :: (toks false (.node s l r) ++ [[41]]))
        show _ = V.str (Z [40]) :: zsV (toks false (.node s l r) ++ [[41]])
        rw [zsV_cat]
        rfl
      rw [e8]
end
end My

set_option Elab.async false
set_option linter.all false
set_option maxRecDepth 100000
namespace My
open PySem L2
theorem reps_one (x : Nat) : ∀ n, reps n [x] = List.replicate n x
  | 0 => rfl
  | n + 1 => by rw [reps_succ, reps_one x n]; rfl
/-- the tokens up to here are laid -/
def Go (ts : List (List Nat)) (cs : List Nat) : Prop := ∀ ts' cs', Gp ts' cs' → Gp (ts ++ ts') (cs ++ cs')
theorem Go.nil : Go [] [] := fun _ _ h => h
theorem Go.snoc {ts : List (List Nat)} {cs t : List Nat} (g : Go ts cs) (k : Nat) : Go (ts ++ [t]) (cs ++ spc k ++ t) := fun ts' cs' h => by
  have := g (t :: ts') _ (.cons k h)
  rw [List.append_assoc, List.append_assoc, List.append_assoc]
  exact this
theorem Go.done {ts : List (List Nat)} {cs : List Nat} (g : Go ts cs) (k : Nat) : Gp ts (cs ++ spc k) := by
  have := g [] _ (.nil k)
  rw [List.append_nil] at this
  exact this
def spSpaced (K : PySem.W.Frag) : Sp := fun vs H Q _ => ∃ (d L a : Addr) (ns : List Int) (n : Nat) (ts : List (List Nat)), vs = [.ref d, .ref a] ∧ Pen K H d L ns n ∧ n + ts.length + 2 < 2 ^ 39 ∧ H a = some (.lst (zsV ts)) ∧ ts.length ≤ 1000 ∧ ts.flatten.length + 4 * ts.length + 10 ≤ sizeLine ∧
  ∀ cs H', Gp ts cs → cs.length ≤ ts.flatten.length + 4 * ts.length + 4 → Keep d H H' → Pen K H' d L ns (n + ts.length + 2) → Q (.str (Z cs)) H'
theorem flat_take (ts : List (List Nat)) (i : Nat) : (ts.take i).flatten.length ≤ ts.flatten.length := by
  have : ts.flatten = (ts.take i).flatten ++ (ts.drop i).flatten := by rw [← List.flatten_append, List.take_append_drop]
  rw [this, List.length_append]
  omega
section
variable {P : Program} {w : World} {K : PySem.W.Frag} {mg : Str → Option Value} {base : Heap} {f : Addr} {fd : FuncData}
theorem ok_law_spaced (F : Fun K "_law_spaced" "_law_spaced" s_law_spaced f fd) (C_law_draw : Cal P w K mg base "_law_draw" 1 ["_law_pen", "_law_span"] (spDraw K)) (C_law_pick : Cal P w K mg base "_law_pick" 2 ["_law_pen", "_law_some"] (spPick K)) :
    FnOk P w K mg base CX0 3 f fd P_law_spaced (spSpaced K) := by
  refine F.ok sc_law_spaced (fun vs H Q E h => ?_) (fun cdv A outer s H vs Q E hr h => ?_)
  · obtain ⟨d, L, a, ns, n, ts, rfl, _⟩ := h
    rfl
  obtain ⟨d, L, a, ns, n, ts, rfl, p, hn, ha, ht, hl, q⟩ := h
  refine ⟨_, (pss_cons (ps_par (i := 2) (j := 3) (by rfl) sc_law_spaced.nd rfl rfl (by decide) rfl rfl (pa_cons (pe_callC C_law_pick hr (pa_cons (pv 0) (pa_cons (pe_lst (pa_cons pe_int (pa_cons pe_int (pa_cons pe_int pa_nil)))) pa_nil))) (pa_cons pe_str pa_nil)) (by rfl))
  (pss_cons (ps_for PassesOwn.never rfl (pi_list (pv 1)) (pg_name (i := 4) sc_law_spaced.nd rfl (Or.inl rfl))
    (pss_one (ps_set (i := 3) sc_law_spaced.nd rfl (Or.inl rfl) (pe_op op_add_str (pe_op op_add_str (pv 3) (pe_op op_mulT pe_str (pe_callC C_law_draw hr (pa_cons (pv 0) (pa_cons (pv 2) pa_nil))))) (pv 4)))))
  (pss_one (ps_ret (pe_op op_add_str (pv 3) (pe_op op_mulT pe_str (pe_callC C_law_draw hr (pa_cons (pv 0) (pa_cons (pv 2) pa_nil))))))))), ?_⟩
  have nad : a ≠ d := fun e => by
    obtain ⟨kvs, h⟩ := p.isDk
    rw [← e, ha] at h
    cases h
  refine ⟨_, rfl, by show 3 ≤ sizeLine; decide, fun p0 np0 => ?_⟩
  refine ⟨d, L, ns, n, _, rfl, p.same (same_new np0 _), by omega, .inl ⟨p0, _, rfl, SqL.of upd_same, by simp, by show 3 ≤ 1000; decide, fun x H1 hx k1 p1 => ?_⟩⟩
  have k1' : Keep d H H1 := (Same.toKeep (same_new np0 _)).trans k1
  obtain ⟨m, rfl, m0, m4⟩ : ∃ m : Int, x = .int m ∧ 0 < m ∧ m ≤ 4 := by
    simp only [List.mem_cons, List.not_mem_nil, or_false] at hx
    rcases hx with rfl | rfl | rfl
    · exact ⟨1, rfl, by decide, by decide⟩
    · exact ⟨2, rfl, by decide, by decide⟩
    · exact ⟨4, rfl, by decide, by decide⟩
  have ha1 : H1 a = some (.lst (zsV ts)) := k1' _ _ nad ha
  refine ⟨_, _, rfl, _, rfl, a, rfl, ⟨_, SqL.of ha1⟩, ?_⟩
  have zl := zsV_len ts
  refine for_it walk_list (fun i σ H' => ∃ cs o, σ = [some (.ref d), some (.ref a), some (.int m), some (.str (Z cs)), o] ∧ Keep d H H' ∧ Pen K H' d L ns (n + 1 + i) ∧ Go (ts.take i) cs ∧ cs.length ≤ (ts.take i).flatten.length + 4 * i)
    ⟨[], none, rfl, k1', p1, Go.nil, Nat.zero_le _⟩ (fun i σ H' _ ⟨_, _, _, k, _⟩ => SqL.of (k _ _ nad ha)) (fun i x σ H9 H10 hi pv y => ?_) (fun σ H' pv => ?_)
  · obtain ⟨rfl, hx⟩ := y
    obtain ⟨cs, o, rfl, k9, p9, g9, l9⟩ := pv
    rw [zl] at hi
    obtain ⟨t, ht1, rfl⟩ : ∃ t, ts[i]? = some t ∧ x = .str (Z t) := by
      unfold zsV at hx
      rw [List.getElem?_map] at hx
      cases e : ts[i]? with
      | none => rw [e] at hx; cases hx
      | some t =>
        rw [e] at hx
        exact ⟨t, rfl, (Option.some.inj hx).symm⟩
    refine ⟨_, rfl, _, rfl, _, rfl, d, L, ns, _, m, rfl, p9, by omega, m0, by omega, fun r H11 r0 r1 k11 p11 => ?_⟩
    obtain ⟨k, rfl⟩ : ∃ k : Nat, r = k := ⟨r.toNat, by omega⟩
    have htk : ts.take (i + 1) = ts.take i ++ [t] := take_next ht1
    have hf := flat_take ts (i + 1)
    rw [htk, List.flatten_append, List.length_append, List.flatten_cons, List.flatten_nil, List.append_nil] at hf
    have hi4 : 4 * i + 4 ≤ 4 * ts.length := by omega
    refine ⟨[32], k, rfl, rfl, by decide, by omega, _, _, rfl, rfl, ?_, ?_⟩
    · rw [Z_len, Z_len, reps_one, List.length_replicate]
      omega
    rw [Z_cat, reps_one]
    refine ⟨_, rfl, _, _, rfl, rfl, ?_, ?_⟩
    · rw [Z_len, Z_len, List.length_append, List.length_replicate]
      omega
    rw [Z_cat]
    refine ⟨_, _, rfl, k9.trans k11, p11, ?_, ?_⟩
    · rw [htk]
      exact g9.snoc k
    · rw [htk, List.flatten_append, List.length_append, List.flatten_cons, List.flatten_nil, List.append_nil, List.length_append, List.length_append, List.length_replicate]
      omega
  · obtain ⟨cs, o, rfl, k9, p9, g9, l9⟩ := pv
    rw [zl] at p9 g9 l9
    rw [List.take_length] at g9 l9
    refine ⟨_, rfl, _, rfl, _, rfl, d, L, ns, _, m, rfl, p9, by omega, m0, by omega, fun r H11 r0 r1 k11 p11 => ?_⟩
    obtain ⟨k, rfl⟩ : ∃ k : Nat, r = k := ⟨r.toNat, by omega⟩
    refine ⟨[32], k, rfl, rfl, by decide, by omega, _, _, rfl, rfl, ?_, ?_⟩
    · rw [Z_len, Z_len, reps_one, List.length_replicate]
      omega
    rw [Z_cat, reps_one]
    exact q _ H11 (g9.done k) (by rw [List.length_append, List.length_replicate]; omega) (k9.trans k11) (p11.mono (by omega))
end
end My

set_option Elab.async false
set_option linter.all false
set_option maxRecDepth 100000
namespace My
open PySem L2
namespace Told
variable {X : Cx} {k j : Nat} {ps : List Str} {sp : Sp} {x : Str} {p pos : Pos} {e : Expr} {es : List Expr} {t : TA}
/-- a call of a def that may raise, where it does not -/
theorem pe_callV (C : CalX X.prog X.w X.K X.mg X.base x k ps sp) (hr : Room j X.A) (ha : PA X (e :: es) t) (hk : k ≤ j := by omega) (hg : Gl X x := by rfl) (hdb : (x == ("__debug__" : Str)) = false := by decide)
    (he : starEach (e :: es) X.env = (false, eval e X.env) :: starEach es X.env := by rfl) (hpl : (backTo pos (starEach es X.env)).any (·.1) = false := by rfl) :
    PE X (.Call (.Name x p) (e :: es) [] pos) (tCall sp [] E0 t) := pe_call C.ok (hr.mono hk) hg C.m C.kp C.b .nil passL ha hdb he hpl
end Told
abbrev N_law_text_right : List Str := ["_law_pen", "_law_form", "_law_text", "_law_tokens_here", "_law_spaced_here"]
abbrev P_law_text_right : List Str := ["_law_pen", "_law_form"]
theorem tw_fm {K : PySem.W.Frag} {H : Hp} : ∀ (t : FT) (n : Nat) {v u : V}, t.dep + 2 ≤ n → Fm K H t v → Fm K H t u → Tw K H n v u := by
  intro t
  induction t with
  | leaf co m =>
    intro n v u h hv hu
    obtain ⟨a, ea, ha⟩ := hv
    obtain ⟨b, eb, hb⟩ := hu
    obtain ⟨k, rfl⟩ : ∃ k, n = k + 2 := ⟨n - 2, by omega⟩
    have w1 : ∀ z : Str, Tw K H (k + 1) (.str z) (.str z) := fun z => .inl ⟨rfl, rfl⟩
    exact .inr (.inr (.inl ⟨a, b, _, _, ea, eb, ha, hb, le1k, .cons (w1 _) (.cons (w1 _) .nil)⟩))
  | node s l r ihl ihr =>
    intro n v u h hv hu
    obtain ⟨a, x, y, ea, ha, hx, hy⟩ := hv
    obtain ⟨b, x', y', eb, hb, hx', hy'⟩ := hu
    have hd : 1 + max l.dep r.dep + 2 ≤ n := h
    obtain ⟨k, rfl⟩ : ∃ k, n = k + 1 := ⟨n - 1, by omega⟩
    obtain ⟨k, rfl⟩ : ∃ j, k = j + 1 := ⟨k - 1, by omega⟩
    have w1 : ∀ z : Str, Tw K H (k + 1) (.str z) (.str z) := fun z => .inl ⟨rfl, rfl⟩
    exact .inr (.inr (.inl ⟨a, b, _, _, ea, eb, ha, hb, le1k, .cons (w1 _) (.cons (ihl (k + 1) (by omega) hx hx') (.cons (ihr (k + 1) (by omega) hy hy') .nil))⟩))
theorem toks_flat : ∀ (t : FT) (h : Bool), (toks h t).flatten.length ≤ (wrt h t).length
  | .leaf co n, h => by
    have : (toks h (.leaf co n)).flatten = leafS co n ++ [] := by cases h <;> rfl
    rw [this, List.append_nil]
    cases h <;> exact Nat.le_refl _
  | .node s l r, h => by
    have hl := toks_flat l true
    have hr := toks_flat r true
    cases h with
    | false =>
      show (toks true l ++ ([s.code] :: toks true r)).flatten.length ≤ (wrt true l ++ (32 :: s.code :: 32 :: wrt true r)).length
      simp only [List.flatten_append, List.flatten_cons, List.length_append, List.length_cons, List.length_nil]
      omega
    | true =>
      show ([40] :: (toks true l ++ ([s.code] :: toks true r) ++ [[41]])).flatten.length ≤ (40 :: (wrt true l ++ (32 :: s.code :: 32 :: wrt true r) ++ [41])).length
      simp only [List.flatten_append, List.flatten_cons, List.flatten_nil, List.length_append, List.length_cons, List.length_nil]
      omega
theorem toks_short (h : Bool) (t : FT) : (toks h t).length ≤ (toks true t).length := by
  cases t with
  | leaf co n => cases h <;> exact Nat.le_refl _
  | node s l r =>
    cases h with
    | true => exact Nat.le_refl _
    | false =>
      show (toks true l ++ ([s.code] :: toks true r)).length ≤ ([40] :: (toks true l ++ ([s.code] :: toks true r) ++ [[41]])).length
      simp only [List.length_append, List.length_cons, List.length_nil]
      omega
theorem big : 100000 ≤ sizeLine := by decide
def spTextRight (K : PySem.W.Frag) : Sp := fun vs H Q _ => ∃ (d L : Addr) (ns : List Int) (n : Nat) (v : V) (t : FT), vs = [.ref d, v] ∧ Pen K H d L ns n ∧ n < 2 ^ 38 ∧ Fm K H t v ∧ t.Ok ∧ t.dep ≤ 12 ∧ (toks true t).length ≤ 900 ∧ (wrt true t).length ≤ 10000 ∧
  ∀ H', Keep d H H' → Pen K H' d L ns (n + 2000) → Q (.bl true) H'
section
variable {P : Program} {w : World} {K : PySem.W.Frag} {mg : Str → Option Value} {base : Heap} {f : Addr} {fd : FuncData}
theorem kt_pen {d L : Addr} {ns : List Int} {n : Nat} {H H' : Hp} (p : Pen K H d L ns n) (k : Keep d H H') : KT H H' := fun a o h e => by
  obtain ⟨kvs, hd⟩ := p.isDk
  refine k a o (fun z => ?_) e
  subst z
  rw [hd] at e
  have e := Option.some.inj e
  subst e
  rcases h with ⟨_, e⟩ | ⟨_, _, e⟩ <;> cases e
theorem sum_flat : ∀ ts : List (List Nat), ((ts.map Z).map (·.length)).sum = ts.flatten.length
  | [] => rfl
  | t :: ts => by
    rw [List.map_cons, List.map_cons, List.sum_cons, sum_flat ts, List.flatten_cons, List.length_append, Z_len]
theorem join_Z (ts : List (List Nat)) : Txt.join Str.empty (ts.map Z) = Z ts.flatten := by
  have e0 : Txt.join Str.empty (ts.map Z) = Str.join Str.empty (ts.map Z) := TL.join_eq _ _
  rw [e0]
  clear e0
  induction ts with
  | nil => rfl
  | cons t ts ih =>
    cases ts with
    | nil =>
      show Z t = Z (t ++ [])
      rw [List.append_nil]
    | cons t2 ts =>
      have e : Str.join Str.empty ((t :: t2 :: ts).map Z) = Z t ++ Z [] ++ Str.join Str.empty ((t2 :: ts).map Z) := rfl
      rw [e, ih, Z_cat t [], List.append_nil, Z_cat t _]
      rfl
end
end My

set_option Elab.async false
set_option linter.all false
set_option maxRecDepth 100000
namespace My
open PySem L2
abbrev N_law_no_form : List Str := ["_law_pen", "_law_form", "_law_odd"]
abbrev P_law_no_form : List Str := ["_law_pen", "_law_form"]
def spNoForm (K : PySem.W.Frag) : Sp := fun vs H Q _ => ∃ (d L : Addr) (ns : List Int) (n : Nat) (v : V) (D : PyData), vs = [.ref d, v] ∧ Pen K H d L ns n ∧ n < 2 ^ 37 + 100 ∧ Dp K H v D ∧ isForm 12 D = true ∧
  ∀ v' D' H', Dp K H' v' D' → shortD D' = true → widD D' = true → D'.depth ≤ 20 → isForm 12 D' = false → Keep d H H' → Q v' H'
theorem deep_not {D : PyData} (h : Deep 13 D) : isForm 12 D = false := h.2 12 (by decide)
section
variable {P : Program} {w : World} {K : PySem.W.Frag} {mg : Str → Option Value} {base : Heap} {f : Addr} {fd : FuncData}
end
end My

set_option Elab.async false
set_option linter.all false
set_option maxRecDepth 100000
namespace My
open PySem L2
/-- a def of the text whose code object is known -/
structure FunC (K : PySem.W.Frag) (x qual : Str) (st : Stmt) (f : Addr) (fd : FuncData) (cdv : Value) : Prop where
  ex : ∃ (oc : Value) (od : Option Addr) (kV doc pm : Value) (an : Option Addr) (ct : Value) (osl : Array (Option Value)),
    fd = PySem.W.fnOf x qual (defArgs st) (defBody st) (defScope st) .none kV doc pm an cdv ct ∧ K.lookup f = some ⟨oc, od, .func fd, osl⟩ ∧ PySem.W.codeIn K cdv qual = true
theorem FunC.ok {P : Program} {w : World} {K : PySem.W.Frag} {mg : Str → Option Value} {base : Heap} {x qual : Str} {st : Stmt} {f : Addr} {fd : FuncData} {cdv : Value} {N ps : List Str} {k : Nat} {sp : Sp} (F : FunC K x qual st f fd cdv) (S : FnScope N ps (defScope st))
    (len : ∀ vs H Q E, sp vs H Q E → vs.length = ps.length)
    (hbody : ∀ (A : Around) (outer : List Env) (s : Shared) (H : Hp) (vs : List V) (Q : VK) (E : XK), Room k (A.deeper (PyProof.Rows.envOfC qual (defScope st) s.heap.objs.size f cdv)) → sp vs H Q E →
      ∃ t, PSs (cxOf CX0 P w K mg base N qual (defScope st) f cdv A outer s H E).nox (defBody st) t ∧ t { nx := fun _ H' => Q .non H', rt := Q } (L2.start N vs) H) : FnOk P w K mg base CX0 (k + 1) f fd ps sp := by
  obtain ⟨oc, od, kV, doc, pm, an, ct, osl, rfl, lk, hcd⟩ := F.ex
  refine fn_of lk hcd S len fun A outer s H vs Q E hr hsp => ?_
  obtain ⟨t, h, q⟩ := hbody A outer s H vs Q E hr hsp
  exact ⟨t, h.nox, q⟩
theorem cells_mono {env : Env} {N : List Str} {σ τ : L2.St} {C : Addr → Option Obj} (h : ∀ (i : Nat) (x : Str) (v : V), N[i]? = some x → σ[i]? = some (some v) → (env.kindOf x = some .cell ∨ env.kindOf x = some .free) → τ[i]? = some (some v)) (K : Clo.CellsAt env N τ C) : Clo.CellsAt env N σ C :=
  ⟨K.all, fun i x v c hn hs hk e => K.val i x v c hn (h i x v hn hs hk) hk e⟩
theorem minus_plus {C : Addr → Option Obj} {H : Hp} (h : ∀ c o, C c = some o → H c = none) : Clo.minus C (Clo.plus C H) = H := by
  funext b
  cases e : C b with
  | none => rw [Clo.minus_out e, Clo.plus_out e]
  | some o => rw [Clo.minus_in e, h b o e]
section
variable {K : PySem.W.Frag}
theorem seqT_x {H H' : Hp} (k : LamX.ExtN H H') {a : Addr} {xs : List V} (h : SqT K H a xs) : SqT K H' a xs := by
  rcases h with (h | ⟨o, h⟩) | h
  · exact .inl (.inl (k _ _ h fun _ z => nomatch z))
  · exact .inl (.inr ⟨o, k _ _ h fun _ z => nomatch z⟩)
  · exact .inr h
theorem seqL_x {H H' : Hp} (k : LamX.ExtN H H') {a : Addr} {xs : List V} (h : SqL K H a xs) : SqL K H' a xs := by
  rcases h with (h | ⟨o, h⟩) | h
  · exact .inl (.inl (k _ _ h fun _ z => nomatch z))
  · exact .inl (.inr ⟨o, k _ _ h fun _ z => nomatch z⟩)
  · exact .inr h
mutual
theorem dp_x {H H' : Hp} (k : LamX.ExtN H H') : ∀ (D : PyData) (v : V), Dp K H v D → Dp K H' v D
  | .none, _, h => by cases h; exact .non
  | .bool b, _, h => by cases h; exact .bl b
  | .int i, _, h => by cases h; exact .int i
  | .str x, _, h => by cases h; exact .str x
  | .list ds, _, h => by cases h with | lst hs ha => exact .lst (seqL_x k hs) (dpAll_x k ds _ ha)
  | .tuple ds, _, h => by cases h with | tup hs ha => exact .tup (seqT_x k hs) (dpAll_x k ds _ ha)
  | .dict _, _, h => by cases h
theorem dpAll_x {H H' : Hp} (k : LamX.ExtN H H') : ∀ (Ds : List PyData) (vs : List V), DpAll K H vs Ds → DpAll K H' vs Ds
  | [], _, h => by cases h; exact .nil
  | D :: Ds, _, h => by cases h with | cons h1 h2 => exact .cons (dp_x k D _ h1) (dpAll_x k Ds _ h2)
end
end
theorem tabs_keep {d : Addr} {H H' : Hp} {Tb : List (Addr × Str)} (hd : IsDk H d) (k : Keep d H H') (t : LamX.Tabs Tb H) : LamX.Tabs Tb H' := fun p hp => by
  obtain ⟨kvs, hd⟩ := hd
  obtain ⟨ps, h1, h2, h3⟩ := t p hp
  refine ⟨ps, k _ _ (fun z => by rw [z, hd] at h1; cases h1) h1, h2, fun pos cv hc => ?_⟩
  obtain ⟨c, e, hc2⟩ := h3 pos cv hc
  exact ⟨c, e, k _ _ (fun z => by
    rw [z, hd] at hc2
    have z' := Option.some.inj hc2
    unfold LamX.CodeO at z'
    cases z') hc2⟩
theorem kt_x {H H' : Hp} (k : LamX.ExtN H H') : KT H H' := fun a o n h => by
  rcases n with ⟨_, rfl⟩ | ⟨_, _, rfl⟩
  · exact k _ _ h fun _ z => nomatch z
  · exact k _ _ h fun _ z => nomatch z
end My

set_option Elab.async false
set_option linter.all false
set_option maxRecDepth 100000
namespace My
open PySem L2
/-! ### leaves of forms; ends -/
def isEnds : PyData → Bool
  | .list ds => decide (1 ≤ ds.length) && decide (ds.length ≤ 40) && ds.all (isForm 12) && decide ((ds.flatMap lvs).length ≤ 40)
  | .tuple ds => decide (1 ≤ ds.length) && decide (ds.length ≤ 40) && ds.all (isForm 12) && decide ((ds.flatMap lvs).length ≤ 40)
  | _ => false
section
variable {X : Cx}
theorem pi_orR {tg e : Expr} {w1 w2 : TI} (a : PI X tg e w1) (b : PI X tg e w2) : PI X tg e (fun σ H R => w1 σ H R ∨ w2 σ H R) :=
  ⟨fun pins s σ H R I h => h.elim (a.run pins s σ H R I) (b.run pins s σ H R I)⟩
end
abbrev Pis_leaf : List Str := ["form"]
abbrev Nleaf_count : List Str := ["form"]
abbrev Pleaf_count : List Str := ["form"]
abbrev Nfits_ends : List Str := ["value", "many", "form"]
abbrev Pfits_ends : List Str := ["value"]
abbrev Ncheck_ends : List Str := ["ends"]
abbrev Pcheck_ends : List Str := ["ends"]
def spIsLeaf (K : PySem.W.Frag) : Sp := fun vs H Q _ => ∃ (a : Addr) (xs : List V), vs = [.ref a] ∧ SqT K H a xs ∧ Q (.bl (decide (xs.length = 2))) H
def spLeafCount (K : PySem.W.Frag) (n : Nat) : Sp := fun vs H Q _ => ∃ (v : V) (k : Nat) (D : PyData), vs = [v] ∧ k < n ∧ Dp K H v D ∧ isForm k D = true ∧ Q (.int (lvs D).length) H
section
variable {P : Program} {w : World} {K : PySem.W.Frag} {mg : Str → Option Value} {base : Heap} {f : Addr} {fd : FuncData}
end
structure Txt7 (K : PySem.W.Frag) (mg : Str → Option Value) extends Txt K mg where
  zip : mg "zip" = none
  enumerate : mg "enumerate" = none
  MOST_LEAVES : ∃ u, mg "MOST_LEAVES" = some u ∧ RelV (.int 40) u
theorem kit2r {K : PySem.W.Frag} {g : String} {b1 b2 : Bool} (h1 : kitB g "list" = some b1) (h2 : kitB g "tuple" = some b2) : PySem.W.kitAny K (.type g) [.type "list", .type "tuple"] = some (b1 || b2) := by
  cases b1 with
  | true => exact kitAny_cons (kit_ty h1) (fun z => nomatch z) fun _ => rfl
  | false =>
    refine kitAny_cons (kit_ty h1) (fun _ => ?_) fun z => nomatch z
    cases b2 with
    | true => exact kitAny_cons (kit_ty h2) (fun z => nomatch z) fun _ => rfl
    | false => exact kitAny_cons (kit_ty h2) (fun _ => kitAny_nil) fun z => nomatch z
def isSeqD : PyData → Bool
  | .list _ => true
  | .tuple _ => true
  | _ => false
theorem kit_seq {K : PySem.W.Frag} (D : PyData) : PySem.W.kitAny K (.type (tagOf D)) [.type "list", .type "tuple"] = some (isSeqD D) := by
  cases D with
  | list ds => exact kit2r (g := "list") (b1 := true) (b2 := false) (by decide +kernel) (by decide +kernel)
  | tuple ds => exact kit2r (g := "tuple") (b1 := false) (b2 := true) (by decide +kernel) (by decide +kernel)
  | none => exact kit2r (g := "NoneType") (b1 := false) (b2 := false) (by decide +kernel) (by decide +kernel)
  | bool b => exact kit2r (g := "bool") (b1 := false) (b2 := false) (by decide +kernel) (by decide +kernel)
  | int b => exact kit2r (g := "int") (b1 := false) (b2 := false) (by decide +kernel) (by decide +kernel)
  | str b => exact kit2r (g := "str") (b1 := false) (b2 := false) (by decide +kernel) (by decide +kernel)
  | dict b => exact kit2r (g := "dict") (b1 := false) (b2 := false) (by decide +kernel) (by decide +kernel)
theorem dpAll_at {K : PySem.W.Frag} {H : Hp} : ∀ {xs : List V} {ds : List PyData} {i : Nat} {x : V}, DpAll K H xs ds → xs[i]? = some x → ∃ d, ds[i]? = some d ∧ Dp K H x d
  | _, _, _, _, .nil, e => by simp at e
  | _, _, 0, _, .cons h _, e => by
    simp at e
    subst e
    exact ⟨_, rfl, h⟩
  | _, _, i + 1, _, .cons _ h, e => by
    obtain ⟨d, h1, h2⟩ := dpAll_at (i := i) h (by simpa using e)
    exact ⟨d, by simpa using h1, h2⟩
theorem short_in : ∀ {ds : List PyData} {d : PyData}, shortAll ds = true → d ∈ ds → shortD d = true
  | x :: ds, d, h, m => by
    obtain ⟨h1, h2⟩ := shortAll_cons h
    rcases List.mem_cons.mp m with rfl | m
    · exact h1
    · exact short_in h2 m
/-- ends that are none -/
theorem isEnds_bad {D : PyData} {ds : List PyData} (hD : D = .list ds ∨ D = .tuple ds) (h : ¬ (1 ≤ ds.length ∧ ds.length ≤ 40) ∨ (∃ d ∈ ds, isForm 12 d = false) ∨ ∃ i, 40 < ((ds.take i).flatMap lvs).length) : isEnds D = false := by
  have key : (decide (1 ≤ ds.length) && decide (ds.length ≤ 40) && ds.all (isForm 12) && decide ((ds.flatMap lvs).length ≤ 40)) = false := by
    rw [Bool.eq_false_iff]
    intro z
    simp only [Bool.and_eq_true, decide_eq_true_eq, List.all_eq_true] at z
    obtain ⟨⟨⟨z1, z2⟩, z3⟩, z4⟩ := z
    rcases h with h | ⟨d, hd, h⟩ | ⟨i, h⟩
    · exact h ⟨z1, z2⟩
    · rw [z3 d hd] at h
      cases h
    · have e : (ds.flatMap lvs).length = ((ds.take i).flatMap lvs).length + ((ds.drop i).flatMap lvs).length := by
        rw [← List.length_append, ← List.flatMap_append, List.take_append_drop]
      omega
  rcases hD with rfl | rfl <;> exact key
theorem isEnds_good {D : PyData} {ds : List PyData} (hD : D = .list ds ∨ D = .tuple ds) (h1 : 1 ≤ ds.length) (h2 : ds.length ≤ 40) (h3 : ds.all (isForm 12) = true) (h4 : (ds.flatMap lvs).length ≤ 40) : isEnds D = true := by
  have key : (decide (1 ≤ ds.length) && decide (ds.length ≤ 40) && ds.all (isForm 12) && decide ((ds.flatMap lvs).length ≤ 40)) = true := by
    simp only [Bool.and_eq_true, decide_eq_true_eq]
    exact ⟨⟨⟨h1, h2⟩, h3⟩, h4⟩
  rcases hD with rfl | rfl <;> exact key
def isDict (H : Hp) (v : V) : Prop := ∃ (a : Addr) (kvs : List (Key × V)), v = .ref a ∧ H a = some (.dK kvs)
def spEnds (K : PySem.W.Frag) : Sp := fun vs H Q _ => ∃ v, vs = [v] ∧ ((∃ D, Dp K H v D ∧ shortD D = true ∧ widD D = true ∧ ∀ H', Same H H' → Q (.bl (isEnds D)) H') ∨ (isDict H v ∧ ∀ H', Same H H' → Q (.bl false) H'))
section
variable {P : Program} {w : World} {K : PySem.W.Frag} {mg : Str → Option Value} {base : Heap} {f : Addr} {fd : FuncData}
end
end My

set_option Elab.async false
set_option linter.all false
set_option maxRecDepth 100000
namespace My
open PySem L2
def badV (CB : Addr) (v : V) (H : Hp) (E : XK) : Prop := ∀ (d : Addr) (H' : Hp), Same H H' → H' d = none → E (.ref CB) (some d) (upd H' d (.xd [(Str.ofString "value", v)]))
def spCheckEnds (K : PySem.W.Frag) (CB : Addr) : Sp := fun vs H Q E => ∃ v, vs = [v] ∧ ((∃ D, Dp K H v D ∧ shortD D = true ∧ widD D = true ∧ (isEnds D = true → ∀ H', Same H H' → Q .non H') ∧ (isEnds D = false → badV CB v H E)) ∨ (isDict H v ∧ badV CB v H E))
section
variable {P : Program} {w : World} {K : PySem.W.Frag} {mg : Str → Option Value} {base : Heap} {f : Addr} {fd : FuncData}
end
end My

set_option Elab.async false
set_option linter.all false
set_option maxRecDepth 100000
namespace My
open PySem L2
def forkW : List Str := [Str.ofString "offered", Str.ofString "chosen"]
mutual
def noL : PyData → Bool
  | .list _ => false
  | .dict _ => false
  | .tuple ds => noLs ds
  | _ => true
def noLs : List PyData → Bool
  | [] => true
  | d :: ds => noL d && noLs ds
end
/-- the tuples are kept -/
structure KeepT (H H' : Hp) : Prop where
  t : ∀ b xs, H b = some (.tup xs) → H' b = some (.tup xs)
  f : ∀ b o xs, H b = some (.frz o (.tup xs)) → H' b = some (.frz o (.tup xs))
theorem keepT_ins {H : Hp} {x C dx : Addr} {fs : List (Str × V)} {o : HO} (e : H x = some (.ins C dx fs)) : KeepT H (upd H x o) := ⟨fun b xs z => by rw [upd_ne (fun y => by rw [y, e] at z; cases z)]; exact z, fun b u xs z => by rw [upd_ne (fun y => by rw [y, e] at z; cases z)]; exact z⟩
section
variable {K : PySem.W.Frag}
theorem seqT_n {H H' : Hp} (k : KeepT H H') {a : Addr} {xs : List V} (h : SqT K H a xs) : SqT K H' a xs := by
  rcases h with (h | ⟨o, h⟩) | h
  · exact .inl (.inl (k.t _ _ h))
  · exact .inl (.inr ⟨o, k.f _ _ _ h⟩)
  · exact .inr h
mutual
theorem dp_n {H H' : Hp} (k : KeepT H H') : ∀ (D : PyData) (v : V), noL D = true → Dp K H v D → Dp K H' v D
  | .none, _, _, h => by cases h; exact .non
  | .bool b, _, _, h => by cases h; exact .bl b
  | .int i, _, _, h => by cases h; exact .int i
  | .str x, _, _, h => by cases h; exact .str x
  | .list ds, _, n, h => by cases n
  | .tuple ds, _, n, h => by
    have n : noLs ds = true := n
    cases h with | tup hs ha => exact .tup (seqT_n k hs) (dpAll_n k ds _ n ha)
  | .dict _, _, n, h => by cases h
theorem dpAll_n {H H' : Hp} (k : KeepT H H') : ∀ (Ds : List PyData) (vs : List V), noLs Ds = true → DpAll K H vs Ds → DpAll K H' vs Ds
  | [], _, _, h => by cases h; exact .nil
  | D :: Ds, _, n, h => by
    have n : (noL D && noLs Ds) = true := n
    obtain ⟨n1, n2⟩ := Bool.and_eq_true_iff.mp n
    cases h with | cons h1 h2 => exact .cons (dp_n k D _ n1 h1) (dpAll_n k Ds _ n2 h2)
end
theorem noL_form : ∀ {k : Nat} {D : PyData}, isForm k D = true → noL D = true := by
  intro k
  induction k with
  | zero =>
    intro D h
    rcases isForm_inv h with ⟨w, n, rfl, hw, hn⟩ | ⟨j, w, a, b, e, _⟩
    · rfl
    · cases e
  | succ k ih =>
    intro D h
    rcases isForm_inv h with ⟨w, n, rfl, hw, hn⟩ | ⟨j, w, a, b, e, rfl, hw, ha, hb⟩
    · rfl
    · obtain rfl : k = j := by omega
      show (true && (noL a && (noL b && true))) = true
      rw [ih ha, ih hb]
      rfl
end
theorem noLs_map_in {α : Type} {f : α → PyData} : ∀ l : List α, (∀ a ∈ l, noL (f a) = true) → noLs (l.map f) = true
  | [], _ => rfl
  | a :: l, h => by
    show (noL (f a) && noLs (l.map f)) = true
    rw [h a List.mem_cons_self, noLs_map_in l fun b hb => h b (List.mem_cons_of_mem _ hb)]
    rfl
theorem keepT_lst {H : Hp} {x : Addr} {xs : List V} {o : HO} (e : H x = some (.lst xs)) : KeepT H (upd H x o) := ⟨fun b xs z => by rw [upd_ne (fun y => by rw [y, e] at z; cases z)]; exact z, fun b u xs z => by rw [upd_ne (fun y => by rw [y, e] at z; cases z)]; exact z⟩
section
variable {K : PySem.W.Frag}
theorem dpAll_snoc {K : PySem.W.Frag} {H : Hp} {v : V} {D : PyData} (h : Dp K H v D) : ∀ {xs : List V} {ds : List PyData}, DpAll K H xs ds → DpAll K H (xs ++ [v]) (ds ++ [D])
  | _, _, .nil => .cons h .nil
  | _, _, .cons a b => .cons a (dpAll_snoc h b)
end
theorem isEnds_inv {D : PyData} (h : isEnds D = true) : ∃ ds, (D = .list ds ∨ D = .tuple ds) ∧ ds.length ≤ 40 ∧ ds.all (isForm 12) = true ∧ (ds.flatMap lvs).length ≤ 40 ∧ 1 ≤ ds.length := by
  have key : ∀ ds : List PyData, (decide (1 ≤ ds.length) && decide (ds.length ≤ 40) && ds.all (isForm 12) && decide ((ds.flatMap lvs).length ≤ 40)) = true → ds.length ≤ 40 ∧ ds.all (isForm 12) = true ∧ (ds.flatMap lvs).length ≤ 40 ∧ 1 ≤ ds.length := fun ds h => by
    simp only [Bool.and_eq_true, decide_eq_true_eq] at h
    exact ⟨h.1.1.2, h.1.2, h.2, h.1.1.1⟩
  cases D with
  | list ds => exact ⟨ds, .inl rfl, key ds h⟩
  | tuple ds => exact ⟨ds, .inr rfl, key ds h⟩
  | _ => cases h
theorem flat_len {α : Type} (g : PyData → List α) (ds : List PyData) (i : Nat) : ((ds.take i).flatMap g).length ≤ (ds.flatMap g).length := by
  have e : (ds.flatMap g).length = ((ds.take i).flatMap g).length + ((ds.drop i).flatMap g).length := by
    rw [← List.length_append, ← List.flatMap_append, List.take_append_drop]
  omega
theorem flat_snoc {α : Type} (g : PyData → List α) {ds : List PyData} {i : Nat} {d : PyData} (h : ds[i]? = some d) : (ds.take (i + 1)).flatMap g = (ds.take i).flatMap g ++ g d := by
  rw [take_next h, List.flatMap_append]
  simp
theorem paired_get {α β : Type} {r : α → β → Prop} : ∀ {xs : List α} {ys : List β} {i : Nat} {x : α}, Paired r xs ys → xs[i]? = some x → ∃ y, ys[i]? = some y ∧ r x y
  | _, _, _, _, .nil, e => by simp at e
  | _, _, 0, _, .cons a _, e => by
    simp at e
    subst e
    exact ⟨_, rfl, a⟩
  | _, _, i + 1, _, .cons _ b, e => by
    obtain ⟨y, h1, h2⟩ := paired_get (i := i) b (by simpa using e)
    exact ⟨y, by simpa using h1, h2⟩
theorem paired_app {α β : Type} {r : α → β → Prop} : ∀ {xs : List α} {ys : List β} {xs' : List α} {ys' : List β}, Paired r xs ys → Paired r xs' ys' → Paired r (xs ++ xs') (ys ++ ys')
  | _, _, _, _, .nil, h => h
  | _, _, _, _, .cons a b, h => .cons a (paired_app b h)




abbrev s_law_leaves : Stmt := top 34
abbrev N_law_leaves : List Str := ["_law_form"]
abbrev P_law_leaves : List Str := ["_law_form"]
theorem sc_law_leaves : FnScope N_law_leaves P_law_leaves (defScope s_law_leaves) := ⟨rfl, rfl, rfl, by decide +kernel, rfl, by decide +kernel, by decide +kernel⟩


def spLvs (K : PySem.W.Frag) (n : Nat) : Sp := fun vs H Q _ => ∃ (v : V) (k : Nat) (D : PyData), vs = [v] ∧ k < n ∧ Dp K H v D ∧ isForm k D = true ∧ (lvs D).length ≤ 10000 ∧ ∀ (H' : Hp) (p : Addr) (us : List V), Same H H' → H' p = some (.lst us) → DpAll K H' us (lvs D) → Q (.ref p) H'

theorem dpAll_app {K : PySem.W.Frag} {H : Hp} : ∀ {xs : List V} {ds : List PyData} {ys : List V} {es : List PyData}, DpAll K H xs ds → DpAll K H ys es → DpAll K H (xs ++ ys) (ds ++ es)
  | _, _, _, _, .nil, h => h
  | _, _, _, _, .cons a b, h => .cons a (dpAll_app b h)
section
variable {P : Program} {w : World} {K : PySem.W.Frag} {mg : Str → Option Value} {base : Heap} {f : Addr} {fd : FuncData}
theorem ok_law_leaves {n : Nat} (T : Txt7 K mg) (F : Fun K "_law_leaves" "_law_leaves" s_law_leaves f fd) (C_law_leaves : Cal P w K mg base "_law_leaves" n P_law_leaves (spLvs K n)) : FnOk P w K mg base CX0 (n + 1) f fd P_law_leaves (spLvs K (n + 1)) := by
  refine F.ok sc_law_leaves (fun vs H Q E h => ?_) (fun cdv A outer s H vs Q E hr h => ?_)
  · obtain ⟨v, k, D, rfl, _⟩ := h
    rfl
  obtain ⟨v, k, D, rfl, hk, hv, hD, hL, q⟩ := h
  refine ⟨_, (pss_one (ps_ret (pe_ifExp (pt_cmpR op_eq (pe_callB call_len rfl T.len (by decide +kernel) (pa_cons (pv 0) pa_nil)) pe_int (nomark _)) (pe_lstN (pa_cons (pv 0) pa_nil)) (pe_op op_catLN (pe_callC C_law_leaves hr (pa_cons (pe_ix ix_tup (pv 0) pe_int (fun _ _ => rfl)) pa_nil)) (pe_callC C_law_leaves hr (pa_cons (pe_ix ix_tup (pv 0) pe_int (fun _ _ => rfl)) pa_nil)))))), ?_⟩
  rcases isForm_inv hD with ⟨x, m, rfl, hx, hn⟩ | ⟨j, x, a, b, rfl, rfl, hx, ha, hb⟩
  · cases hv with | @tup p xs _ hT hA => cases hA with | cons h1 hA => cases hA with | cons h2 hN =>
    cases hN
    rw [lvs2] at q
    refine ⟨_, rfl, _, _, rfl, .inr ⟨_, hT, rfl⟩, rfl, true, rfl, ?_⟩
    exact ⟨_, rfl, le1k, fun o H1 s1 e1 => q H1 o _ s1 e1 (.cons (.tup (seqT_same s1 hT) (.cons (dp_same s1 _ _ h1) (.cons (dp_same s1 _ _ h2) .nil))) .nil)⟩
  · cases hv with | @tup p xs _ hT hA => cases hA with | cons h1 hA => cases hA with | cons h2 hA => cases hA with | cons h3 hN =>
    cases hN
    rw [lvs3] at q hL
    rw [List.length_append] at hL
    refine ⟨_, rfl, _, _, rfl, .inr ⟨_, hT, rfl⟩, rfl, false, rfl, ?_⟩
    refine ⟨_, rfl, p, _, _, _, rfl, rfl, hT, rfl, _, j, a, rfl, by omega, h2, ha, by omega, fun H1 p1 us1 s1 e1 d1 => ?_⟩
    refine ⟨_, rfl, p, _, _, _, rfl, rfl, seqT_same s1 hT, rfl, _, j, b, rfl, by omega, dp_same s1 _ _ h3, hb, by omega, fun H2 p2 us2 s2 e2 d2 => ?_⟩
    refine ⟨p1, p2, us1, us2, rfl, rfl, s2 _ _ e1, e2, ?_, fun o H3 s3 e3 => ?_⟩
    · rw [dpAll_len d1, dpAll_len d2]
      exact hL
    · exact q H3 o _ (Same.trans s1 (Same.trans s2 s3)) e3 (dpAll_app (dpAll_same (Same.trans s2 s3) _ _ d1) (dpAll_same s3 _ _ d2))
end
end My

set_option Elab.async false
set_option linter.all false
set_option maxRecDepth 100000
namespace My
open PySem L2
abbrev s_law_leaf_many : Stmt := top 35
abbrev N_law_leaf_many : List Str := ["_law_ends", "_law_form"]
abbrev P_law_leaf_many : List Str := ["_law_ends"]
theorem sc_law_leaf_many : FnScope N_law_leaf_many P_law_leaf_many (defScope s_law_leaf_many) := ⟨rfl, rfl, rfl, by decide +kernel, rfl, by decide +kernel, by decide +kernel⟩
def spLeafMany (K : PySem.W.Frag) : Sp := fun vs H Q _ => ∃ (a : Addr) (xs : List V) (ds : List PyData), vs = [.ref a] ∧ SqL K H a xs ∧ DpAll K H xs ds ∧ ds.all (isForm 12) = true ∧ ds.length ≤ 10000 ∧ (ds.flatMap lvs).length ≤ 10000 ∧ ∀ H', Same H H' → Q (.int ((ds.flatMap lvs).length : Nat)) H'
theorem sum_lvs : ∀ ds : List PyData, (ds.map fun d => ((lvs d).length : Int)).sum = (((ds.flatMap lvs).length : Nat) : Int)
  | [] => rfl
  | d :: ds => by
    rw [List.map_cons, List.sum_cons, sum_lvs ds, List.flatMap_cons, List.length_append]
    omega
section
variable {P : Program} {w : World} {K : PySem.W.Frag} {mg : Str → Option Value} {base : Heap} {f : Addr} {fd : FuncData}
theorem ok_law_leaf_many (T : Txt7 K mg) (hsum : mg "sum" = none) (F : Fun K "_law_leaf_many" "_law_leaf_many" s_law_leaf_many f fd) (C_law_leaves : Cal P w K mg base "_law_leaves" 13 P_law_leaves (spLvs K 13)) : FnOk P w K mg base CX0 14 f fd P_law_leaf_many (spLeafMany K) := by
  refine F.ok sc_law_leaf_many (fun vs H Q E h => ?_) (fun cdv A outer s H vs Q E hr h => ?_)
  · obtain ⟨a, xs, ds, rfl, _⟩ := h
    rfl
  obtain ⟨a, xs, ds, rfl, hS, hA, hF, hN, hL, q⟩ := h
  refine ⟨_, (pss_one (ps_ret (pe_callB (cr_sum rfl) rfl hsum (by decide +kernel) (pa_cons (pe_lc (own := [("_law_form", 1)]) (g := (gName 1)) (te := tCB (fun xs H Q => ∃ x n, xs = [x] ∧ LenV K x H n ∧ Q (.int n) H) (tCons (tCall (spLvs K 13) [] E0 (tCons (tVar 1) tNil)) tNil)) rfl sc_law_leaf_many.nd (pi_list (pv 0)) (blkOk_by (own := [("_law_form", 1)]) (N := N_law_leaf_many) (sc := defScope s_law_leaf_many) (by decide +kernel)) (fun _ _ _ _ _ => (pg_name (i := 1) sc_law_leaf_many.nd rfl (Or.inl rfl))) (fun _ _ _ _ _ => pts_nil) (fun _ _ _ _ _ => (pe_callB call_len rfl T.len (by decide +kernel) (pa_cons (pe_callC C_law_leaves hr (pa_cons (pv 1) pa_nil)) pa_nil)))) pa_nil)))), ?_⟩
  have hl := dpAll_len hA
  refine ⟨_, rfl, a, rfl, ⟨xs, hS⟩, fun D nD => ?_⟩
  refine lc_it (walk_list (xs := xs)) (fun i H' => Same H H' ∧ H' D = some (.lst (((ds.take i).map fun d => ((lvs d).length : Int)).map V.int))) ⟨same_new nD _, upd_same⟩ (fun i H' _ p => p.1.seq hS) (fun i y H3 H4 hi p yy => ?_) (fun H3 p => ?_)
  · obtain ⟨rfl, hy⟩ := yy
    obtain ⟨s3, eD⟩ := p
    obtain ⟨d, hd, hyd⟩ := dpAll_at hA hy
    have fd : isForm 12 d = true := List.all_eq_true.mp hF d (List.mem_of_getElem? hd)
    have ln := flat_len lvs ds (i + 1)
    rw [flat_snoc lvs hd, List.length_append] at ln
    refine ⟨rfl, y, rfl, y, 12, d, rfl, by omega, dp_same s3 _ _ hyd, fd, by omega, fun H5 p5 us s5 e5 d5 => ⟨_, _, rfl, .inl ⟨us, SqL.of e5, rfl⟩, _, s5 _ _ eD, small10k ?_, same_at (Same.trans s3 s5) nD, ?_⟩⟩
    · rw [List.length_map, List.length_map, List.length_take]
      omega
    · rw [upd_same, take_next hd, List.map_append, List.map_append, dpAll_len d5]
      rfl
  · obtain ⟨s3, eD⟩ := p
    rw [List.take_of_length_le (by omega)] at eD
    refine ⟨D, _, rfl, SqL.of eD, ?_⟩
    rw [sum_lvs]
    exact q H3 s3
end
end My

set_option Elab.async false
set_option linter.all false
set_option maxRecDepth 100000
namespace My
open PySem L2
def NoEnds (K : PySem.W.Frag) (H : Hp) (v : V) : Prop := (∃ D, Dp K H v D ∧ shortD D = true ∧ widD D = true ∧ D.depth ≤ 60 ∧ isEnds D = false) ∨ ∃ (a : Addr) (kvs : List (Key × V)), v = .ref a ∧ H a = some (.dK kvs) ∧ (kvs.map (·.1)).Nodup ∧ ∀ p ∈ kvs, flatB p.2 = true
def spNoEnds (K : PySem.W.Frag) : Sp := fun vs H Q _ => ∃ (d L a : Addr) (ns : List Int) (n : Nat) (xs : List V) (ds : List PyData), vs = [.ref d, .ref a] ∧ Pen K H d L ns n ∧ n < 2 ^ 37 ∧ H a = some (.lst xs) ∧ DpAll K H xs ds ∧ isEnds (.list ds) = true ∧ ∀ v H', Keep d H H' → NoEnds K H' v → Q v H'
theorem NoEnds.x {K : PySem.W.Frag} {H H' : Hp} {v : V} (k : LamX.ExtN H H') (h : NoEnds K H v) : NoEnds K H' v := by
  rcases h with ⟨D, h1, h2⟩ | ⟨a, kvs, e, h1, h2⟩
  · exact .inl ⟨D, dp_x k _ _ h1, h2⟩
  · exact .inr ⟨a, kvs, e, k _ _ h1 (fun _ z => nomatch z), h2⟩
theorem shortAll_of : ∀ {ds : List PyData}, (∀ d ∈ ds, shortD d = true) → shortAll ds = true
  | [], _ => rfl
  | d :: ds, h => by
    show (shortD d && shortAll ds) = true
    rw [h d List.mem_cons_self, shortAll_of fun x hx => h x (List.mem_cons_of_mem _ hx)]
    rfl
theorem widAll_of : ∀ {ds : List PyData}, (∀ d ∈ ds, widD d = true) → widAll ds = true
  | [], _ => rfl
  | d :: ds, h => by
    show (widD d && widAll ds) = true
    rw [h d List.mem_cons_self, widAll_of fun x hx => h x (List.mem_cons_of_mem _ hx)]
    rfl
theorem depthAll_of {n : Nat} : ∀ {ds : List PyData}, (∀ d ∈ ds, d.depth ≤ n) → PyData.depthAll ds ≤ n
  | [], _ => by simp [PyData.depthAll]
  | d :: ds, h => by
    have a := h d List.mem_cons_self
    have b := depthAll_of (n := n) (ds := ds) fun x hx => h x (List.mem_cons_of_mem _ hx)
    simp only [PyData.depthAll]
    omega
theorem dpAll_drop {K : PySem.W.Frag} {H : Hp} : ∀ {xs : List V} {ds : List PyData} (n : Nat), DpAll K H xs ds → DpAll K H (xs.drop n) (ds.drop n)
  | _, _, 0, h => h
  | _, _, _ + 1, .nil => .nil
  | _, _, n + 1, .cons _ h => dpAll_drop n h
theorem dpAll_take {K : PySem.W.Frag} {H : Hp} : ∀ {xs : List V} {ds : List PyData} (n : Nat), DpAll K H xs ds → DpAll K H (xs.take n) (ds.take n)
  | _, _, 0, _ => .nil
  | _, _, _ + 1, .nil => .nil
  | _, _, n + 1, .cons a h => .cons a (dpAll_take n h)
/-- a slice's data are among the list's -/
theorem dpAll_cut {K : PySem.W.Frag} {H : Hp} {xs : List V} {ds : List PyData} (lo hi : Option Int) (h : DpAll K H xs ds) : ∃ es, DpAll K H (cutV xs lo hi) es ∧ ∀ d ∈ es, d ∈ ds :=
  ⟨_, dpAll_take _ (dpAll_drop _ h), fun d hd => List.mem_of_mem_drop (List.mem_of_mem_take hd)⟩
theorem dpAll_mem {K : PySem.W.Frag} {H : Hp} : ∀ {xs : List V} {ds : List PyData} {x : V}, DpAll K H xs ds → x ∈ xs → ∃ d ∈ ds, Dp K H x d
  | _, _, x, .nil, hx => by simp at hx
  | _, _, x, .cons a h, hx => by
    rcases List.mem_cons.mp hx with rfl | hx
    · exact ⟨_, List.mem_cons_self, a⟩
    · obtain ⟨d, h1, h2⟩ := dpAll_mem h hx
      exact ⟨d, List.mem_cons_of_mem _ h1, h2⟩
/-- lists that are no ends, as data -/
theorem noEnds_list {K : PySem.W.Frag} {H : Hp} {a : Addr} {xs : List V} {ds : List PyData} (ha : SqL K H a xs) (hd : DpAll K H xs ds) (hs : ∀ d ∈ ds, shortD d = true ∧ widD d = true ∧ d.depth ≤ 30) (hl : ds.length ≤ 1000) (no : isEnds (.list ds) = false) : NoEnds K H (.ref a) := by
  refine .inl ⟨.list ds, .lst ha hd, shortAll_of fun d h => (hs d h).1, ?_, ?_, no⟩
  · show (decide (ds.length ≤ 1000) && widAll ds) = true
    rw [decide_eq_true hl, widAll_of fun d h => (hs d h).2.1]
    rfl
  · have := depthAll_of (n := 30) fun d h => (hs d h).2.2
    simp only [PyData.depth]
    omega
theorem form_ok {k : Nat} {D : PyData} (h : isForm k D = true) (hk : k ≤ 20) : shortD D = true ∧ widD D = true ∧ D.depth ≤ 30 := ⟨short_form h, wid_form h, by have := depth_form h; omega⟩
theorem rep_flat (v : V) : ∀ m : Nat, (List.replicate m [v]).flatten = List.replicate m v
  | 0 => rfl
  | m + 1 => by
    rw [List.replicate_succ, List.flatten_cons, rep_flat v m, List.replicate_succ]
    rfl
theorem dpAll_rep {K : PySem.W.Frag} {H : Hp} {v : V} {D : PyData} (h : Dp K H v D) : ∀ m : Nat, DpAll K H (List.replicate m v) (List.replicate m D)
  | 0 => .nil
  | m + 1 => .cons h (dpAll_rep h m)
theorem rep_lvs (a b : PyData) : ∀ m : Nat, ((List.replicate m (PyData.tuple [a, b])).flatMap lvs).length = m
  | 0 => rfl
  | m + 1 => by
    rw [List.replicate_succ, List.flatMap_cons, List.length_append, rep_lvs a b m, lvs2]
    simp
    omega
theorem noEnds_form {K : PySem.W.Frag} {H : Hp} {v : V} {D : PyData} (h : Dp K H v D) (hD : isForm 12 D = true) : NoEnds K H v := by
  have no : isEnds D = false := by
    rcases isForm_inv hD with ⟨y, m, rfl, hy, hm⟩ | ⟨j, y, b, e, _, rfl, hy, hc, hd⟩
    · exact isEnds_bad (ds := [.str y, .str m]) (.inr rfl) (.inr (.inl ⟨.str y, by simp, rfl⟩))
    · exact isEnds_bad (ds := [.str y, b, e]) (.inr rfl) (.inr (.inl ⟨.str y, by simp, rfl⟩))
  have f := form_ok hD (by decide)
  exact .inl ⟨D, h, f.1, f.2.1, by omega, no⟩
abbrev N_law_no_ends : List Str := ["_law_pen", "_law_ends", "_law_way", "_law_at"]
abbrev P_law_no_ends : List Str := ["_law_pen", "_law_ends"]
section
variable {P : Program} {w : World} {K : PySem.W.Frag} {mg : Str → Option Value} {base : Heap} {f : Addr} {fd : FuncData}
end
end My

set_option Elab.async false
set_option linter.all false
set_option maxRecDepth 100000
namespace My
open PySem L2
abbrev s_law_unforked : Stmt := top 42
abbrev N_law_unforked : List Str := ["_law_form", "_law_branches", "_law_word", "_law_one", "_law_other"]
abbrev P_law_unforked : List Str := ["_law_form", "_law_branches"]
theorem sc_law_unforked : FnScope N_law_unforked P_law_unforked (defScope s_law_unforked) := ⟨rfl, rfl, rfl, by decide +kernel, rfl, by decide +kernel, by decide +kernel⟩
def spUnforked (K : PySem.W.Frag) (n : Nat) : Sp := fun vs H Q _ => ∃ (v : V) (D : PyData) (k : Nat) (m : Int), vs = [v, .int m] ∧ k < n ∧ Dp K H v D ∧ isForm k D = true ∧ 0 ≤ m ∧ m ≤ 100 ∧
  ∀ (H' : Hp) (p : Addr) (u : V) (D' : PyData) (m' : Int), Same H H' → SqT K H' p [u, .int m'] → Dp K H' u D' → isForm k D' = true → (lvs D').length = (lvs D).length → 0 ≤ m' → m' ≤ 100 → Q (.ref p) H'
theorem fork_half : ∀ w ∈ forkW, w ∈ halfW := by decide +kernel
section
variable {P : Program} {w : World} {K : PySem.W.Frag} {mg : Str → Option Value} {base : Heap} {f : Addr} {fd : FuncData}
theorem ok_law_unforked {n : Nat} (T : Txt7 K mg) (F : Fun K "_law_unforked" "_law_unforked" s_law_unforked f fd) (C_law_unforked : Cal P w K mg base "_law_unforked" n P_law_unforked (spUnforked K n)) : FnOk P w K mg base CX0 (n + 1) f fd P_law_unforked (spUnforked K (n + 1)) := by
  refine F.ok sc_law_unforked (fun vs H Q E h => ?_) (fun cdv A outer s H vs Q E hr h => ?_)
  · obtain ⟨v, D, k, m, rfl, _⟩ := h
    rfl
  obtain ⟨v, D, k, m, rfl, hk, hv, hD, m0, m1, q⟩ := h
  refine ⟨_, (pss_cons (ps_if (pt_cmpR op_eq (pe_callB call_len rfl T.len (by decide +kernel) (pa_cons (pv 0) pa_nil)) pe_int (nomark _))
    (pss_one (ps_ret (pe_tupN (pa_cons (pv 0) (pa_cons (pv 1) pa_nil)))))
    pss_nil)
  (pss_cons (ps_set (i := 2) sc_law_unforked.nd rfl (Or.inl rfl) (pe_ix ix_tup (pv 0) pe_int (fun _ _ => rfl)))
  (pss_cons (ps_if (pt_cmpR op_in_seq (pv 2) (pe_lstN (pa_cons pe_str (pa_cons pe_str pa_nil))) rfl)
    (pss_cons (ps_set (i := 2) sc_law_unforked.nd rfl (Or.inl rfl) (pe_ifExp (pt_cmpR op_gt (pv 1) pe_int (nomark _)) (pv 2) (pe_dget (hu_of hr) (pe_disp (pps_cons pe_str pe_str (pps_cons pe_str pe_str pps_nil)) (by rfl) (by rfl) (fun z => by cases z) (by decide)) (pv 2) (fun _ _ => rfl))))
    (pss_one (ps_set (i := 1) sc_law_unforked.nd rfl (Or.inl rfl) (pe_callB (call_max2 rfl) rfl T.max (by decide +kernel) (pa_cons pe_int (pa_cons (pe_op op_sub (pv 1) pe_int) pa_nil))))))
    pss_nil)
  (pss_cons (ps_asg (pe_callC C_law_unforked hr (pa_cons (pe_ix ix_tup (pv 0) pe_int (fun _ _ => rfl)) (pa_cons (pv 1) pa_nil))) (pg_tup rfl (pgs_cons (pg_name (i := 3) sc_law_unforked.nd rfl (Or.inl rfl)) (pgs_cons (pg_name (i := 1) sc_law_unforked.nd rfl (Or.inl rfl)) pgs_nil))))
  (pss_cons (ps_asg (pe_callC C_law_unforked hr (pa_cons (pe_ix ix_tup (pv 0) pe_int (fun _ _ => rfl)) (pa_cons (pv 1) pa_nil))) (pg_tup rfl (pgs_cons (pg_name (i := 4) sc_law_unforked.nd rfl (Or.inl rfl)) (pgs_cons (pg_name (i := 1) sc_law_unforked.nd rfl (Or.inl rfl)) pgs_nil))))
  (pss_one (ps_ret (pe_tupN (pa_cons (pe_tupN (pa_cons (pv 2) (pa_cons (pv 3) (pa_cons (pv 4) pa_nil)))) (pa_cons (pv 1) pa_nil)))))))))), ?_⟩
  rcases isForm_inv hD with ⟨x, mm, rfl, hx, hn⟩ | ⟨j, x, a, b, rfl, rfl, hx, ha, hb⟩
  · cases hv with | @tup p xs _ hT hA => cases hA with | cons h1 hA => cases hA with | cons h2 hN =>
    cases hN
    refine ⟨_, rfl, _, _, rfl, .inr ⟨_, hT, rfl⟩, rfl, true, rfl, ?_⟩
    exact ⟨_, rfl, _, rfl, le1k, fun t H1 s1 e1 => q H1 t _ _ m s1 e1 (dp_same s1 _ _ (.tup hT (.cons h1 (.cons h2 .nil)))) hD rfl m0 m1⟩
  · cases hv with | @tup p xs _ hT hA => cases hA with | cons h1 hA => cases hA with | cons h2 hA => cases hA with | cons h3 hN =>
    cases hN
    cases h1
    rename_i v1 v2
    have rest : True := trivial
    refine ⟨_, rfl, _, _, rfl, .inr ⟨_, hT, rfl⟩, rfl, false, rfl, ?_⟩
    refine ⟨_, rfl, p, _, _, _, rfl, rfl, hT, rfl, ?_⟩
    refine ⟨_, rfl, le1k, fun o H1 s1 e1 => ⟨o, _, rfl, .inl (SqL.of e1), rfl, rfl, _, rfl, ?_⟩⟩
    show (if inV (.str x) (forkW.map V.str) = true then _ else _)
    rw [inV_str]
    by_cases hy2 : x ∈ forkW
    · rw [decide_eq_true hy2]
      have max0 : ∀ i : Int, (if i - 1 > 0 then i - 1 else 0) ≤ 100 ∨ i > 101 := fun i => by
        by_cases c : i - 1 > 0
        · rw [if_pos c]; omega
        · rw [if_neg c]; omega
      refine iteT ⟨_, rfl, _, _, rfl, rfl, _, rfl, ?_⟩
      by_cases cm : (0 : Int) < m
      · rw [decide_eq_true cm]
        refine iteT ⟨_, rfl, ?_⟩
        obtain ⟨M, eM⟩ : ∃ M : Int, M = (if m - 1 > 0 then m - 1 else 0) := ⟨_, rfl⟩
        have M0 : 0 ≤ M := by
          rw [eM]
          by_cases c : m - 1 > 0
          · rw [if_pos c]; omega
          · rw [if_neg c]; omega
        have M1 : M ≤ 100 := by
          rw [eM]
          by_cases c : m - 1 > 0
          · rw [if_pos c]; omega
          · rw [if_neg c]; omega
        refine ⟨_, rfl, _, _, rfl, rfl, 0, m - 1, rfl, ?_⟩
        rw [← eM]
        refine ⟨_, rfl, p, _, _, _, rfl, rfl, seqT_same s1 hT, rfl, _, rfl, v1, a, j, M, rfl, by omega, dp_same s1 _ _ h2, ha, M0, M1, fun H2 t2 u2 D2 m2 s2 e2 d2 f2 l2 m20 m21 => ?_⟩
        have s12 := Same.trans s1 s2
        refine ⟨t2, _, rfl, e2, rfl, _, _, rfl, _, _, rfl, rfl, ?_⟩
        refine ⟨_, rfl, p, _, _, _, rfl, rfl, seqT_same s12 hT, rfl, _, rfl, v2, b, j, m2, rfl, by omega, dp_same s12 _ _ h3, hb, m20, m21, fun H3 t3 u3 D3 m3 s3 e3 d3 f3 l3 m30 m31 => ?_⟩
        refine ⟨t3, _, rfl, e3, rfl, _, _, rfl, _, _, rfl, rfl, ?_⟩
        refine ⟨_, rfl, _, rfl, _, rfl, le1k, fun t4 H4 s4 e4 => ⟨_, rfl, le1k, fun t5 H5 s5 e5 => ?_⟩⟩
        have s35 := Same.trans s4 s5
        refine q H5 t5 (.ref t4) (.tuple [.str x, D2, D3]) m3 (Same.trans s12 (Same.trans s3 s35)) e5 (.tup (seqT_same s5 e4) (.cons (.str _) (.cons (dp_same (Same.trans s3 s35) _ _ d2) (.cons (dp_same s35 _ _ d3) .nil)))) (isForm_node hx f2 f3) ?_ m30 m31
        rw [lvs3, lvs3, List.length_append, List.length_append, l2, l3]
      · rw [decide_eq_false cm]
        refine iteF ?_
        have hz : ∃ z : Str, z ∈ halfW ∧ valV (mergeK [] [(Sum.inr (Str.ofString "offered"), V.str "between"), (Sum.inr (Str.ofString "chosen"), V.str "both")]) (Sum.inr x) = some (.str z) := by
          simp only [forkW, List.mem_cons, List.not_mem_nil, or_false] at hy2
          rcases hy2 with rfl | rfl
          · exact ⟨"between", by decide +kernel, by rfl⟩
          · exact ⟨"both", by decide +kernel, by rfl⟩
        obtain ⟨z, hz1, hz2⟩ := hz
        intro p5 np5
        refine ⟨upd_same, [(.inr "offered", .str "between"), (.inr "chosen", .str "both")], rfl, by decide, ?_⟩
        have s5' : Same H1 (upd (upd H1 p5 (.dK [])) p5 (.dK (mergeK [] [(.inr "offered", .str "between"), (.inr "chosen", .str "both")]))) := fun b o e => by
          rw [upd_ne (ne_of_none e np5), upd_ne (ne_of_none e np5)]
          exact e
        have sq := Same.trans s1 s5'
        refine ⟨_, rfl, p5, .str z, rfl, .inl ⟨_, .inr x, .inl upd_same, rfl, hz2.symm⟩, ?_⟩
        obtain ⟨M, eM⟩ : ∃ M : Int, M = (if m - 1 > 0 then m - 1 else 0) := ⟨_, rfl⟩
        have M0 : 0 ≤ M := by
          rw [eM]
          by_cases c : m - 1 > 0
          · rw [if_pos c]; omega
          · rw [if_neg c]; omega
        have M1 : M ≤ 100 := by
          rw [eM]
          by_cases c : m - 1 > 0
          · rw [if_pos c]; omega
          · rw [if_neg c]; omega
        refine ⟨_, rfl, _, _, rfl, rfl, 0, m - 1, rfl, ?_⟩
        rw [← eM]
        refine ⟨_, rfl, p, _, _, _, rfl, rfl, seqT_same sq hT, rfl, _, rfl, v1, a, j, M, rfl, by omega, dp_same sq _ _ h2, ha, M0, M1, fun H2 t2 u2 D2 m2 s2 e2 d2 f2 l2 m20 m21 => ?_⟩
        have sq2 := Same.trans sq s2
        refine ⟨t2, _, rfl, e2, rfl, _, _, rfl, _, _, rfl, rfl, ?_⟩
        refine ⟨_, rfl, p, _, _, _, rfl, rfl, seqT_same sq2 hT, rfl, _, rfl, v2, b, j, m2, rfl, by omega, dp_same sq2 _ _ h3, hb, m20, m21, fun H3 t3 u3 D3 m3 s3 e3 d3 f3 l3 m30 m31 => ?_⟩
        refine ⟨t3, _, rfl, e3, rfl, _, _, rfl, _, _, rfl, rfl, ?_⟩
        refine ⟨_, rfl, _, rfl, _, rfl, le1k, fun t4 H4 s4 e4 => ⟨_, rfl, le1k, fun t5 H5 s5 e5 => ?_⟩⟩
        have s35 := Same.trans s4 s5
        refine q H5 t5 (.ref t4) (.tuple [.str z, D2, D3]) m3 (Same.trans sq2 (Same.trans s3 s35)) e5 (.tup (seqT_same s5 e4) (.cons (.str _) (.cons (dp_same (Same.trans s3 s35) _ _ d2) (.cons (dp_same s35 _ _ d3) .nil)))) (isForm_node hz1 f2 f3) ?_ m30 m31
        rw [lvs3, lvs3, List.length_append, List.length_append, l2, l3]
    · rw [decide_eq_false hy2]
      refine iteF ?_
      refine ⟨_, rfl, p, _, _, _, rfl, rfl, seqT_same s1 hT, rfl, _, rfl, v1, a, j, m, rfl, by omega, dp_same s1 _ _ h2, ha, m0, m1, fun H2 t2 u2 D2 m2 s2 e2 d2 f2 l2 m20 m21 => ?_⟩
      have s12 := Same.trans s1 s2
      refine ⟨t2, _, rfl, e2, rfl, _, _, rfl, _, _, rfl, rfl, ?_⟩
      refine ⟨_, rfl, p, _, _, _, rfl, rfl, seqT_same s12 hT, rfl, _, rfl, v2, b, j, m2, rfl, by omega, dp_same s12 _ _ h3, hb, m20, m21, fun H3 t3 u3 D3 m3 s3 e3 d3 f3 l3 m30 m31 => ?_⟩
      refine ⟨t3, _, rfl, e3, rfl, _, _, rfl, _, _, rfl, rfl, ?_⟩
      refine ⟨_, rfl, _, rfl, _, rfl, le1k, fun t4 H4 s4 e4 => ⟨_, rfl, le1k, fun t5 H5 s5 e5 => ?_⟩⟩
      have s35 := Same.trans s4 s5
      refine q H5 t5 (.ref t4) (.tuple [.str x, D2, D3]) m3 (Same.trans s12 (Same.trans s3 s35)) e5 (.tup (seqT_same s5 e4) (.cons (.str _) (.cons (dp_same (Same.trans s3 s35) _ _ d2) (.cons (dp_same s35 _ _ d3) .nil)))) (isForm_node hx f2 f3) ?_ m30 m31
      rw [lvs3, lvs3, List.length_append, List.length_append, l2, l3]
end
end My

set_option Elab.async false
set_option linter.all false
set_option maxRecDepth 100000
namespace My
open PySem L2
abbrev s_law_some_ends : Stmt := top 43
abbrev N_law_some_ends : List Str := ["_law_pen", "_law_most", "_law_branches", "_law_names_here", "_law_left", "_law_ends", "_law_tall", "_law_each", "_law_k", "_law_many", "_law_form"]
abbrev P_law_some_ends : List Str := ["_law_pen", "_law_most", "_law_branches"]
theorem sc_law_some_ends : FnScope N_law_some_ends P_law_some_ends (defScope s_law_some_ends) := ⟨rfl, rfl, rfl, by decide +kernel, rfl, by decide +kernel, by decide +kernel⟩
def spSomeEnds (K : PySem.W.Frag) : Sp := fun vs H Q _ => ∃ (d L : Addr) (ns : List Int) (n most : Nat) (br : Int), vs = [.ref d, .int (most : Nat), .int br] ∧ Pen K H d L ns n ∧ n < 2 ^ 36 ∧ 1 ≤ most ∧ most ≤ 40 ∧ 0 ≤ br ∧ br ≤ 100 ∧
  ∀ (p : Addr) (us : List V) (ds : List PyData) H', Keep d H H' → Pen K H' d L ns (n + 20000) → H' p = some (.lst us) → DpAll K H' us ds → isEnds (.list ds) = true → Q (.ref p) H'
section
variable {P : Program} {w : World} {K : PySem.W.Frag} {mg : Str → Option Value} {base : Heap} {f : Addr} {fd : FuncData}
theorem ok_law_some_ends (T : Txt7 K mg) (F : Fun K "_law_some_ends" "_law_some_ends" s_law_some_ends f fd) (C_law_draw : Cal P w K mg base "_law_draw" 1 P_law_draw (spDraw K)) (C_law_pick : Cal P w K mg base "_law_pick" 2 P_law_pick (spPick K)) (C_law_names : Cal P w K mg base "_law_names" 4 P_law_names (spNames K))
    (C_law_shape : Cal P w K mg base "_law_shape" 15 P_law_shape (spShape K 13)) (C_law_unforked : Cal P w K mg base "_law_unforked" 13 P_law_unforked (spUnforked K 13)) : FnOk P w K mg base CX0 16 f fd P_law_some_ends (spSomeEnds K) := by
  refine F.ok sc_law_some_ends (fun vs H Q E h => ?_) (fun cdv A outer s H vs Q E hr h => ?_)
  · obtain ⟨d, L, ns, n, most, br, rfl, _⟩ := h
    rfl
  obtain ⟨d, L, ns, n, most, br, rfl, hp, hn, o1, o2, br0, br1, q⟩ := h
  refine ⟨_, (pss_cons (ps_par3 (i := 3) (j := 4) (l := 5) (by rfl) sc_law_some_ends.nd rfl rfl rfl (by decide) (by decide) (by decide) rfl rfl rfl (pa_cons (pe_callC C_law_names hr (pa_cons (pv 0) (pa_cons pe_int pa_nil))) (pa_cons (pe_op op_add pe_int (pe_callC C_law_draw hr (pa_cons (pv 0) (pa_cons (pv 1) pa_nil)))) (pa_cons (pe_lst pa_nil) pa_nil))) (by rfl))
  (pss_cons (ps_par (i := 6) (j := 7) (by rfl) sc_law_some_ends.nd rfl rfl (by decide) rfl rfl (pa_cons (pe_callC C_law_pick hr (pa_cons (pv 0) (pa_cons (pe_lstN (pa_cons pe_int (pa_cons pe_int (pa_cons pe_int pa_nil)))) pa_nil))) (pa_cons (pe_callC C_law_pick hr (pa_cons (pv 0) (pa_cons (pe_lstN (pa_cons pe_int (pa_cons pe_int (pa_cons (pv 1) pa_nil)))) pa_nil))) pa_nil)) (by rfl))
  (pss_cons (ps_for PassesOwn.never rfl (pi_range1 rfl T.range (pa_cons (pv 1) pa_nil)) (pg_name (i := 8) sc_law_some_ends.nd rfl (Or.inl rfl))
    (pss_one (ps_if (pt_cmpR op_gt (pv 4) pe_int (nomark _))
      (pss_cons (ps_set (i := 9) sc_law_some_ends.nd rfl (Or.inl rfl) (pe_op op_add pe_int (pe_callC C_law_draw hr (pa_cons (pv 0) (pa_cons (pe_callB (cr_min rfl) rfl T.min (by decide +kernel) (pa_cons (pe_lstN (pa_cons (pv 4) (pa_cons (pv 7) (pa_cons (pe_op op_shl pe_int (pv 6)) pa_nil)))) pa_nil)) pa_nil)))))
      (pss_cons (ps_asg (pe_callC C_law_unforked hr (pa_cons (pe_callC C_law_shape hr (pa_cons (pv 0) (pa_cons (pv 3) (pa_cons (pv 9) (pa_cons (pv 6) pa_nil))))) (pa_cons (pv 2) pa_nil))) (pg_tup rfl (pgs_cons (pg_name (i := 10) sc_law_some_ends.nd rfl (Or.inl rfl)) (pgs_cons (pg_name (i := 2) sc_law_some_ends.nd rfl (Or.inl rfl)) pgs_nil))))
      (pss_cons (ps_expr (pe_bm PySem.F.plainAttrs_list PySem.F.slot_list_append PySem.F.type_list_append mt_append (pv 5) (pa_cons (pv 10) pa_nil)))
      (pss_one (ps_set (i := 4) sc_law_some_ends.nd rfl (Or.inl rfl) (pe_op op_sub (pv 4) (pv 9)))))))
      pss_nil)))
  (pss_one (ps_ret (pv 5)))))), ?_⟩
  refine ⟨_, rfl, d, L, ns, n, 4, rfl, hp, by omega, by decide, by decide, fun na zs H1 z1 z2 z3 sz k1 p1 => ?_⟩
  refine ⟨_, rfl, _, rfl, d, L, ns, _, (most : Int), rfl, p1, by omega, by omega, by omega, fun r H2 r0 r1 k2 p2 => ⟨_, _, rfl, rfl, Nat.zero_le _, fun e ne => ⟨_, _, _, rfl, ?_⟩⟩⟩
  have sz2 := seqL_keep p1.isDk k2 sz
  have k12 := k1.trans k2
  have pe_ := p2.fresh (o := .lst []) (Keep.refl d H2) p2.cells p2.isDk ne
  have ke : Keep d H2 (upd H2 e (.lst [])) := Same.toKeep (same_new ne _)
  have ee : upd H2 e (.lst []) e = some (.lst []) := upd_same
  generalize upd H2 e (.lst []) = H3 at *
  refine ⟨_, rfl, le1k, fun l1 H4 s4 e4 => ⟨d, L, ns, _, .ref l1, rfl, pe_.same s4, by omega, .inl ⟨l1, _, rfl, SqL.of e4, by simp, le1k, fun x H5 hx k5 p5 => ?_⟩⟩⟩
  refine ⟨_, rfl, _, rfl, le1k, fun l2 H6 s6 e6 => ⟨d, L, ns, _, .ref l2, rfl, p5.same s6, by omega, .inl ⟨l2, _, rfl, SqL.of e6, by simp, le1k, fun y H7 hy k7 p7 => ⟨_, _, rfl, ?_⟩⟩⟩⟩
  have hnd : e ≠ d := by
    obtain ⟨kvs, ed⟩ := p2.isDk
    exact (ne_of_none ed ne).symm
  obtain ⟨tall, rfl, t0, t1⟩ : ∃ m : Nat, x = V.int m ∧ 1 ≤ m ∧ m ≤ 12 := by
    simp only [List.mem_cons, List.not_mem_nil, or_false] at hx
    rcases hx with rfl | rfl | rfl <;>
      first | exact ⟨1, rfl, by decide, by decide⟩ | exact ⟨3, rfl, by decide, by decide⟩ | exact ⟨12, rfl, by decide, by decide⟩
  obtain ⟨each, rfl, c0⟩ : ∃ m : Nat, y = V.int m ∧ 1 ≤ m := by
    simp only [List.mem_cons, List.not_mem_nil, or_false] at hy
    rcases hy with rfl | rfl | rfl
    · exact ⟨1, rfl, by decide⟩
    · exact ⟨4, rfl, by decide⟩
    · exact ⟨most, rfl, o1⟩
  have ka : Keep d H2 H7 := ((((ke.trans (Same.toKeep s4)).trans k5).trans (Same.toKeep s6)).trans k7)
  have e7 : H7 e = some (.lst []) := (((((Same.toKeep s4)).trans k5).trans (Same.toKeep s6)).trans k7) _ _ hnd ee
  obtain ⟨tot, htot⟩ : ∃ tot : Nat, (tot : Int) = 1 + r := ⟨(1 + r).toNat, by omega⟩
  refine ⟨_, rfl, (most : Int), rfl, by omega, by omega, ?_⟩
  refine for_range (lo := 0) (n := ((most : Int)).toNat) (fun i σ H' => Keep d H2 H' ∧ ∃ (us : List V) (ds : List PyData) (T : Nat) (b : Int) (x8 x9 x10 : Option V),
    σ = [some (.ref d), some (.int (most : Nat)), some (.int b), some (.ref na), some (.int ((tot : Int) - (T : Int))), some (.ref e), some (.int (tall : Nat)), some (.int (each : Nat)), x8, x9, x10] ∧
    0 ≤ b ∧ b ≤ 100 ∧ Pen K H' d L ns (n + 60 + 5 * T) ∧ H' e = some (.lst us) ∧ DpAll K H' us ds ∧ (ds.flatMap lvs).length = T ∧ ds.length ≤ T ∧ ds.all (isForm 12) = true ∧ T ≤ tot ∧ (1 ≤ i → 1 ≤ ds.length))
    ⟨ka, [], [], 0, br, none, none, none, by show _ = [_, _, _, _, some (V.int ((tot : Int) - 0)), _, _, _, _, _, _]; rw [htot, Int.sub_zero]; rfl, br0, br1, p7.mono (by omega), e7, .nil, rfl, Nat.le_refl _, rfl, Nat.zero_le _, fun z => absurd z (by decide)⟩
    (fun i σ H8 hi ⟨k8, us, ds, T, b, x8, x9, x10, eσ, b0, b1, p8, e8, d8, l8, n8, f8, t8, z8⟩ => ?_) (fun σ H8 ⟨k8, us, ds, T, b, x8, x9, x10, eσ, b0, b1, p8, e8, d8, l8, n8, f8, t8, z8⟩ => ?_)
  · subst eσ
    have sz8 := seqL_keep p2.isDk k8 sz2
    refine ⟨_, rfl, _, _, rfl, rfl, _, rfl, ?_⟩
    refine ite2 (fun c => ?_) (fun c => ?_)
    · have c' : (0 : Int) < (tot : Int) - (T : Int) := of_decide_eq_true c
      refine ⟨_, rfl, _, rfl, _, rfl, _, rfl, _, _, rfl, rfl, ⟨by omega, by omega, by decide⟩, ?_⟩
      refine ⟨le1k, fun l9 H9 s9 e9 => ⟨_, [(tot : Int) - (T : Int), (each : Int), 1 * 2 ^ (tall : Int).toNat], rfl, SqL.of e9, Nat.succ_pos _, fun m hm hle => ?_⟩⟩
      have m1 := hle ((tot : Int) - (T : Int)) (by simp)
      have m2 := hle (1 * 2 ^ (tall : Int).toNat) (by simp)
      have m0 : 1 ≤ m := by
        simp only [List.mem_cons, List.not_mem_nil, or_false] at hm
        rcases hm with rfl | rfl | rfl
        · omega
        · omega
        · have : 0 < (2 : Int) ^ (tall : Int).toNat := Int.pow_pos (by decide)
          omega
      refine ⟨d, L, ns, _, m, rfl, p8.same s9, by omega, by omega, by omega, fun r' H10 r0' r1' k10 p10 => ?_⟩
      have m3 : m ≤ 2 ^ tall := by
        have e2 : (tall : Int).toNat = tall := Int.toNat_natCast tall
        rw [e2] at m2
        omega
      obtain ⟨M, hM⟩ : ∃ M : Nat, 1 + r' = (M : Int) := ⟨(1 + r').toNat, by omega⟩
      have hM2 : M ≤ 2 ^ tall := by
        have : ((2 ^ tall : Nat) : Int) = 2 ^ tall := by push_cast; rfl
        omega
      have k810 : Keep d H8 H10 := (Same.toKeep s9).trans k10
      have sz10 := seqL_keep p8.isDk k810 sz8
      refine ⟨_, _, rfl, rfl, _, rfl, _, rfl, _, rfl, _, rfl, d, L, ns, _, na, zs, M, tall, by show [V.ref d, V.ref na, V.int (1 + r'), V.int (tall : Nat)] = _; rw [hM], by omega, p10, by omega, sz10, z2, by omega, z1, by omega, by omega, hM2, by omega, fun v D H11 dv fv lv k11 p11 => ?_⟩
      refine ⟨_, rfl, v, D, tall, b, rfl, by omega, dv, fv, b0, b1, fun H12 p u D' m' s12 q12 du fu lu m0' m1' => ?_⟩
      have k812 : Keep d H8 H12 := (k810.trans k11).trans (Same.toKeep s12)
      have e12 : H12 e = some (.lst us) := k812 _ _ hnd e8
      refine ⟨_, _, rfl, q12, rfl, ?_⟩
      have kt := keepT_lst (o := .lst (us ++ [u])) e12
      have lus : us.length ≤ 40 := by
        have := dpAll_len d8
        omega
      refine ⟨_, _, rfl, _, _, rfl, rfl, ?_⟩
      refine ⟨_, rfl, .inl ⟨rfl, us, SqL.of e12⟩, _, rfl, e, us, _, rfl, rfl, e12, small1000 (by omega), ?_⟩
      refine ⟨_, rfl, _, rfl, _, _, rfl, rfl, ?_⟩
      refine ⟨keep_fresh (k8.trans k812) ne, us ++ [u], ds ++ [D'], T + M, m', some (V.int (0 + (i : Int))), some (V.int (1 + r')), some u, ?_, m0', m1', ((p11.same s12).fresh (k8.trans k812) p2.cells p2.isDk ne).mono (by omega), upd_same, ?_, ?_, ?_, ?_, by omega, fun _ => by simp⟩
      · show [_, _, _, _, some (V.int ((tot : Int) - (T : Int) - (1 + r'))), _, _, _, _, _, _] = _
        have : (tot : Int) - (T : Int) - (1 + r') = (tot : Int) - ((T + M : Nat) : Int) := by omega
        rw [this]
      · refine dpAll_snoc (dp_n kt _ _ (noL_form fu) du) (dpAll_n kt _ _ ?_ (dpAll_keep p8.isDk k812 _ _ d8))
        have := noLs_map_in (f := fun x : PyData => x) ds (fun a ha => noL_form (List.all_eq_true.mp f8 a ha))
        rwa [List.map_id'] at this
      · rw [List.flatMap_append, List.length_append, l8]
        show T + ([D'].flatMap lvs).length = _
        rw [List.flatMap_cons, List.flatMap_nil, List.append_nil, lu, lv]
      · rw [List.length_append]
        show ds.length + 1 ≤ _
        omega
      · rw [List.all_append, f8]
        show (isForm 12 D' && true) = true
        rw [isForm_le fu (by omega)]
        rfl
    · have c' : ¬ (0 : Int) < (tot : Int) - (T : Int) := of_decide_eq_false (by simpa using c)
      refine ⟨k8, us, ds, T, b, _, x9, x10, rfl, b0, b1, p8, e8, d8, l8, n8, f8, t8, fun _ => ?_⟩
      have : T ≠ 0 := by omega
      by_cases dz : ds = []
      · subst dz
        exact absurd l8.symm this
      · exact List.length_pos_iff.mpr dz
  · subst eσ
    have hne : 1 ≤ ds.length := z8 (by omega)
    refine ⟨_, rfl, q e us ds H8 (k12.trans k8) (p8.mono (by omega)) e8 d8 ?_⟩
    show (decide _ && decide _ && _ && decide _) = true
    rw [f8, l8, decide_eq_true hne, decide_eq_true (show ds.length ≤ 40 by omega), decide_eq_true (show T ≤ 40 by omega)]
    rfl
end
end My

set_option Elab.async false
set_option linter.all false
set_option maxRecDepth 100000
namespace My
open PySem L2
/-- texts of rows of forms -/
inductive RwX : List FT → List Nat → Prop
  | one {t : FT} {cs : List Nat} : Tx t cs → RwX [t] cs
  | cons {t : FT} {ts : List FT} {cs R : List Nat} : TxR (44 :: R) t cs → RwX ts R → RwX (t :: ts) cs
def zComma : Str := Str.ofString ","
theorem comma_stops (t : List Nat) : Stops (44 :: t) := ⟨(by decide +kernel : isLD 44 = false), (by decide +kernel : oneOf zTilde 44 = false), (by decide +kernel : oneOf zSpace 44 = false)⟩
theorem comma_fork (t : List Nat) : seesLB (44 :: t) forkC = false := (by decide +kernel : decide (44 ∈ forkC) = false)
/-- what was written, form by form -/
def WrL (K : PySem.W.Frag) (CW : Addr) (H : Hp) (ts : List FT) (vs : List V) : Prop := Paired (fun v t => Wr K CW H t v) vs ts
abbrev stake_ends : Stmt := top 22
abbrev Ntake_ends : List Str := ["reader", "parts"]
abbrev Ptake_ends : List Str := ["reader"]
theorem sctake_ends : FnScope Ntake_ends Ptake_ends (defScope stake_ends) := ⟨rfl, rfl, rfl, by decide +kernel, rfl, by decide +kernel, by decide +kernel⟩
abbrev stold_ends : Stmt := top 24
abbrev Ntold_ends : List Str := ["parts", "forms", "part"]
abbrev Ptold_ends : List Str := ["parts"]
theorem sctold_ends : FnScope Ntold_ends Ptold_ends (defScope stold_ends) := ⟨rfl, rfl, rfl, by decide +kernel, rfl, by decide +kernel, by decide +kernel⟩
abbrev Nends_text : List Str := ["ends", "form"]
abbrev Pends_text : List Str := ["ends"]
abbrev sread_ends : Stmt := top 29
abbrev Nread_ends : List Str := ["text", "reader", "parts"]
abbrev Pread_ends : List Str := ["text"]
theorem scread_ends : FnScope Nread_ends Pread_ends (defScope sread_ends) := ⟨rfl, rfl, rfl, by decide +kernel, rfl, by decide +kernel, by decide +kernel⟩
def spTakeEnds (K : PySem.W.Frag) (CR CW : Addr) : Sp := fun vs H Q _ => ∃ (p dx : Addr) (pre cs : List Nat) (ts : List FT), vs = [.ref p] ∧ H p = some (rO CR dx pre cs) ∧ RwX ts cs ∧ (pre ++ cs).length + 2 ≤ sizeLine ∧
  ∀ H' a vs', Keep p H H' → H' p = some (rO CR dx (pre ++ cs) []) → H' a = some (.lst vs') → WrL K CW H' ts vs' → Q (.ref a) H'
def lvsL (ts : List FT) : Nat := (ts.map FT.lvs).sum
def spToldEnds (K : PySem.W.Frag) (CW CD CM : Addr) : Sp := fun vs H Q E => ∃ (a : Addr) (us : List V) (ts : List FT), vs = [.ref a] ∧ SqL K H a us ∧ WrL K CW H ts us ∧ ts.length ≤ 10000 ∧
  ((∀ t ∈ ts, t.dep ≤ 12) → lvsL ts ≤ 40 → ∀ H' b xs, Same H H' → H' b = some (.lst xs) → H b = none → Paired (fun v t => Fm K H' t v) xs ts → Q (.ref b) H') ∧
  ((∃ t ∈ ts, 12 < t.dep) → badE CD "most" (.int 12) H E) ∧ ((∀ t ∈ ts, t.dep ≤ 12) → 40 < lvsL ts → badE CM "most" (.int 40) H E)
theorem TxR.len {R cs : List Nat} {t : FT} (h : TxR R t cs) : R.length ≤ cs.length := by
  obtain ⟨k, k2, txt, rest, fr, t, e, hh, ht, hfr, e2⟩ := h
  have hr : R.length ≤ rest.length := by
    rcases hfr with ⟨rfl, _⟩ | ⟨s, r, rfl⟩
    · cases ht
      exact Nat.le_refl _
    · cases ht with
      | lf _ _ c d hr ht =>
        cases ht
        simp only [List.length_append, List.length_cons, List.length_replicate]
        omega
  rw [e]
  simp only [List.length_append, List.length_replicate]
  omega
theorem RwX.len : ∀ {ts : List FT} {cs : List Nat}, RwX ts cs → ts.length ≤ cs.length + 1
  | _, _, .one _ => by simp
  | _, _, .cons (R := R) hT h => by
    have := RwX.len h
    have h1 := hT.len
    simp only [List.length_cons] at h1 ⊢
    omega
theorem WrL.gd {K : PySem.W.Frag} {CW : Addr} {H H' : Hp} (g : Gd CW H H') {ts : List FT} {vs : List V} (h : WrL K CW H ts vs) : WrL K CW H' ts vs := by
  unfold WrL at h ⊢
  induction h with
  | nil => exact .nil
  | cons h1 _ ih => exact .cons (h1.gd g) ih
section
variable {P : Program} {w : World} {K : PySem.W.Frag} {mg : Str → Option Value} {base : Heap} {f : Addr} {fd : FuncData} {CR CW fI : Addr}
theorem oktake_ends {R : RdTxt K CR} (M1 : Mth P w K mg base CR "sees" 1 NRd1 (spSees CR)) (M4 : Mth P w K mg base CR "take" 2 NRd1 (spTake CR)) (Ctake_form : Cal P w K mg base "take_form" 6 Ptake_form (spTakeForm K CR CW))
    (F : Fun K "take_ends" "take_ends" stake_ends f fd) : FnOk P w K mg base CX0 7 f fd Ptake_ends (spTakeEnds K CR CW) := by
  refine F.ok sctake_ends (fun vs H Q E h => ?_) (fun cdv A outer s H vs Q E hr h => ?_)
  · obtain ⟨p, dx, pre, cs, ts, rfl, _⟩ := h
    rfl
  obtain ⟨p, dx, pre, cs, ts, rfl, hp, ht, hl, q⟩ := h
  refine ⟨_, (pss_cons (ps_set (i := 1) sctake_ends.nd rfl (Or.inl rfl) (pe_lst (pa_cons (pe_callC Ctake_form hr (pa_cons (pv 0) pa_nil)) pa_nil)))
  (pss_cons (ps_while PassesOwn.never (pt_val (pe_methM M1 (pv 0) R.cl hr (pa_cons pe_str pa_nil)))
    (pss_cons (ps_expr (pe_methM M4 (pv 0) R.cl hr (pa_cons pe_str pa_nil)))
    (pss_one (ps_expr (pe_bm PySem.F.plainAttrs_list PySem.F.slot_list_append PySem.F.type_list_append mt_append (pv 1) (pa_cons (pe_callC Ctake_form hr (pa_cons (pv 0) pa_nil)) pa_nil))))))
  (pss_one (ps_ret (pv 1))))), ?_⟩
  obtain ⟨whole, hw⟩ : ∃ whole, whole = pre ++ cs := ⟨_, rfl⟩
  rw [← hw] at hl q
  -- one form, with R behind it
  have one : ∀ (H1 : Hp) (pre1 : List Nat) (cs1 : List Nat) (t : FT) (R1 : List Nat) (Q1 : VK), TxR R1 t cs1 → (R1 = [] ∨ ∃ r, R1 = 44 :: r) → H1 p = some (rO CR dx pre1 cs1) → whole = pre1 ++ cs1 →
      (∀ H' v pre', Keep p H1 H' → H' p = some (rO CR dx pre' R1) → pre' ++ R1 = whole → Wr K CW H' t v → Q1 v H') → spTakeForm K CR CW [V.ref p] H1 Q1 E0 := by
    intro H1 pre1 cs1 t R1 Q1 ⟨k, k2, txt, rest, fr, t0, e, hh, ht, hfr, e2⟩ hR1 h1 hw1 q1
    subst e
    subst e2
    have hs : Stops R1 ∧ seesLB R1 forkC = false := by
      rcases hR1 with rfl | ⟨r, rfl⟩
      · exact ⟨⟨rfl, rfl, rfl⟩, rfl⟩
      · exact ⟨comma_stops r, comma_fork r⟩
    exact ⟨p, dx, pre1, txt, rest, R1, k, k2, fr, t0, rfl, h1, hh, hs.1, hs.2, ht, hfr, by rw [← hw1]; exact hl, fun H' v pre' kp hp' e wv => q1 H' v pre' kp hp' (e.trans hw1.symm) wv⟩
  obtain ⟨t0, us0, R1, rfl, hT, hR1, hus⟩ : ∃ (t : FT) (us : List FT) (R1 : List Nat), ts = t :: us ∧ TxR R1 t cs ∧ (R1 = [] ∨ ∃ r, R1 = 44 :: r) ∧ ((us = [] ∧ R1 = []) ∨ ∃ r, R1 = 44 :: r ∧ RwX us r) := by
    cases ht with
    | one h => exact ⟨_, [], [], rfl, h, .inl rfl, .inl ⟨rfl, rfl⟩⟩
    | cons h h2 => exact ⟨_, _, _, rfl, h, .inr ⟨_, rfl⟩, .inr ⟨_, rfl, h2⟩⟩
  refine ⟨_, rfl, one H pre cs t0 R1 _ hT hR1 hp hw fun H1 v pre1 k1 h1 e1 w1 => ?_⟩
  refine ⟨(by show 1 ≤ sizeLine; decide), fun L nL => ?_⟩
  have nLp : L ≠ p := fun e => by rw [e, h1] at nL; cases nL
  have nLH : ∀ b o, H b = some o → b ≠ L := fun b o e z => by
    subst z
    rw [k1 b o nLp e] at nL
    cases nL
  have g1 : Gd CW H1 (upd H1 L (.lst [v])) := Gd.of_same (same_new nL _)
  refine ⟨fun m σ H' => ∃ (vs' : List V) (ts1 us : List FT) (pre' R' : List Nat), σ = [some (.ref p), some (.ref L)] ∧ Keep p H H' ∧ H' p = some (rO CR dx pre' R') ∧ pre' ++ R' = whole ∧ H' L = some (.lst vs') ∧ WrL K CW H' ts1 vs' ∧ t0 :: us0 = ts1 ++ us ∧ vs'.length ≤ pre'.length + 1 ∧ R'.length ≤ m ∧ ((us = [] ∧ R' = []) ∨ ∃ r, R' = 44 :: r ∧ RwX us r),
    ⟨_, [v], [t0], us0, pre1, R1, rfl, ?_, ?_, e1, upd_same, .cons (w1.gd g1) .nil, rfl, by simp, Nat.le_refl _, hus⟩, ?_⟩
  · intro b o n e
    rw [upd_ne (nLH b o e)]
    exact k1 b o n e
  · rw [upd_ne (Ne.symm nLp)]
    exact h1
  clear hus g1 w1 e1 h1 k1 v pre1 hR1 hT
  rintro m σ H' ⟨vs', ts1, us, pre', R', rfl, kp, hp', hw', hL, hwr, ets, hx, hm, hus⟩
  have hlw : pre'.length + R'.length + 2 ≤ sizeLine := by
    rw [← hw', List.length_append] at hl
    exact hl
  refine ⟨_, rfl, p, dx, _, rfl, hp', rF_no, p, dx, pre', R', zComma, rfl, hp', by omega, _, rfl, ?_⟩
  rcases hus with ⟨rfl, rfl⟩ | ⟨r, rfl, hrw⟩
  · rw [show seesB [] zComma = false from rfl]
    refine iteF ?_
    rw [List.append_nil] at ets hw'
    rw [ets] at q
    rw [hw'] at hp'
    exact ⟨_, rfl, q H' L vs' kp hp' hL hwr⟩
  · rw [show seesB (44 :: r) zComma = true from (by decide +kernel : oneOf zComma 44 = true)]
    refine iteT ⟨_, fun _ _ h => h, _, rfl, p, dx, _, rfl, hp', rF_no, p, dx, _, _, 44, zComma, rfl, hp', by decide +kernel, by simp only [List.length_cons] at hlw; omega, fun H2 m2 h2 => ?_⟩
    have g2 : Gd CW H' H2 := Gd.of_keep hp' m2.keep
    have hL2 : H2 L = some (.lst vs') := by rw [m2 L nLp]; exact hL
    obtain ⟨u, us', R2, rfl, hT2, hR2, hus2⟩ : ∃ (u : FT) (us' : List FT) (R2 : List Nat), us = u :: us' ∧ TxR R2 u r ∧ (R2 = [] ∨ ∃ r, R2 = 44 :: r) ∧ ((us' = [] ∧ R2 = []) ∨ ∃ r, R2 = 44 :: r ∧ RwX us' r) := by
      cases hrw with
      | one h => exact ⟨_, [], [], rfl, h, .inl rfl, .inl ⟨rfl, rfl⟩⟩
      | cons h h2 => exact ⟨_, _, _, rfl, h, .inr ⟨_, rfl⟩, .inr ⟨_, rfl, h2⟩⟩
    have hw2 : whole = (pre' ++ [44]) ++ r := by rw [← hw', List.append_assoc]; rfl
    refine ⟨_, rfl, .inl ⟨rfl, _, SqL.of hL2⟩, _, rfl, one H2 _ r u R2 _ hT2 hR2 h2 hw2 fun H3 v pre3 k3 h3 e3 w3 => ?_⟩
    have g3 : Gd CW H2 H3 := Gd.of_keep h2 k3
    have hL3 : H3 L = some (.lst vs') := k3 L _ nLp hL2
    have l2 := hT2.len
    have e3' : pre3.length + R2.length = pre'.length + 1 + r.length := by
      have := congrArg List.length e3
      rw [hw2] at this
      simp only [List.length_append, List.length_cons, List.length_nil] at this
      omega
    simp only [List.length_cons] at hm hlw
    refine ⟨L, _, _, rfl, rfl, hL3, by omega, ?_⟩
    refine ⟨r.length, by omega, vs' ++ [v], ts1 ++ [u], us', pre3, R2, rfl, ?_, ?_, e3, upd_same, ?_, ?_, ?_, l2, hus2⟩
    · intro b o n e
      rw [upd_ne (nLH b o e)]
      exact ((kp.trans m2.keep).trans k3) b o n e
    · rw [upd_ne (Ne.symm nLp)]
      exact h3
    · have g4 := Gd.of_lst (CW := CW) (ys := vs' ++ [v]) hL3
      exact paired_app (((hwr.gd g2).gd g3).gd g4) (.cons (w3.gd g4) .nil)
    · rw [ets, List.append_assoc]
      rfl
    · rw [List.length_append]
      show vs'.length + 1 ≤ _
      omega
end
end My

set_option Elab.async false
set_option linter.all false
set_option maxRecDepth 100000
namespace My
open PySem L2
def commaS : List Nat := [44, 32]
theorem join_ZS (a : List Nat) (ys : List (List Nat)) : Txt.join (Z a) (ys.map Z) = Z (TL.joinL a ys) := by
  have e := TL.tl_join (Z a) (ys.map Z)
  have m : (ys.map Z).map TL.tl = ys := by
    rw [List.map_map]
    exact List.map_id' _
  rw [m] at e
  exact TL.ext_tl ((congrArg TL.tl (TL.join_eq (Z a) (ys.map Z))).trans e)
def rowS (ts : List FT) : List Nat := TL.joinL commaS (ts.map (wrt false))
def rowN (ts : List FT) : Nat := (ts.map fun t => (wrt false t).length).sum + 2 * ts.length
theorem rowN_take (ts : List FT) {t : FT} (h : t ∈ ts) : (wrt false t).length ≤ rowN ts := by
  induction ts with
  | nil => cases h
  | cons x ts ih =>
    unfold rowN at ih ⊢
    simp only [List.map_cons, List.sum_cons, List.length_cons]
    rcases List.mem_cons.mp h with rfl | h
    · omega
    · have := ih h
      omega
theorem paired_len {α β : Type} {r : α → β → Prop} {xs : List α} {ys : List β} (h : Paired r xs ys) : xs.length = ys.length := by
  induction h with
  | nil => rfl
  | cons _ _ ih => rw [List.length_cons, List.length_cons, ih]
theorem paired_take {α β : Type} {r : α → β → Prop} : ∀ {xs : List α} {ys : List β} {i : Nat} {x : α}, Paired r xs ys → xs[i]? = some x → ∃ y, ys[i]? = some y ∧ r x y
  | _, _, i, x, .nil, e => by simp at e
  | _, _, 0, x, .cons h _, e => by
    simp at e
    subst e
    exact ⟨_, rfl, h⟩
  | _, _, i + 1, x, .cons _ h, e => by
    obtain ⟨y, h1, h2⟩ := paired_take (i := i) h (by simpa using e)
    exact ⟨y, by simpa using h1, h2⟩
def spEndsText (K : PySem.W.Frag) (CB : Addr) : Sp := fun vs H Q E => ∃ v, vs = [v] ∧
  ((∃ (a : Addr) (xs : List V) (ts : List FT), v = .ref a ∧ (SqL K H a xs ∨ SqT K H a xs) ∧ Paired (fun v t => Fm K H t v) xs ts ∧ 1 ≤ ts.length ∧ (∀ t ∈ ts, t.dep ≤ 12 ∧ t.Ok) ∧ lvsL ts ≤ 40 ∧ rowN ts + 100 ≤ sizeLine ∧ ∀ H', Same H H' → Q (.str (Z (rowS ts))) H') ∨
  (∃ D, Dp K H v D ∧ shortD D = true ∧ widD D = true ∧ isEnds D = false ∧ badV CB v H E) ∨ (isDict H v ∧ badV CB v H E))
def spReadEnds (K : PySem.W.Frag) (CB CD CM : Addr) : Sp := fun vs H Q E => ∃ v, vs = [v] ∧ ((∃ ts cs, v = .str (Z cs) ∧ RwX ts cs ∧ cs.length + 12 ≤ sizeLine ∧ ts.length ≤ 10000 ∧
    ((∀ t ∈ ts, t.dep ≤ 12) → lvsL ts ≤ 40 → ∀ H' b xs, Same H H' → H' b = some (.lst xs) → H b = none → Paired (fun v t => Fm K H' t v) xs ts → Q (.ref b) H') ∧
    ((∃ t ∈ ts, 12 < t.dep) → badE CD "most" (.int 12) H E) ∧ ((∀ t ∈ ts, t.dep ≤ 12) → 40 < lvsL ts → badE CM "most" (.int 40) H E)) ∨
  (∃ D, Dp K H v D ∧ isStrD D = false ∧ badE CB "value" v H E) ∨ (isDictV H v ∧ badE CB "value" v H E))
theorem joined_sum (f : FT → List Nat) : ∀ ts : List FT, (((ts.map f).map Z).map (·.length)).sum = (ts.map fun t => (f t).length).sum
  | [] => rfl
  | t :: ts => by
    simp only [List.map_cons, List.sum_cons]
    rw [joined_sum f ts, Z_len]
section
variable {P : Program} {w : World} {K : PySem.W.Frag} {mg : Str → Option Value} {base : Heap} {f : Addr} {fd : FuncData} {CR CW fI : Addr}
theorem okread_ends {CB CD CM : Addr} {R : RdTxt K CR} (R2 : RdTxt2 K mg CR fI) {fdI : FuncData} (GI : FnOk P w K mg base CX0 1 fI fdI NRd0 (spRd0 CR)) (bI : Binds K fdI NRd0 []) (Cct : CalX P w K mg base "check_text" 4 Ncheck_text (spCheckText K CB))
    (Ctf : Cal P w K mg base "take_ends" 7 Ptake_ends (spTakeEnds K CR CW)) (M3 : Mth P w K mg base CR "finish" 2 NRd2 (spFinish CR)) (Cto : CalX P w K mg base "told_ends" 5 Ptold_ends (spToldEnds K CW CD CM)) (F : Fun K "read_ends" "read_ends" sread_ends f fd) :
    FnOk P w K mg base (L2.CX P w) 8 f fd Pread_ends (spReadEnds K CB CD CM) := by
  refine F.okX scread_ends (fun vs H Q E h => ?_) (fun cdv A outer s H vs Q E hr h => ?_)
  · obtain ⟨v, rfl, _⟩ := h
    rfl
  obtain ⟨v, rfl, h⟩ := h
  refine ⟨_, (pss_cons (ps_expr (pe_callS Cct.ok (hr.mono (by decide)) rfl Cct.m Cct.kp Cct.b (fun σ => passAt (takes_of rfl rfl rfl rfl) σ) (pa_cons (pv 0) pa_nil)))
  (pss_cons (ps_set (i := 1) scread_ends.nd rfl (Or.inl rfl) (pe_make R2.made GI (hr.mono (by decide)) rfl R2.g bI .nil pass0 (pa_cons (pv 0) pa_nil)))
  (pss_cons (ps_set (i := 2) scread_ends.nd rfl (Or.inl rfl) (pe_callC Ctf hr (pa_cons (pv 1) pa_nil)))
  (pss_cons (ps_expr (pe_methM0 M3 (pv 1) R.cl hr))
  (pss_one (ps_ret (pe_callS Cto.ok (hr.mono (by decide)) rfl Cto.m Cto.kp Cto.b (fun σ => passAt (takes_of rfl rfl rfl rfl) σ) (pa_cons (pv 2) pa_nil)))))))), ?_⟩
  rcases h with ⟨ts, cs, rfl, hrw, hl, hn, q1, q2, q3⟩ | ⟨D, hv, hn, q⟩ | ⟨hd, q⟩
  · refine ⟨_, rfl, _, rfl, .inl ⟨.str _, .str _, fun _ => ?_, fun z => by cases z⟩⟩
    refine ⟨_, rfl, fun x dx nx nd ne => ⟨x, dx, _, rfl, upd_same, fun H1 m1 h1 => ⟨rfl, ?_⟩⟩⟩
    have s1 : Same H H1 := same_mv (same_make nx nd ne) nx m1
    refine ⟨_, rfl, x, dx, [], cs, ts, rfl, h1, hrw, by rw [List.nil_append]; omega, fun H2 a vs' k2 h2 ha w2 => ?_⟩
    have s2 : Same H H2 := fun b o e => k2 b o (ne_of_none e nx) (s1 b o e)
    refine ⟨_, rfl, x, dx, _, rfl, h2, rF_no, x, dx, _, rfl, h2, by rw [List.nil_append]; omega, ?_⟩
    refine ⟨_, rfl, a, vs', ts, rfl, SqL.of ha, w2, hn, fun c1 c2 H' b xs s3 hb nb hp => q1 c1 c2 H' b xs (s2.trans s3) hb (s2.free nb) hp, fun c => (q2 c).same s2, fun c1 c2 => (q3 c1 c2).same s2⟩
  · exact ⟨_, rfl, _, rfl, .inl ⟨D, hv, fun z => (by rw [hn] at z; cases z), fun _ => q⟩⟩
  · exact ⟨_, rfl, _, rfl, .inr ⟨hd, q⟩⟩
end
end My

set_option Elab.async false
set_option linter.all false
set_option maxRecDepth 100000
/-! LcX: a list comprehension whose element is a call that may raise. -/
namespace LcX
open PySem PySem.Spec PyProof.Rows L2
/-- what is wished behind the block: as compPost, but the env that passes an exception on has the frame fr -/
def after (M : Model) (A : Around) (E : Value → Shared → Prop) (use : Option (Value → Sem Unit)) (Q : Value → Shared → Prop) (acc : Value) (C : Addr) (fr : Option Addr) : Result → Shared → Prop
  | .ok r, t => compPost M A E use Q acc C (.ok r) t
  | .error x, t => ∃ m, t.heap.Ns C m ∧ ∀ h2, Heap.SameBut C t.heap h2 → ∀ ce : Env, ce.locals = C → ce.frame = fr → wpAny M A (passOn "comprehension.variables-let-go" x ce : Sem Value) (fun _ _ => False) E { t with heap := h2 }
theorem comp_run {M : Model} {A : Around} {E : Value → Shared → Prop} {env : Env} {s : Shared} {e : Expr} {scope : Scope} {pos : Pos} {mk src : Sem Value} {c0 : Comprehension} {cs : List Comprehension} {cl : List (Str × Addr)} {use : Option (Value → Sem Unit)} {Q : Value → Shared → Prop}
    (k1 : clausesOf e = c0 :: cs) (k2 : ∀ x, foldedSetIterable c0.iter env x = pure x) (k3 : closureFor scope env = pure cl) (k4 : scope.kind = .function) (k5 : ∀ x ∈ scope.names, x.2 = .local → scope.names.lookup x.1 = some .local)
    (go : wpAny M A src (fun x t1 => wpAny M A (pyIter x) (fun it t2 => wpAny M A mk (fun acc t3 => wpAny M A (newFunctionEnv scope env.globals cl [] env.qual none .none (some env)) (fun ce t4 =>
      ce.frame = env.frame ∧ codeAny M A (.compStart e 0 it acc { ce with scope := relabel scope env }) (after M A E use Q acc ce.locals env.frame) t4) E t3) E t2) E t1) E s) :
    wpAny M A (comprehension e scope env pos mk false src use) Q E s := by
  unfold comprehension
  rw [k3, k1]
  refine wpAny_bind (wpAny_mono go (fun x t1 g1 => ?_) fun _ _ y => y)
  refine wpAny_bind (wpAny_standAt (wpAny_bind (wpAny_of_eq (k2 x) (wpAny_bind (wpAny_holding (wpAny_mono g1 (fun it t2 g2 => ?_) fun _ _ y => y))))))
  refine wpAny_standIf (wpAny_bind (wpAny_mono g2 (fun acc t3 g3 => ?_) fun _ _ y => y))
  refine wpAny_bind (wpAny_pure (wpAny_bind (wpAny_mono g3 (fun ce t4 g4 => ?_) fun _ _ y => y)))
  obtain ⟨hfr, g4⟩ := g4
  dsimp only
  have loc1 : ∀ z ∈ (scope.names.filter fun x => (x.2 == .local || x.2 == .cell) && x.1 != (".0" : Str)).reverse, z.2 = .local → Env.kindOf { ce with scope := relabel scope env } z.1 = some .local := by
    intro z hz hl
    exact lookup_relabel_local (k5 z (List.mem_filter.mp (List.mem_reverse.mp hz)).1 hl)
  refine wpAny_holding (wpAny_bind (wpAny_attempt (wpAny_holding (wpAny_run (codeAny_mono g4 fun r t hr => ?_)))))
  match r with
  | .ok f =>
    match use with
    | none =>
      obtain ⟨m, hn, hr⟩ := hr
      exact wpAny_bind (wpAny_holding (wpAny_comp_letGo (cenv := { ce with scope := relabel scope env }) k4 _ t m loc1 hn fun h2 m2 _ sb => wpAny_pure (hr h2 sb)))
    | some u =>
      have loc2 : ∀ z ∈ (scope.names.filter fun x => (x.2 == .local || x.2 == .cell) && x.1 != (".0" : Str)).reverse.drop 1 ++ (scope.names.filter fun x => (x.2 == .local || x.2 == .cell) && x.1 != (".0" : Str)).reverse.take 1,
          z.2 = .local → Env.kindOf { ce with scope := relabel scope env } z.1 = some .local := by
        intro z hz hl
        rcases List.mem_append.mp hz with a | a
        · exact loc1 z (List.mem_of_mem_drop a) hl
        · exact loc1 z (List.mem_of_mem_take a) hl
      refine wpAny_bind (wpAny_rule (wpAny_bind (wpAny_holding (wpAny_mono hr (fun _ t5 g5 => ?_) fun _ _ y => y))))
      obtain ⟨m, hn, g5⟩ := g5
      exact wpAny_bind (wpAny_comp_letGo (cenv := { ce with scope := relabel scope env }) k4 _ t5 m loc2 hn fun h2 m2 _ sb => wpAny_pure (g5 h2 sb))
  | .error x =>
    obtain ⟨m, hn, hr⟩ := hr
    exact wpAny_bind (wpAny_holding (wpAny_comp_letGo (cenv := { ce with scope := relabel scope env }) k4 _ t m loc1 hn fun h2 m2 _ sb => wpAny_mono (hr h2 sb { ce with scope := relabel scope env } rfl hfr) (fun _ _ z => z.elim) fun _ _ y => y))
theorem frames_at {h h2 G B : Heap} : ∀ {l : List Env}, h.FunFrames G l → (∀ b ∈ frs l, B.get? b = none ∧ ∀ o, h.get? b = some o → (∀ vs, o.data ≠ .fields vs) → ∃ sl, h2.get? b = some { o with slots := sl }) → h2.FunFrames B l
  | [], _, _ => trivial
  | env :: l, q, k => by
    obtain ⟨k1, ⟨L, o, k2, k3, k4, k5⟩, k6⟩ := q
    obtain ⟨z1, z2⟩ := k L (List.mem_filterMap.mpr ⟨env, List.mem_cons_self, k2⟩)
    obtain ⟨sl, z3⟩ := z2 o k4 k5
    refine ⟨k1, ⟨L, _, k2, z1, z3, k5⟩, frames_at k6 fun b hb => ?_⟩
    obtain ⟨e, he, q⟩ := List.mem_filterMap.mp hb
    exact k b (List.mem_filterMap.mpr ⟨e, List.mem_cons_of_mem _ he, q⟩)
section
variable {X : Cx} {pins : List (Addr × Obj)} {σ : L2.St} {H H' : Hp} {s s' : Shared} {B : Heap} {W : WX} {a : Addr} {cls : Value} {d : Option Addr}
/-- noted by our frame, after a call: in our air -/
theorem air (I : Inv X pins σ H s) (fl : HandSPX.HeldZ B X.stack a (Zc cls d) X.env.locals s'.heap) (hok : HOk X.prog X.w H' B) (ub : UB (frs X.stack) H H' s.heap B s'.heap) (na : H' a = none) (os : s'.os = s.os) (ag : AllBare s'.gens) (w : W cls d σ H') :
    XE X W (.ref a) s' := by
  have st : B.StaysIn s'.heap := fl.1
  obtain ⟨G, g1, g2⟩ := restrict s'.heap fun b => (B.get? b).isSome || decide (b ∈ frs X.stack)
  have in1 : ∀ b o, B.get? b = some o → G.get? b = some o := by
    intro b o e
    rw [g1 b (by rw [e]; rfl)]
    exact st b o e
  have in2 : ∀ b, b ∈ frs X.stack → G.get? b = s'.heap.get? b := by
    intro b hb
    exact g1 b (by rw [decide_eq_true hb, Bool.or_true])
  have out : ∀ b o, G.get? b = some o → s'.heap.get? b = some o ∧ (b ∉ frs X.stack → B.get? b = some o) := by
    intro b o e
    by_cases q : ((B.get? b).isSome || decide (b ∈ frs X.stack)) = true
    · have e2 := e
      rw [g1 b q] at e2
      refine ⟨e2, fun hb => ?_⟩
      rw [decide_eq_false hb, Bool.or_false] at q
      obtain ⟨o2, q⟩ := Option.isSome_iff_exists.mp q
      have z := st b o2 q
      rw [e2] at z
      cases z
      exact q
    · rw [g2 b (Bool.eq_false_iff.mpr q)] at e
      cases e
  refine ⟨a, B, { s with heap := G, gens := s'.gens, drawn := s'.drawn, toks := s'.toks }, pins, σ, H', cls, d, rfl, ?_, fun b o e => (out b o e).2, Heap.UpToSlots.of_keeps fun b o e => (out b o e).1, .inr (.inr fl), na, os, ag, w⟩
  refine I.call (ch := []) ⟨fun b o e n hb _ => in1 b o (ub.keep b o e n hb), ?_, fun b o e n _ => ub.free b o e n, ?_, ub.tups, ub.frzs, ub.tbls⟩ (hok.kept in1) ag (fun _ z => nomatch z)
  · intro b o e _ hb _
    obtain ⟨sl, q⟩ := ub.slot b o e hb
    exact ⟨sl, (in2 b hb).trans q⟩
  · intro b o e _
    by_cases hb : b ∈ frs X.stack
    · obtain ⟨sl, q⟩ := ub.slot b o e hb
      exact ⟨_, (in2 b hb).trans q⟩
    · obtain ⟨o2, q⟩ := ub.there b o e hb
      exact ⟨o2, in1 b o2 q⟩
/-- a call in the block raises: noted, the block's names let go, passed on -/
theorem out_of {E : XK} {C : Addr} {m : Str → Option Value} {ce : Env} {use : Option (Value → Sem Unit)} {Q : Value → Shared → Prop} {acc u : Value} (tk : Takes X (fun cls d _ H => E cls d H)) (hs : X.stack = X.env :: X.outer) (hf : X.env.frame = some X.env.locals)
    (I : Inv X pins σ H s) (fC : FpOk X pins H C) (hn : s.heap.Ns C m) (hce : ce.frame = X.env.frame) (c : CX X.prog X.w X.stack H s E u s') :
    notedBy (model X.prog X.w) X.A ce (fun e t => after (model X.prog X.w) X.A X.xe use Q acc C X.env.frame (.error e) t) u s' := by
  obtain ⟨a, B, H', cls, d, rfl, fl, hok, ub, na, os, ag, hE⟩ := c
  have hfr : X.A.frames = some (X.env :: X.outer) := by rw [I.ok.frames, hs]
  have nCf : C ∉ frs X.stack := fun z => by
    rcases List.mem_cons.mp (I.stkSub C z) with z | z
    · exact fC.2.1 z
    · exact fC.2.2.1 z
  obtain ⟨oC, esC, epC, hC, hdC, _⟩ := id hn
  have BC : B.get? C = some oC := ub.keep C oC hC fC.1 nCf
  have H'C : H' C = none := ub.free C oC hC fC.1
  have same : noteFrame (.ref a) ce = noteFrame (.ref a) X.env := by
    unfold noteFrame PySem.frameOf
    rw [hce]
  show wpAny _ X.A (noteFrame (.ref a) ce) _ _ s'
  rw [same]
  rw [hs] at fl
  refine HandSPX.looks_onZ Zc.steady hfr hf fl fun h6 held up6 => ?_
  obtain ⟨st6, nBa, ff6, tr6⟩ := held
  refine ⟨m, ?_, fun h7 sb ce2 _ fr2 => ?_⟩
  · exact hn.at fun o e => by
      rw [hC] at e
      cases e
      exact st6 C oC BC
  -- the ground without the block's names
  obtain ⟨B7, b1, b2⟩ := restrict B fun b => decide (b ≠ C)
  obtain ⟨G, g1, g2⟩ := restrict s.heap fun b => decide (b ≠ C)
  have bo : ∀ b, b ≠ C → B7.get? b = B.get? b := fun b n => b1 b (decide_eq_true n)
  have bC : B7.get? C = none := b2 C (decide_eq_false fun n => n rfl)
  have go : ∀ b, b ≠ C → G.get? b = s.heap.get? b := fun b n => g1 b (decide_eq_true n)
  have gC : G.get? C = none := g2 C (decide_eq_false fun n => n rfl)
  have gin : ∀ b o, G.get? b = some o → b ≠ C ∧ s.heap.get? b = some o := fun b o e => by
    have n : b ≠ C := fun z => by rw [z, gC] at e; cases e
    rw [go b n] at e
    exact ⟨n, e⟩
  have st7 : B7.StaysIn h7 := fun b o e => by
    have n : b ≠ C := fun z => by rw [z, bC] at e; cases e
    rw [bo b n] at e
    exact (sb.2 b n).trans (st6 b o e)
  obtain ⟨oe, vs, T, oT, ts, t1, t2, t3, t4, t5, t6, t7, t8, t9⟩ := tr6
  have nFC : ∀ b o vs, h6.get? b = some o → o.data = .fields vs → b ≠ C := fun b o vs e ed z => by
    rw [z, st6 C oC BC] at e
    cases e
    rw [hdC] at ed
    cases ed
  have naC := nFC a oe vs t1 t3
  have nTC := nFC T oT ts t7 t8
  have ffs : ∀ b ∈ frs X.stack, B.get? b = none ∧ ∃ o, h6.get? b = some o ∧ ∀ vs, o.data ≠ .fields vs := fun b hb => ff6.mem (by rw [hs] at hb; exact hb)
  have held7 : HandSPX.HeldZ B7 X.stack a (Zc cls d) X.env.locals h7 := by
    refine ⟨st7, (bo a naC).trans nBa, ?_, oe, vs, T, oT, ts, (sb.2 a naC).trans t1, t2, t3, t4, (bo T nTC).trans t5, t6, (sb.2 T nTC).trans t7, t8, t9⟩
    rw [← hs] at ff6
    refine frames_at ff6 fun b hb => ?_
    have n : b ≠ C := fun z => nCf (by rw [← z]; exact hb)
    exact ⟨(bo b n).trans (ffs b hb).1, fun o e _ => ⟨o.slots, (sb.2 b n).trans e⟩⟩
  show wpAny _ X.A (PySem.passOn "comprehension.variables-let-go" (.ref a) ce2 : Sem Value) (fun _ _ => False) X.xe { s' with heap := h7 }
  unfold PySem.passOn
  refine wpAny_bind (wpAny_field ((sb.2 a naC).trans t1) t3 t4 ?_)
  rw [if_neg (show ¬ ((Value.ref T == Value.none) = true) from by simp)]
  rw [fr2, hf]
  refine wpAny_bind (HandSPX.setFlight_onZ held7 fun h8 held8 up8 => wpAny_throw (tk _ _ ?_))
  -- the state without them
  have I0 : Inv X pins σ H { s with heap := G, toks := s.toks } := I.turned (fun b o n e => (go b n).trans e) fC.1 fC.2.1 fC.2.2.2.1 fC.2.2.2.2.1 fC.2.2.2.2.2
  have up68 : ∀ b o, b ≠ C → h6.get? b = some o → (∀ vs, o.data ≠ .fields vs) → ∃ sl, h8.get? b = some { o with slots := sl } := fun b o n e nf => up8 b o ((sb.2 b n).trans e) nf
  refine air (W := fun cls d _ H => E cls d H) I0 held8 ?_ ⟨fun b o e n hb => ?_, fun b o e hb => ?_, fun b o e n => ub.free b o (gin b o e).2 n, fun b o e hb => ?_, ub.tups, ub.frzs, ub.tbls⟩ na os ag hE
  · intro b o q
    refine (hok b o q).stay (fun c u hc r => ?_) (fun _ r => r) fun _ _ r => r
    refine (bo c fun z => ?_).trans r
    subst z
    rcases hc with hc | hc
    · rw [← hc, H'C] at q
      cases q
    · rw [H'C] at hc
      cases hc
  · obtain ⟨nC, e⟩ := gin b o e
    exact (bo b nC).trans (ub.keep b o e n hb)
  · obtain ⟨nC, e⟩ := gin b o e
    obtain ⟨sl, e2⟩ := ub.slot b o e hb
    obtain ⟨_, o6, e6, nf6⟩ := ffs b hb
    have nf : ∀ vs, ({ o with slots := sl } : Obj).data ≠ .fields vs := by
      obtain ⟨_, o1, e1, nf1⟩ := I.stack.mem hb
      rw [e] at e1
      cases e1
      exact nf1
    obtain ⟨sl2, e3⟩ := up6 b _ e2 nf
    obtain ⟨sl3, e4⟩ := up68 b _ nC e3 nf
    exact ⟨sl3, e4⟩
  · obtain ⟨nC, e⟩ := gin b o e
    obtain ⟨o2, e2⟩ := ub.there b o e hb
    exact ⟨o2, (bo b nC).trans e2⟩
end
/-- the block's context, with a wish about exceptions -/
abbrev blkE (X : Cx) (s : Shared) (H : Hp) (scope : Scope) (ce : Env) (fp : List Addr) (xe : Value → Shared → Prop) : Cx := { X.blk s H scope ce fp with xe := xe }
section
variable {X : Cx} {pins : List (Addr × Obj)} {σ : L2.St} {H : Hp} {s : Shared} {scope : Scope} {ce : Env} {fp : List Addr} {xe : Value → Shared → Prop}
theorem toE {t : Shared} {τ : L2.St} {G : Hp} (I : Inv (X.blk s H scope ce fp) pins τ G t) : Inv (blkE X s H scope ce fp xe) pins τ G t :=
  ⟨⟨I.ok.mod, I.ok.kind, I.ok.glob, I.ok.blt, I.ok.above, I.ok.inj, I.ok.has, I.ok.cab, I.ok.hd, I.ok.frames, I.ok.stk, I.ok.exf, I.ok.bs, I.ok.bsz, I.ok.noex, I.ok.exfs, I.ok.funs, I.ok.frf⟩, I.os, I.bare, I.base, I.loc, I.cell, I.free, I.freeC, I.pin, I.hok, I.len⟩
theorem ofE {t : Shared} {τ : L2.St} {G : Hp} (I : Inv (blkE X s H scope ce fp xe) pins τ G t) : Inv (X.blk s H scope ce fp) pins τ G t :=
  ⟨⟨I.ok.mod, I.ok.kind, I.ok.glob, I.ok.blt, I.ok.above, I.ok.inj, I.ok.has, I.ok.cab, I.ok.hd, I.ok.frames, I.ok.stk, I.ok.exf, I.ok.bs, I.ok.bsz, I.ok.noex, I.ok.exfs, I.ok.funs, I.ok.frf⟩, I.os, I.bare, I.base, I.loc, I.cell, I.free, I.freeC, I.pin, I.hok, I.len⟩
end
section
variable {X : Cx} {E : XK}
/-- what a call in the block may raise -/
def Rz (X : Cx) (E : XK) (s : Shared) (H : Hp) (scope : Scope) (ce : Env) (fp : List Addr) (u : Value) (t : Shared) : Prop :=
  ∃ (pins : List (Addr × Obj)) (σ : L2.St) (G : Hp) (r : Shared), Inv (X.blk s H scope ce fp) pins σ G r ∧ CX X.prog X.w X.stack G r E u t
theorem Rz.passes {s : Shared} {H : Hp} {scope : Scope} {ce : Env} {fp : List Addr} (σ : L2.St) : PassesAt (L2.CX X.prog X.w) (blkE X s H scope ce fp (Rz X E s H scope ce fp)) σ E :=
  fun pins G r _ _ I c => ⟨pins, σ, G, r, ofE I, c⟩
/-- name = [element for target in source], the element may raise E -/
theorem ps_setLcX {i : Nat} {y : Str} {py : Pos} {elt tg iter : Expr} {scope : Scope} {own : List (Str × Nat)} {pos spos : Pos} {wi : TI} {g : TG} {te : TE} (tk : Takes X (fun cls d _ H => E cls d H)) (hst : X.stack = X.env :: X.outer) (hfm : X.env.frame = some X.env.locals)
    (hc : X.calm = true) (hN : X.N.Nodup) (hy : X.N[i]? = some y) (hyl : X.env.scope.names.lookup y = some .local) (hsw : swapsWith (.ListComp elt [⟨tg, iter, [], 0⟩] scope pos) (some (.Name y py)) spos.line X.env = pure true)
    (hi : PI X tg iter wi) (ok : BlkOk X.N X.env.scope scope own)
    (hg : ∀ (s : Shared) (H : Hp) (C : Addr) (cl : List (Str × Addr)) (fp : List Addr) (xe : Value → Shared → Prop), PG (blkE X s H scope (compEnvC scope cl C X.env) fp xe) tg g)
    (he : ∀ (s : Shared) (H : Hp) (C : Addr) (cl : List (Str × Addr)) (fp : List Addr) (xe : Value → Shared → Prop), (∀ σ, PassesAt (L2.CX X.prog X.w) (blkE X s H scope (compEnvC scope cl C X.env) fp xe) σ E) → PE (blkE X s H scope (compEnvC scope cl C X.env) fp xe) elt te)
    (hs : ∀ x, foldedSetIterable iter X.env x = pure x := by intro _; rfl) :
    PS X (.Assign [.Name y py] (.ListComp elt [⟨tg, iter, [], 0⟩] scope pos) spos) (tAsg (tLc wi g tYes te (own.map (·.2))) (gName i)) := by
  refine ⟨fun pins s σ H D I h => ?_⟩
  rw [exec_Assign_Name_used _ _ _ _ hsw]
  refine wpAny_bind (wpAny_standAt (wpAny_bind ?_))
  show wpAny _ X.A (do let _ ← comprehension (.ListComp elt [⟨tg, iter, [], 0⟩] scope pos) scope X.env (firstIterPos [⟨tg, iter, [], 0⟩] pos) (newList []) false (eval iter X.env) (some (assign (.Name y py) X.env))) _ _ s
  have h : tLc wi g tYes te (own.map (·.2)) σ H (fun x H1 => gName i x σ H1 D.nx) := h
  have clo : ∀ z ∈ scope.names, z.2 = .free → ∃ c, X.env.cells.lookup z.1 = some c := fun z hz e => (ok.free z hz e).elim (fun k => I.ok.has _ (.inl k)) fun k => I.ok.has _ (.inr k)
  refine wpAny_bind (wpAny_mono (Q := fun _ t => SP X pins D .next t) ?_ (fun _ t q => wpAny_pure (wpAny_pure q)) fun _ _ z => z)
  refine comp_run rfl hs (closure_ok clo) ok.kind (fun z hz e => by rw [ok.uniq z hz, e]) ?_
  refine thn (hi.run pins s σ H _ I h) fun xv s1 hx => ?_
  refine thn hx fun itv s2 h2 => ?_
  obtain ⟨it, fp, tn, J, H2, rfl, I2, T, st2, f2, q⟩ := h2
  refine wpAny_newObj_type (newEnv_comp ⟨rfl, ?_⟩) (by show 0 ≤ sizeLine; decide)
  generalize hD : s2.heap.objs.size = L
  have nL : H2 L = none := I2.hok.fresh (Nat.le_of_eq hD)
  obtain ⟨W, ⟨m0, w0⟩, turn⟩ := q L nL
  generalize hs3 : ({ s2 with heap := s2.heap.push { cls := .type "list", data := .seq ([] : List Value).toArray } } : Shared) = s3
  have h3 : s3.heap = s2.heap.push { cls := .type "list", data := .seq ([] : List Value).toArray } := by rw [← hs3]
  have I3 : Inv X pins σ (upd H2 L (.lst [])) s3 := by
    rw [← hs3]
    refine I2.laid (t' := s2.toks) (fun b o e => Heap.get?_push_of_some _ e) (Nat.le_of_eq hD) ⟨Nat.zero_le _, [], 0, .nil, ?_⟩
    rw [← hD]
    exact Heap.get?_push_size _ rfl
  have f3 : ∀ b ∈ fp, FpOk X pins (upd H2 L (.lst [])) b ∧ b < s3.heap.objs.size := by
    intro b hb
    obtain ⟨o, e, _⟩ := T.obj _ _ st2 b hb
    have lt := Heap.lt_size e
    refine ⟨⟨?_, (f2 b hb).2⟩, by rw [h3, Heap.size_push]; exact Nat.lt_succ_of_lt lt⟩
    rw [upd_ne (by rw [← hD]; exact Nat.ne_of_lt lt)]
    exact (f2 b hb).1
  have st3 : tn 0 s3.heap := T.keep _ _ _ st2 fun b _ o e => by
    rw [h3]
    exact Heap.get?_push_of_some _ e
  have I4 := block_start I3 ok hN f3
  show codeAny _ _ (.compStart (.ListComp elt [⟨tg, iter, [], 0⟩] scope pos) 0 (.ref it) (.ref L) (compEnvC scope (cellsFrom (s3.heap.objs.size + 1) scope.names (cloFrom X.env.cells scope.names [])) s3.heap.objs.size X.env))
    (after (model X.prog X.w) X.A X.xe (some (assign (.Name y py) X.env)) (fun _ t => SP X pins D .next t) (.ref L) s3.heap.objs.size X.env.frame) { s3 with heap := pushCells (s3.heap.push { cls := .type "dict", data := .dict #[] }) scope.names }
  have nfp : ∀ b ∈ fp, (upd H2 L (.lst [])) b = none := fun b hb => (f3 b hb).1.1
  generalize hce : compEnvC scope (cellsFrom (s3.heap.objs.size + 1) scope.names (cloFrom X.env.cells scope.names [])) s3.heap.objs.size X.env = ce at I4 ⊢
  have cL : ce.locals = s3.heap.objs.size := by rw [← hce]; rfl
  have cF : ce.frame = X.env.frame := by rw [← hce]; rfl
  generalize hH3 : upd H2 L (.lst []) = H3 at I3 I4 w0 nfp f3
  have pg := hg s3 H3 s3.heap.objs.size (cellsFrom (s3.heap.objs.size + 1) scope.names (cloFrom X.env.cells scope.names [])) fp (Rz X E s3 H3 scope ce fp)
  have pe := he s3 H3 s3.heap.objs.size (cellsFrom (s3.heap.objs.size + 1) scope.names (cloFrom X.env.cells scope.names [])) fp (Rz X E s3 H3 scope ce fp)
  rw [hce] at pg pe
  have pe := pe fun σ => Rz.passes σ
  generalize hs4 : ({ s3 with heap := pushCells (s3.heap.push { cls := .type "dict", data := .dict #[] }) scope.names } : Shared) = s4 at I4 ⊢
  have st4 : tn 0 s4.heap := T.keep _ _ _ st3 fun b _ o e => by
    rw [← hs4]
    exact pushCells_keeps _ _ _ _ (Heap.get?_push_of_some _ e)
  -- back in the def's context
  have back : ∀ {ps : List (Addr × Obj)} {τ : L2.St} {G : Hp} {r : Shared}, Inv (X.blk s3 H3 scope ce fp) ps τ G r → Inv X pins σ G r ∧ FpOk X pins G s3.heap.objs.size ∧ ∃ m, r.heap.Ns s3.heap.objs.size m := by
    intro ps τ G r J
    have nC : G ce.locals = none := J.free
    obtain ⟨m, hn, _⟩ := J.loc
    have hn : r.heap.Ns ce.locals m := hn
    rw [cL] at nC hn
    exact ⟨I3.call' (ch := fp) J.os J.base J.hok J.bare fun b hb => ⟨(f3 b hb).1.2.2.2.1, (f3 b hb).1.2.1, (f3 b hb).1.2.2.2.2.1, (f3 b hb).1.2.2.2.2.2⟩, I3.fpOk (Nat.le_refl _) nC, m, hn⟩
  have fail : ∀ (u : Value) (t : Shared), Rz X E s3 H3 scope ce fp u t →
      notedBy (model X.prog X.w) X.A ce (fun e t => after (model X.prog X.w) X.A X.xe (some (assign (.Name y py) X.env)) (fun _ t => SP X pins D .next t) (.ref L) s3.heap.objs.size X.env.frame (.error e) t) u t := by
    rintro u t ⟨ps, τ, G, r, J, c⟩
    obtain ⟨J1, J2, m, J3⟩ := back J
    exact out_of tk hst hfm J1 J2 J3 cF c
  have stat : ∀ {τ : L2.St} {G : Hp} {r : Shared}, Inv (blkE X s3 H3 scope ce fp (Rz X E s3 H3 scope ce fp)) [] τ G r → (∀ b ∈ fp, G b = none) → ∀ b ∈ fp, FpOk (blkE X s3 H3 scope ce fp (Rz X E s3 H3 scope ce fp)) [] G b := by
    intro τ G r J hn b hb
    refine ⟨hn b hb, (J.ok.exf b hb).1, J.ok.exfs b hb, .inl hb, fun x c e => (J.ok.exf b hb).2 x c e, fun p hp => ?_⟩
    have hp : p ∈ ([] : List (Addr × Obj)) := hp
    cases hp
  have loop : codeAny (model X.prog X.w) X.A (.compLoop (.ListComp elt [⟨tg, iter, [], 0⟩] scope pos) 0 (.ref it) (.ref L) ce)
      (after (model X.prog X.w) X.A X.xe (some (assign (.Name y py) X.env)) (fun _ t => SP X pins D .next t) (.ref L) s3.heap.objs.size X.env.frame) s4 := by
    refine compLoop_any (fun n t => ∃ j G, Inv (blkE X s3 H3 scope ce fp (Rz X E s3 H3 scope ce fp)) [] (wipe σ (own.map (·.2))) G t ∧ tn j t.heap ∧ (∀ b ∈ fp, G b = none) ∧ W j n G) ?_ m0 ⟨0, H3, toE I4, st4, nfp, w0⟩
    rintro n s5 ⟨j, H5, I5, st5, n5, w5⟩
    rcases turn j n H5 w5 with ⟨stop, qq⟩ | ⟨gogo, Nx, hNx, step⟩
    · refine thnF (T.done (blkE X s3 H3 scope ce fp (Rz X E s3 H3 scope ce fp)) rfl rfl rfl hc j [] s5 _ H5 (fun _ _ => False) I5 (stat I5 n5) st5 stop) fun r s6 ⟨hr, I6⟩ => ?_
      subst hr
      obtain ⟨J, ⟨f0, f1, f2, f3, f4, f5⟩, m, hn⟩ := back (ofE I6)
      show wpAny _ _ (assign (.Name y py) X.env (.ref L)) _ _ _
      refine wpAny_assign_Name (store_ok2 (v := V.ref L) J hN hy (.inl hyl) rfl (fun s7 I7 ⟨a, sb, ha⟩ => ?_) (.inr hyl))
      have haC : s3.heap.objs.size ≠ a := by
        rcases ha with z | z
        · rw [z]
          exact f1
        · exact fun e => f4 y a z e.symm
      refine ⟨m, hn.sameBut sb haC, fun h8 sb8 => ?_⟩
      exact ⟨_, H5, I7.turned (t' := s7.toks) (fun b o hb e => (sb8.2 b hb).trans e) f0 f1 f3 f4 f5, qq⟩
    · refine thnF (T.item (blkE X s3 H3 scope ce fp (Rz X E s3 H3 scope ce fp)) rfl rfl rfl hc j [] s5 _ H5 (fun _ _ => False) I5 (stat I5 n5) st5 gogo) fun r s6 ⟨u, hr, h6⟩ => ?_
      subst hr
      refine thnF h6 fun _ s7 ⟨x, H7, I7, r7, y7, st7, n7⟩ => ?_
      have I8 := I7.pinned (stat I7 n7) (T.obj _ _ st7)
      refine wpAny_mono (pg.run _ s7 _ H7 x u _ I8 r7 (step x H7 y7)) (fun _ s8 ⟨τ, H8, I9, hw8, q8⟩ => ?_) fail
      refine wpAny_tests_nil ?_
      have q8 : te τ H8 fun y H4 => ∃ acc, H4 L = some (.lst acc) ∧ acc.length < sizeLine ∧ Nx (upd H4 L (.lst (acc ++ [y]))) := q8
      show wpAny _ _ _ _ _ _
      refine wpAny_mono (pe.run _ s8 τ H8 _ I9 q8) (fun z s10 ⟨yv, H10, I10, r10, acc, hD10, hz10, nx⟩ => ?_) fail
      refine app_ok (X := blkE X s3 H3 scope ce fp (Rz X E s3 H3 scope ce fp)) I10 hD10 hz10 r10 fun s11 I11 => ?_
      obtain ⟨m', hm, w'⟩ := hNx _ nx
      have pinned : ∀ b ∈ fp, ∀ o, s7.heap.get? b = some o → s11.heap.get? b = some o ∧ (upd H10 L (.lst (acc ++ [yv]))) b = none := fun b hb o e =>
        let k := I11.pin (b, o) (List.mem_append_right _ (List.mem_append_right _ (mem_pinsAt hb e)))
        ⟨k.1, k.2.1⟩
      refine ⟨m', hm, j + 1, _, (I11.unpinned (pins := [])).weak (by rw [← hw8, wipe_length]) (fun k v e => ?_), T.keep _ _ _ st7 fun b hb o e => (pinned b hb o e).1, fun b hb => ?_, w'⟩
      · rw [← hw8] at e
        exact (wipe_some e).1
      · obtain ⟨o, e, _⟩ := T.obj _ _ st7 b hb
        exact (pinned b hb o e).2
  exact codeAny_compStart_list loop (T.self X.A 0 _ _ _ st4 loop)
end
end LcX

set_option Elab.async false
set_option linter.all false
set_option maxRecDepth 100000
namespace My
open PySem L2
theorem KT.of_lst {L : Addr} {H : Hp} {xs ys : List V} (hL : H L = some (.lst xs)) : KT H (upd H L (.lst ys)) := fun a o n h => by
  refine (upd_ne (fun e => ?_)).trans h
  subst e
  rw [hL] at h
  have h := Option.some.inj h
  subst h
  rcases n with ⟨_, e⟩ | ⟨_, _, e⟩ <;> cases e
structure TxtSum (K : PySem.W.Frag) (mg : Str → Option Value) : Prop where
  sum : mg "sum" = none
theorem lvsL_sum : ∀ ts : List FT, (ts.map fun t => (t.lvs : Int)).sum = ((lvsL ts : Nat) : Int)
  | [] => rfl
  | t :: ts => by
    unfold lvsL
    rw [List.map_cons, List.sum_cons, List.map_cons, List.sum_cons, lvsL_sum ts]
    unfold lvsL
    omega
section
variable {P : Program} {w : World} {K : PySem.W.Frag} {mg : Str → Option Value} {base : Heap} {f : Addr} {fd : FuncData} {CR CW fI : Addr}
theorem oktold_ends {CD CM : Addr} (T : WrTxt K mg CW fI) (T7 : Txt7 K mg) (TS : TxtSum K mg) (OM : OneE P w K mg base "TooMany" "most" CM) (Cto : CalX P w K mg base "told_form" 4 Ntold_form (spToldX K CW CD)) (F : Fun K "told_ends" "told_ends" stold_ends f fd) :
    FnOk P w K mg base (L2.CX P w) 5 f fd Ptold_ends (spToldEnds K CW CD CM) := by
  refine F.okX sctold_ends (fun vs H Q E h => ?_) (fun cdv A outer s H vs Q E hr h => ?_)
  · obtain ⟨a, us, ts, rfl, _⟩ := h
    rfl
  obtain ⟨a, us, ts, rfl, hs, hw, hn, q1, q2, q3⟩ := h
  refine ⟨_, (pss_cons (LcX.ps_setLcX (i := 1) (own := [("part", 2)]) (g := (gName 2)) (te := tCallS (spToldX K CW CD) (fun _ => E) (tCons (tVar 2) tNil)) (takes_of rfl rfl rfl rfl) rfl rfl rfl sctold_ends.nd rfl rfl (sw_true rfl rfl rfl (by decide +kernel)) (pi_list (pv 0)) (blkOk_by (own := [("part", 2)]) (N := Ntold_ends) (sc := defScope stold_ends) (by decide +kernel))
      (fun _ _ _ _ _ _ => (pg_name (i := 2) sctold_ends.nd rfl (Or.inl rfl))) (fun _ _ _ _ _ _ hx => (pe_callS Cto.ok (hr.mono (by decide)) rfl Cto.m Cto.kp Cto.b hx (pa_cons (pv 2) pa_nil))))
  (pss_cons (ps_if (pt_cmpR op_gt (pe_callB (cr_sum rfl) rfl TS.sum (by decide +kernel) (pa_cons (pe_lc (own := [("part", 2)]) (g := (gName 2)) (te := tFld K (tVar 2) "leaves") rfl sctold_ends.nd (pi_list (pv 0)) (blkOk_by (own := [("part", 2)]) (N := Ntold_ends) (sc := defScope stold_ends) (by decide +kernel)) (fun _ _ _ _ _ => (pg_name (i := 2) sctold_ends.nd rfl (Or.inl rfl))) (fun _ _ _ _ _ => pts_nil) (fun _ _ _ _ _ => (pe_fld (pv 2) rfl))) pa_nil)) (pe_globE T7.MOST_LEAVES) (nomark _))
    (pss_one (ps_raise1 (k := 0) OM rfl (hr.mono (by decide)) (takes_of rfl rfl rfl rfl) (pe_globE T7.MOST_LEAVES)))
    pss_nil)
  (pss_one (ps_ret (pv 1))))), ?_⟩
  have hlen := paired_len hw
  have hl : us.length ≤ 10000 := by omega
  -- all of the right depth, or not
  refine ⟨_, rfl, a, rfl, ⟨us, hs⟩, fun L nL => ?_⟩
  refine lc_it (walk_list (xs := us)) (fun i H' => Same H H' ∧ ∃ xs, H' L = some (.lst xs) ∧ Paired (fun v t => Fm K H' t v) xs (ts.take i) ∧ ∀ t ∈ ts.take i, t.dep ≤ 12) ⟨same_new nL _, [], upd_same, .nil, (by intro t h; cases h)⟩
    (fun i H' _ p => p.1.seq hs) (fun i y H3 H4 hi p yy => ?_) (fun H3 p => ?_)
  · obtain ⟨rfl, hy⟩ := yy
    obtain ⟨s3, xs, eL, hp, hd⟩ := p
    obtain ⟨t, ht, hyt⟩ := paired_take hw hy
    have tm : t ∈ ts := List.mem_of_getElem? ht
    refine ⟨rfl, y, rfl, y, t, rfl, Wr.gd (Gd.of_same s3) hyt, fun c u hu => ?_, fun c => (q2 ⟨t, tm, c⟩).same s3⟩
    have gl := KT.of_lst (ys := xs ++ [u]) eL
    have pl := paired_len hp
    rw [List.length_take] at pl
    refine ⟨xs, eL, small10k (by omega), same_at s3 nL, xs ++ [u], upd_same, ?_, fun t' h' => ?_⟩
    · rw [take_next ht]
      exact paired_app (paired_imp (fun _ _ h => gl.fm _ h) hp) (.cons (gl.fm _ hu) .nil)
    · rw [take_next ht] at h'
      rcases List.mem_append.mp h' with h' | h'
      · exact hd t' h'
      · rw [List.mem_singleton.mp h']
        exact c
  · obtain ⟨s3, xs, eL, hp, hd⟩ := p
    rw [List.take_of_length_le (by omega)] at hp hd
    refine ⟨_, rfl, a, rfl, ⟨us, s3.seq hs⟩, fun D nD => ?_⟩
    refine lc_it (walk_list (xs := us)) (fun i H' => Same H3 H' ∧ H' D = some (.lst (((ts.take i).map fun t => (t.lvs : Int)).map V.int))) ⟨same_new nD _, upd_same⟩ (fun i H' _ p => (s3.trans p.1).seq hs) (fun i y H5 H6 hi p yy => ?_) (fun H5 p => ?_)
    · obtain ⟨rfl, hy⟩ := yy
      obtain ⟨s5, eD⟩ := p
      obtain ⟨t, ht, hyt⟩ := paired_take hw hy
      obtain ⟨b, dx, u, rfl, kb, _⟩ := Wr.gd (Gd.of_same (s3.trans s5)) hyt
      refine ⟨rfl, _, rfl, b, CW, dx, _, _, rfl, kb, T.cl, T.nLeaves, wF_leaves _ _ _, _, eD, small10k (by rw [List.length_map, List.length_map, List.length_take]; omega), same_at s5 nD, ?_⟩
      rw [upd_same, take_next ht, List.map_append, List.map_append]
      rfl
    · obtain ⟨s5, eD⟩ := p
      rw [List.take_of_length_le (by omega)] at eD
      refine ⟨D, _, rfl, SqL.of eD, ?_⟩
      rw [lvsL_sum]
      refine ⟨_, _, rfl, rfl, _, rfl, ?_⟩
      have s35 := s3.trans s5
      by_cases c : 40 < lvsL ts
      · rw [decide_eq_true (by omega)]
        exact iteT (mk_one OM.oex OM.no fun d nd => q3 hd c d H5 s35 nd)
      · rw [decide_eq_false (by omega)]
        exact iteF ⟨_, rfl, q1 hd (by omega) H5 L xs s35 (s5 _ _ eL) nL (paired_imp (fun _ _ h => (Same.kt s5).fm _ h) hp)⟩
end
end My

set_option Elab.async false
set_option linter.all false
set_option maxRecDepth 100000
namespace My
open PySem L2
abbrev s_law_ends_tokens : Stmt := top 46
abbrev N_law_ends_tokens : List Str := ["_law_ends", "_law_tokens_here", "_law_form"]
abbrev P_law_ends_tokens : List Str := ["_law_ends"]
theorem sc_law_ends_tokens : FnScope N_law_ends_tokens P_law_ends_tokens (defScope s_law_ends_tokens) := ⟨rfl, rfl, rfl, by decide +kernel, rfl, by decide +kernel, by decide +kernel⟩
/-- the tokens of a row -/
def moreToks (ts : List FT) : List (List Nat) := (ts.map fun t => [44] :: toks false t).flatten
def rowToks : List FT → List (List Nat)
  | [] => []
  | t :: ts => toks false t ++ moreToks ts
theorem cut_tail (x : V) (xs : List V) : cutV (x :: xs) (some 1) none = xs := by
  unfold cutV
  have e1 : HT.sIx (x :: xs).length 0 (some 1) = 1 := by
    show HT.sIx (xs.length + 1) 0 (some 1) = 1
    unfold HT.sIx
    simp
    try omega
  have e2 : HT.sIx (x :: xs).length (x :: xs).length none = xs.length + 1 := rfl
  rw [e1, e2]
  show (xs.take (xs.length + 1 - 1)) = xs
  rw [List.take_of_length_le (by omega)]
theorem moreToks_take {ts : List FT} {i : Nat} {t : FT} (h : ts[i]? = some t) : moreToks (ts.take (i + 1)) = moreToks (ts.take i) ++ ([44] :: toks false t) := by
  unfold moreToks
  rw [take_next h, List.map_append, List.flatten_append]
  simp
theorem moreToks_le (ts : List FT) (i : Nat) : (moreToks (ts.take i)).length ≤ (moreToks ts).length := by
  have : moreToks ts = moreToks (ts.take i) ++ moreToks (ts.drop i) := by
    unfold moreToks
    rw [← List.flatten_append, ← List.map_append, List.take_append_drop]
  rw [this, List.length_append]
  omega
def spEndsTokens (K : PySem.W.Frag) : Sp := fun vs H Q _ => ∃ (a : Addr) (xs : List V) (ts : List FT), vs = [.ref a] ∧ SqL K H a xs ∧ Paired (fun v t => Fm K H t v) xs ts ∧ 1 ≤ ts.length ∧ (∀ t ∈ ts, t.dep < 20 ∧ (toks true t).length + 20 ≤ 1000 ∧ (wrt true t).length + 20 ≤ sizeLine) ∧ (rowToks ts).length + 20 ≤ 1000 ∧
  ∀ H' p, Same H H' → H' p = some (.lst (zsV (rowToks ts))) → Q (.ref p) H'
section
variable {P : Program} {w : World} {K : PySem.W.Frag} {mg : Str → Option Value} {base : Heap} {f : Addr} {fd : FuncData}
theorem ok_law_ends_tokens (F : Fun K "_law_ends_tokens" "_law_ends_tokens" s_law_ends_tokens f fd) (C_law_tokens : Cal P w K mg base "_law_tokens" 21 P_law_form_text (spTokens K 20)) : FnOk P w K mg base CX0 22 f fd P_law_ends_tokens (spEndsTokens K) := by
  refine F.ok sc_law_ends_tokens (fun vs H Q E h => ?_) (fun cdv A outer s H vs Q E hr h => ?_)
  · obtain ⟨a, xs, ts, rfl, _⟩ := h
    rfl
  obtain ⟨a, xs, ts, rfl, hs, hf, h1, hb, hn, q⟩ := h
  refine ⟨_, (pss_cons (ps_set (i := 1) sc_law_ends_tokens.nd rfl (Or.inl rfl) (pe_callC C_law_tokens hr (pa_cons (pe_ix ix_list (pv 0) pe_int (fun _ _ => rfl)) (pa_cons pe_bl pa_nil))))
  (pss_cons (ps_for PassesOwn.never rfl (pi_list (pe_slice sl_list (pv 0) (po_some pe_int) po_none)) (pg_name (i := 2) sc_law_ends_tokens.nd rfl (Or.inl rfl))
    (pss_one (ps_set (i := 1) sc_law_ends_tokens.nd rfl (Or.inl rfl) (pe_op op_catLN (pe_op op_catLN (pv 1) (pe_lstN (pa_cons pe_str pa_nil))) (pe_callC C_law_tokens hr (pa_cons (pv 2) (pa_cons pe_bl pa_nil)))))))
  (pss_one (ps_ret (pv 1))))), ?_⟩
  cases hf with
  | nil => simp at h1
  | @cons v t0 us rs h0 hf =>
  obtain ⟨d0, n0, l0⟩ := hb t0 (List.mem_cons_self ..)
  have at0 : atI (v :: us) 0 = some v := by
    show (ixN (us.length + 1) 0).bind (fun k => (v :: us)[k]?) = some v
    unfold ixN
    rw [if_pos (by decide), if_pos (by omega)]
    rfl
  refine ⟨_, rfl, a, _, _, _, rfl, rfl, hs, at0, v, t0, false, rfl, h0, d0, n0, l0, fun H1 p1 s1 e1 => ?_⟩
  refine ⟨_, rfl, 1, rfl, a, v :: us, rfl, s1.seq hs, fun b nb => ?_⟩
  rw [cut_tail]
  have s2 := same_new nb (.lst us)
  have eb : upd H1 b (.lst us) b = some (.lst us) := upd_same
  generalize upd H1 b (.lst us) = H2 at *
  have hlen := paired_len hf
  have hf2 : Paired (fun v t => Fm K H2 t v) us rs := paired_imp (fun _ _ h => (Same.kt (s1.trans s2)).fm _ h) hf
  have hn2 : (toks false t0).length + (moreToks rs).length + 20 ≤ 1000 := by
    have : (rowToks (t0 :: rs)).length = (toks false t0).length + (moreToks rs).length := List.length_append
    omega
  refine ⟨b, rfl, ⟨us, SqL.of eb⟩, ?_⟩
  refine for_it walk_list (fun i σ H' => ∃ p o, σ = [some (.ref a), some (.ref p), o] ∧ Same H2 H' ∧ H' p = some (.lst (zsV (toks false t0 ++ moreToks (rs.take i))))) ⟨p1, none, rfl, Same.refl _, by
      show H2 p1 = _
      rw [s2 _ _ e1]
      simp [moreToks]⟩ (fun i σ H' _ ⟨_, _, _, k, _⟩ => SqL.of (k _ _ eb)) (fun i x σ H3 H4 hi pv y => ?_) (fun σ H' pv => ?_)
  · obtain ⟨rfl, hx⟩ := y
    obtain ⟨p, o, rfl, s3, ep⟩ := pv
    obtain ⟨t, ht, hxt⟩ := paired_take hf2 hx
    obtain ⟨dt, nt, lt⟩ := hb t (List.mem_cons_of_mem _ (List.mem_of_getElem? ht))
    have m1 := moreToks_le rs (i + 1)
    rw [moreToks_take ht, List.length_append, List.length_cons] at m1
    refine ⟨_, rfl, le1k, fun p2 H5 s5 e5 => ?_⟩
    refine ⟨p, p2, _, _, rfl, rfl, s5 _ _ ep, e5, ?_, fun p6 H6 s6 e6 => ?_⟩
    · rw [zsV_len, List.length_append]
      simp only [List.length_cons, List.length_nil]
      omega
    have s36 := (s3.trans s5).trans s6
    refine ⟨_, rfl, x, t, false, rfl, (Same.kt s36).fm t hxt, dt, nt, lt, fun H7 p7 s7 e7 => ?_⟩
    refine ⟨p6, p7, _, _, rfl, rfl, s7 _ _ e6, e7, ?_, fun p8 H8 s8 e8 => ?_⟩
    · simp only [List.length_append, zsV_len, List.length_cons, List.length_nil]
      omega
    refine ⟨p8, _, rfl, (s36.trans s7).trans s8, ?_⟩
    rw [e8, moreToks_take ht]
    have : zsV (toks false t0 ++ moreToks (rs.take i)) ++ [V.str (Str.ofString ",")] ++ zsV (toks false t) = zsV (toks false t0 ++ (moreToks (rs.take i) ++ ([44] :: toks false t))) := by
      rw [← List.append_assoc, zsV_cat (toks false t0 ++ moreToks (rs.take i)), List.append_assoc]
      rfl
    exact congrArg (fun u => some (HO.lst u)) this
  · obtain ⟨p, o, rfl, s3, ep⟩ := pv
    rw [List.take_of_length_le (by omega)] at ep
    exact ⟨_, rfl, q H' p ((s1.trans s2).trans s3) ep⟩
end
end My

set_option Elab.async false
set_option linter.all false
set_option maxRecDepth 100000
/-! enumerate of a text -/
namespace EnuS
open PySem PySem.Spec PyProof.Rows L2
/-- the signs of x, each in a new pair with its number -/
def IteS (x : Str) : It :=
  ⟨fun i _ => i < x.cps.size, fun i H v H' => ∃ T c, v = .ref T ∧ H T = none ∧ H' = upd H T (.tup [.int (i : Nat), .str ⟨#[c]⟩]) ∧ x.cps[i]? = some c, fun i _ => x.cps.size ≤ i⟩
theorem turn_enumS {P : Program} {w : World} {K : PySem.W.Frag} {elts : List Expr} {kk : Nat} {tpos : Pos} (x : Str) (t : Tok) (e it : Addr) :
    Turn P w K (.Tuple elts kk tpos) (IteS x) [e, it] e (fun i h => (∃ old, IsEnum h e it ((i : Nat) : Int) old) ∧ h.IsStrIter it (strIterType x) x t i ∧ e ≠ it ∧ i ≤ x.cps.size) where
  mem := by simp
  obj := fun i h st b hb => by
    obtain ⟨⟨old, en⟩, ⟨o, ho, _, hd⟩, _⟩ := st
    rcases (show b = e ∨ b = it by simpa using hb) with z | z
    · rw [z]
      exact ⟨_, en, fun v q => nomatch q⟩
    · rw [z]
      exact ⟨o, ho, fun v q => by rw [hd] at q; cases q⟩
  keep := fun i h h' ⟨⟨old, en⟩, ⟨o, ho, rest⟩, more⟩ k => ⟨⟨old, k e (by simp) _ en⟩, ⟨o, k it (by simp) o ho, rest⟩, more⟩
  item := by
    intro X eP ew eK calm i pins s σ H E I fr st go
    subst eP ew eK
    obtain ⟨⟨old, en⟩, ti, n1, le⟩ := st
    have lt : i < x.cps.size := go
    have lte : e < s.heap.objs.size := Heap.lt_size en
    have lti : it < s.heap.objs.size := by
      obtain ⟨_, q, _⟩ := id ti
      exact Heap.lt_size q
    refine wpAny_pyNext_enum_itemD (Draws.text (A := X.A.in1) (I.ok.hd calm) it x t) en ti lt n1 (by simp [n1]) fun y h' tk gy out next tupl size kept => ?_
    obtain ⟨c, u, hc, rfl⟩ := gy
    refine ⟨_, rfl, wpAny_letOwnedTupleGo_enum (s := { s with heap := h', toks := tk + 1 }) out fun h2 en2 but => ?_⟩
    have tupl2 : h2.get? s.heap.objs.size = some { cls := .type "tuple", data := .seq #[.int i tk, .str ⟨#[c]⟩ u] } := (but.2 _ (Nat.ne_of_gt lte)).trans tupl
    have new : ObjOk X.prog X.w (upd H s.heap.objs.size (.tup [.int (i : Nat), .str ⟨#[c]⟩])) h2 s.heap.objs.size (.tup [.int (i : Nat), .str ⟨#[c]⟩]) :=
      ⟨by show 2 ≤ sizeLine; decide, [.int i tk, .str ⟨#[c]⟩ u], .cons ⟨_, rfl⟩ (.cons ⟨_, rfl⟩ .nil), ⟨_, tupl2, rfl, _, rfl⟩⟩
    have J : Inv X pins σ (upd H s.heap.objs.size (.tup [.int (i : Nat), .str ⟨#[c]⟩])) { s with heap := h2, toks := tk + 1 } :=
      I.turnedNew (ch := [e, it]) (fun b ob nb q => (but.2 b (fun z => nb (by simp [z]))).trans (kept b ob (fun z => nb (by simp [z])) (fun z => nb (by simp [z])) q)) fr (Nat.le_refl _) new
    refine ⟨.ref s.heap.objs.size, _, J, rfl, ⟨_, c, rfl, I.hok.fresh (Nat.le_refl _), rfl, hc⟩, ⟨⟨.str ⟨#[c]⟩ u, ?_⟩, ?_, n1, lt⟩, fun b hb => ?_⟩
    · rw [show ((i + 1 : Nat) : Int) = (i : Int) + 1 by omega]
      exact en2
    · obtain ⟨o, ho, rest⟩ := next
      exact ⟨o, (but.2 it (Ne.symm n1)).trans ho, rest⟩
    · have lb : b < s.heap.objs.size := by
        rcases (show b = e ∨ b = it by simpa using hb) with z | z
        · rw [z]; exact lte
        · rw [z]; exact lti
      rw [upd_ne (Nat.ne_of_lt lb)]
      exact (fr b hb).1
  done := by
    intro X eP ew eK calm i pins s σ H E I fr st go
    subst eP ew eK
    obtain ⟨⟨old, en⟩, ti, n1, le⟩ := st
    have ge : x.cps.size ≤ i := go
    obtain rfl : i = x.cps.size := by omega
    obtain ⟨f0, f1, f2, f3, f4, f5⟩ := fr it (by simp)
    exact wpAny_pyNext_enum_endD (Draws.text (A := X.A.in1) (I.ok.hd calm) it x t) en ti fun h2 kept => ⟨rfl, I.turned (t' := s.toks) (fun b o nb q => kept b o nb q) f0 f1 f3 f4 f5⟩
  self := fun A i s Q E st h => let ⟨⟨_, en⟩, _⟩ := st; wpAny_pyIter_enum en h
def iEnumS (ta : TA) : TI := fun σ H R => ta σ H fun vs H1 => ∃ x, vs = [.str x] ∧ R (IteS x) H1
theorem pi_enumS {X : Cx} {e : Expr} {ta : TA} {p pos tpos : Pos} {elts : List Expr} {kk : Nat} (hg : Gl X "enumerate") (hm : X.mg "enumerate" = none) (ha : PA X [e] ta) (hs : starEach [e] X.env = [(false, eval e X.env)] := by rfl) :
    PI X (.Tuple elts kk tpos) (.Call (.Name "enumerate" p) [e] [] pos) (iEnumS ta) := by
  refine ⟨fun pins s σ H R I h => Call_ (ld_blt I hg hm boot_enumerate (PyProof.Rows.callWith_type1 (thn (ha.run pos pins s σ H _ I h) fun us s1 hh => ?_) hs rfl))⟩
  obtain ⟨vs, H1, I1, r1, x, ex, q⟩ := hh
  subst ex
  cases r1 with
  | cons r rr =>
    cases rr
    obtain ⟨t, rfl⟩ := r
    refine call_enumerate_str fun h2 en ti size kept => wpAny_pyIter_enum en ?_
    have J : Inv X pins σ H1 { s1 with heap := h2 } := I1.kept (t' := s1.toks) kept
    refine ⟨s1.heap.objs.size + 1, [s1.heap.objs.size + 1, s1.heap.objs.size], _, _, H1, rfl, J, turn_enumS x t (s1.heap.objs.size + 1) s1.heap.objs.size, ⟨⟨.none, en⟩, ti, Nat.succ_ne_self _, Nat.zero_le _⟩, fun b hb => ?_, q⟩
    have big : s1.heap.objs.size ≤ b := by
      rcases (show b = s1.heap.objs.size + 1 ∨ b = s1.heap.objs.size by simpa using hb) with z | z
      · rw [z]; exact Nat.le_add_right _ _
      · rw [z]; exact Nat.le_refl _
    exact I1.fpOk big (I1.hok.fresh big)
theorem walk_enumS {x : Str} : Walk (IteS x) x.cps.size (fun _ => True) (YPair (fun i => some (.int (i : Nat))) (fun i => x.cps[i]?.map fun c => V.str ⟨#[c]⟩)) :=
  ⟨fun i _ hi _ => hi, fun _ _ => Nat.le_refl _, fun i H v H' _ _ y => by
    obtain ⟨T, c, h1, h2, h3, h4⟩ := y
    exact ⟨T, .int (i : Nat), .str ⟨#[c]⟩, h1, h2, h3, rfl, by show x.cps[i]?.map _ = _; rw [h4]; rfl⟩⟩
end EnuS

set_option Elab.async false
set_option linter.all false
set_option maxRecDepth 100000
namespace My
open PySem L2
abbrev s_law_longest : Stmt := top 47
abbrev N_law_longest : List Str := ["_law_text", "_law_is_row", "_law_letters", "_law_levels", "_law_name_here", "_law_is_leaf", "_law_at", "_law_sign", "_law_here"]
abbrev P_law_longest : List Str := ["_law_text", "_law_is_row"]
theorem sc_law_longest : FnScope N_law_longest P_law_longest (defScope s_law_longest) := ⟨rfl, rfl, rfl, by decide +kernel, rfl, by decide +kernel, by decide +kernel⟩
/-- the law's own reader: the levels below, the level, how many signs of a name, whether a leaf was the last -/
structure LS where
  pre : List Nat
  top : Nat
  nm : Nat
  lf : Bool
def lstep (row : Bool) (s : LS) (c : Nat) : Option LS :=
  if 0 < s.nm ∧ isLD c = true then (if s.nm = 12 then none else some { s with nm := s.nm + 1 })
  else if 0 < s.nm ∧ c = 126 then some { s with nm := 0 }
  else if c = 32 then some { s with nm := 0 }
  else if (s.top = 0 ∨ s.top = 2) ∧ c = 40 then some ⟨s.pre ++ [s.top], 0, 0, s.lf⟩
  else if (s.top = 0 ∨ s.top = 2) ∧ isL c = true then some ⟨s.pre, s.top + 1, 1, true⟩
  else if s.top = 1 ∧ c ∈ forkC then some ⟨s.pre, 2, 0, s.lf⟩
  else if s.top = 3 ∧ s.pre ≠ [] ∧ c = 41 then some ⟨s.pre.dropLast, s.pre.getLastD 0 + 1, 0, false⟩
  else if row = true ∧ c = 44 ∧ s.pre = [] ∧ (s.top = 3 ∨ (s.top = 1 ∧ s.lf = true)) then some ⟨[], 0, 0, s.lf⟩
  else none
def lok (s : LS) : Bool := decide (s.pre = []) && (decide (s.top = 3) || (decide (s.top = 1) && s.lf))
def lrun (row : Bool) : LS → Nat → List Nat → Nat × Bool
  | s, i, [] => (i, lok s)
  | s, i, c :: cs => match lstep row s c with
    | none => (i, false)
    | some t => lrun row t (i + 1) cs
def l0 : LS := ⟨[], 0, 0, false⟩
def longest (row : Bool) (cs : List Nat) : Nat × Bool := lrun row l0 0 cs
def LS.ints (s : LS) : List V := s.pre.map (fun n => V.int (n : Nat)) ++ [V.int (s.top : Nat)]
def spLongest (K : PySem.W.Frag) : Sp := fun vs H Q _ => ∃ (cs : List Nat) (row : Bool), vs = [.str (Z cs), .bl row] ∧ cs.length + 10 ≤ sizeLine ∧
  ∀ H' p, Same H H' → SqT K H' p [.int ((longest row cs).1 : Nat), .bl (longest row cs).2] → Q (.ref p) H'
theorem isLD_cat (c : Nat) : decide (c ∈ (zLetters ++ Str.ofString "0123456789").cps.toList) = isLD c := by
  rw [← isLD_both]
  have e : (zLetters ++ Str.ofString "0123456789").cps.toList = zBoth.cps.toList := by decide +kernel
  rw [e]
theorem sign_dec (c x : Nat) : decide (V.str ⟨#[c]⟩ = V.str ⟨#[x]⟩) = decide (c = x) := by
  by_cases h : c = x
  · rw [h, decide_eq_true rfl, decide_eq_true rfl]
  · rw [decide_eq_false h, decide_eq_false fun e => by
      have e1 := V.str.inj e
      have e2 := congrArg (fun z : Str => z.cps.toList) e1
      exact h (by simpa using e2)]
theorem in02 (n : Nat) : inV (V.int (n : Nat)) [V.int 0, V.int 2] = decide (n = 0 ∨ n = 2) := by
  show (((0 : Int) == (n : Nat)) || (((2 : Int) == (n : Nat)) || false)) = _
  by_cases h0 : n = 0
  · subst h0
    rfl
  · by_cases h2 : n = 2
    · subst h2
      rfl
    · rw [decide_eq_false (by omega)]
      have e0 : ((0 : Int) == (n : Nat)) = false := by
        rw [beq_eq_false_iff_ne]
        omega
      have e2 : ((2 : Int) == (n : Nat)) = false := by
        rw [beq_eq_false_iff_ne]
        omega
      rw [e0, e2]
      rfl
theorem dI1 (n : Nat) : decide (V.int (n : Nat) = V.int 1) = decide (n = 1) := by
  by_cases h : n = 1
  · subst h
    rfl
  · rw [decide_eq_false h, decide_eq_false fun e => h (by have := V.int.inj e; omega)]
theorem dI3 (n : Nat) : decide (V.int (n : Nat) = V.int 3) = decide (n = 3) := by
  by_cases h : n = 3
  · subst h
    rfl
  · rw [decide_eq_false h, decide_eq_false fun e => h (by have := V.int.inj e; omega)]
theorem ints_set (s : LS) (n : Nat) (b : Bool) (k : Nat) : s.ints.set (s.pre.map fun n => V.int (n : Nat)).length (V.int (n : Nat)) = (LS.mk s.pre n k b).ints := set_last _ _ _
theorem ints_ix (s : LS) : ixN s.ints.length (-1) = some (s.pre.map fun n => V.int (n : Nat)).length := ixN_last _ _
theorem ints_len (s : LS) : s.ints.length = s.pre.length + 1 := by unfold LS.ints; rw [List.length_append, List.length_map]; rfl
theorem in_fork (c : Nat) : decide (c ∈ (Str.ofString "*|&+").cps.toList) = decide (c ∈ forkC) := by
  have e : (Str.ofString "*|&+").cps.toList = forkC := by decide +kernel
  rw [e]
section
variable {P : Program} {w : World} {K : PySem.W.Frag} {mg : Str → Option Value} {base : Heap} {f : Addr} {fd : FuncData}
theorem ok_law_longest (T : Txt K mg) (T7 : Txt7 K mg) (F : Fun K "_law_longest" "_law_longest" s_law_longest f fd) : FnOk P w K mg base CX0 1 f fd P_law_longest (spLongest K) := by
  refine F.ok sc_law_longest (fun vs H Q E h => ?_) (fun cdv A outer s H vs Q E hr h => ?_)
  · obtain ⟨cs, row, rfl, _⟩ := h
    rfl
  obtain ⟨cs, row, rfl, hl, q⟩ := h
  refine ⟨_, (pss_cons (ps_set (i := 2) sc_law_longest.nd rfl (Or.inl rfl) pe_str)
  (pss_cons (ps_par3 (i := 3) (j := 4) (l := 5) (by rfl) sc_law_longest.nd rfl rfl rfl (by decide) (by decide) (by decide) rfl rfl rfl (pa_cons (pe_lst (pa_cons pe_int pa_nil)) (pa_cons pe_int (pa_cons pe_bl pa_nil))) (by rfl))
  (pss_cons (ps_for PassesOwn.never rfl (EnuS.pi_enumS rfl T7.enumerate (pa_cons (pv 0) pa_nil)) (pg_tup rfl (pgs_cons (pg_name (i := 6) sc_law_longest.nd rfl (Or.inl rfl)) (pgs_cons (pg_name (i := 7) sc_law_longest.nd rfl (Or.inl rfl)) pgs_nil)))
    (pss_cons (ps_if (PW.pt (pw_and (pt_cmpR op_gt (pv 4) pe_int (nomark _)) (pw_and1 (pt_cmpR op_in_sign (pv 7) (pe_op op_add_str (pv 2) pe_str) rfl))))
      (pss_cons (ps_if (pt_cmpR op_eq (pv 4) pe_int (nomark _))
        (pss_one (ps_ret (pe_tupN (pa_cons (pv 6) (pa_cons pe_bl pa_nil)))))
        pss_nil)
      (pss_cons (ps_set (i := 4) sc_law_longest.nd rfl (Or.inl rfl) (pe_op op_add (pv 4) pe_int))
      (pss_one ps_continue)))
      pss_nil)
    (pss_cons (ps_if (PW.pt (pw_and (pt_cmpR op_gt (pv 4) pe_int (nomark _)) (pw_and1 (pt_cmpR op_eq (pv 7) pe_str (nomark _)))))
      (pss_cons (ps_set (i := 4) sc_law_longest.nd rfl (Or.inl rfl) pe_int)
      (pss_one ps_continue))
      pss_nil)
    (pss_cons (ps_par (i := 4) (j := 8) (by rfl) sc_law_longest.nd rfl rfl (by decide) rfl rfl (pa_cons pe_int (pa_cons (pe_ix ix_list (pv 3) (pe_un un_neg pe_int) (fun _ _ => rfl)) pa_nil)) (by rfl))
    (pss_cons (ps_if (pt_cmpR op_eq (pv 7) pe_str (nomark _))
      (pss_one ps_continue)
      pss_nil)
    (pss_one (ps_if (PW.pt (pw_and (pt_cmpR op_in_seq (pv 8) (pe_lstN (pa_cons pe_int (pa_cons pe_int pa_nil))) rfl) (pw_and1 (pt_cmpR op_eq (pv 7) pe_str (nomark _)))))
      (pss_one (ps_expr (pe_bm PySem.F.plainAttrs_list PySem.F.slot_list_append PySem.F.type_list_append mt_append (pv 3) (pa_cons pe_int pa_nil))))
      (pss_one (ps_if (PW.pt (pw_and (pt_cmpR op_in_seq (pv 8) (pe_lstN (pa_cons pe_int (pa_cons pe_int pa_nil))) rfl) (pw_and1 (pt_cmpR op_in_sign (pv 7) (pv 2) rfl))))
        (pss_one (ps_asg (pe_tupN (pa_cons (pe_op op_add (pv 8) pe_int) (pa_cons pe_int (pa_cons pe_bl pa_nil)))) (pg_tup rfl (pgs_cons (pg_sub (pv 3) (pe_un un_neg pe_int) set_list) (pgs_cons (pg_name (i := 4) sc_law_longest.nd rfl (Or.inl rfl)) (pgs_cons (pg_name (i := 5) sc_law_longest.nd rfl (Or.inl rfl)) pgs_nil))))))
        (pss_one (ps_if (PW.pt (pw_and (pt_cmpR op_eq (pv 8) pe_int (nomark _)) (pw_and1 (pt_cmpR op_in_sign (pv 7) pe_str rfl))))
          (pss_one (ps_asg pe_int (pg_sub (pv 3) (pe_un un_neg pe_int) set_list)))
          (pss_one (ps_if (PW.pt (pw_and (pt_cmpR op_eq (pv 8) pe_int (nomark _)) (pw_and (pt_cmpR op_gt (pe_callB call_len rfl T.len (by decide +kernel) (pa_cons (pv 3) pa_nil)) pe_int (nomark _)) (pw_and1 (pt_cmpR op_eq (pv 7) pe_str (nomark _))))))
            (pss_cons (ps_expr (pe_bm0 PySem.F.plainAttrs_list PySem.F.slot_list_pop PySem.F.type_list_pop mt_pop (pv 3)))
            (pss_one (ps_asg (pe_tupN (pa_cons (pe_op op_add (pe_ix ix_list (pv 3) (pe_un un_neg pe_int) (fun _ _ => rfl)) pe_int) (pa_cons pe_bl pa_nil))) (pg_tup rfl (pgs_cons (pg_sub (pv 3) (pe_un un_neg pe_int) set_list) (pgs_cons (pg_name (i := 5) sc_law_longest.nd rfl (Or.inl rfl)) pgs_nil))))))
            (pss_one (ps_if (PW.pt (pw_and (pt_truth (pv 1) (by intro _; rfl)) (pw_and (pt_cmpR op_eq (pv 7) pe_str (nomark _)) (pw_and (pt_cmpR op_eq (pe_callB call_len rfl T.len (by decide +kernel) (pa_cons (pv 3) pa_nil)) pe_int (nomark _)) (pw_and1 (PW.pt (pw_or (pt_cmpR op_eq (pv 8) pe_int (nomark _)) (pw_or1 (PW.pt (pw_and (pt_cmpR op_eq (pv 8) pe_int (nomark _)) (pw_and1 (pt_truth (pv 5) (by intro _; rfl)))))))))))))
              (pss_one (ps_set (i := 3) sc_law_longest.nd rfl (Or.inl rfl) (pe_lst (pa_cons pe_int pa_nil))))
              (pss_one (ps_ret (pe_tupN (pa_cons (pv 6) (pa_cons pe_bl pa_nil))))))))))))))))))))
  (pss_one (ps_ret (pe_tupN (pa_cons (pe_callB call_len rfl T.len (by decide +kernel) (pa_cons (pv 0) pa_nil)) (pa_cons (pe_and (pe_cmpR op_eq (pe_callB call_len rfl T.len (by decide +kernel) (pa_cons (pv 3) pa_nil)) pe_int (nomark _)) (pe_one (pe_or (pe_cmpR op_eq (pe_ix ix_list (pv 3) pe_int (fun _ _ => rfl)) pe_int (nomark _)) (pe_one (pe_and (pe_cmpR op_eq (pe_ix ix_list (pv 3) pe_int (fun _ _ => rfl)) pe_int (nomark _)) (pe_one (pv 5))))))) pa_nil)))))))), ?_⟩
  refine ⟨(by show 1 ≤ sizeLine; decide), fun L nL => ⟨_, _, _, rfl, ?_⟩⟩
  have s1 := same_new nL (.lst [.int 0])
  have e1 : upd H L (.lst [.int 0]) L = some (.lst [.int 0]) := upd_same
  generalize upd H L (.lst [.int 0]) = H1 at *
  refine ⟨_, rfl, Z cs, rfl, ?_⟩
  refine for_it EnuS.walk_enumS (fun i σ H' => ∃ (s : LS) (L : Addr) (o6 o7 o8 : Option V), σ = [some (.str (Z cs)), some (.bl row), some (.str zLetters), some (.ref L), some (.int (s.nm : Nat)), some (.bl s.lf), o6, o7, o8] ∧ Same H H' ∧ H L = none ∧ H' L = some (.lst s.ints) ∧ longest row cs = lrun row s i (cs.drop i) ∧ s.pre.length ≤ i)
    ⟨l0, L, none, none, none, rfl, s1, nL, e1, rfl, Nat.zero_le _⟩ (fun _ _ _ _ _ => trivial) (fun i x σ H2 H3 hi pv y => ?_) (fun σ H' pv => ?_)
  · obtain ⟨s, L, o6, o7, o8, rfl, s2, nL, eL, hlo, hp⟩ := pv
    obtain ⟨pr, u, v, rfl, npr, rfl, hu, hv⟩ := y
    cases hu
    have hi' : i < cs.length := by
      have : (Z cs).cps.size = cs.length := Z_len cs
      omega
    obtain ⟨c, hc, rfl⟩ : ∃ c, cs[i]? = some c ∧ v = .str ⟨#[c]⟩ := by
      have hv : (Z cs).cps[i]?.map (fun c => V.str ⟨#[c]⟩) = some v := hv
      have e : (Z cs).cps[i]? = cs[i]? := by simp
      rw [e] at hv
      cases h : cs[i]? with
      | none => rw [h] at hv; cases hv
      | some c =>
        rw [h] at hv
        exact ⟨c, rfl, (Option.some.inj hv).symm⟩
    have hdrop : cs.drop i = c :: cs.drop (i + 1) := by
      rw [List.drop_eq_getElem_cons hi']
      congr 1
      have := List.getElem?_eq_getElem hi'
      rw [hc] at this
      exact (Option.some.inj this).symm
    rw [hdrop] at hlo
    have s3 := same_new npr (.tup [.int (i : Nat), .str ⟨#[c]⟩])
    have epr : upd H2 pr (.tup [.int (i : Nat), .str ⟨#[c]⟩]) pr = some (.tup [.int (i : Nat), .str ⟨#[c]⟩]) := upd_same
    generalize upd H2 pr (.tup [.int (i : Nat), .str ⟨#[c]⟩]) = H3 at *
    have s23 := s2.trans s3
    have eL3 := s3 _ _ eL
    refine ⟨pr, _, rfl, .inl (.inl epr), rfl, _, _, rfl, _, _, rfl, rfl, ?_⟩
    -- on from here, with the state t
    have on : ∀ (t : LS) (Lt : Addr) (H' : Hp) (o8 : Option V), Same H H' → H Lt = none → H' Lt = some (.lst t.ints) → lstep row s c = some t → t.pre.length ≤ i + 1 →
        ∃ (s : LS) (L : Addr) (o6 o7 o8' : Option V), [some (V.str (Z cs)), some (.bl row), some (.str zLetters), some (.ref Lt), some (.int (t.nm : Nat)), some (.bl t.lf), some (.int (i : Nat)), some (.str ⟨#[c]⟩), o8] = [some (.str (Z cs)), some (.bl row), some (.str zLetters), some (.ref L), some (.int (s.nm : Nat)), some (.bl s.lf), o6, o7, o8'] ∧ Same H H' ∧ H L = none ∧ H' L = some (.lst s.ints) ∧ longest row cs = lrun row s (i + 1) (cs.drop (i + 1)) ∧ s.pre.length ≤ i + 1 :=
      fun t Lt H' o8 g1 g2 g3 g4 g5 => ⟨t, Lt, _, _, o8, rfl, g1, g2, g3, by
        rw [hlo]
        show (match lstep row s c with | none => (i, false) | some t => lrun row t (i + 1) (cs.drop (i + 1))) = _
        rw [g4], g5⟩
    have no : lstep row s c = none → longest row cs = (i, false) := fun g => by
      rw [hlo]
      show (match lstep row s c with | none => (i, false) | some t => lrun row t (i + 1) (cs.drop (i + 1))) = _
      rw [g]
    have ret : ∀ (H' : Hp), Same H H' → lstep row s c = none → ∀ p H'', Same H' H'' → SqT K H'' p [.int (i : Nat), .bl false] → Q (.ref p) H'' := fun H' g1 g2 p H'' g3 g4 => by
      refine q H'' p (g1.trans g3) ?_
      rw [no g2]
      exact g4
    clear no hlo hdrop
    refine ⟨_, rfl, _, _, rfl, rfl, _, rfl, ?_⟩
    have d1 : decide ((0 : Int) < ((s.nm : Nat) : Int)) = decide (0 < s.nm) := by
      by_cases h : 0 < s.nm
      · rw [decide_eq_true h, decide_eq_true (by omega)]
      · rw [decide_eq_false h, decide_eq_false (by omega)]
    have d2 : decide (c ∈ (zLetters ++ Str.ofString "0123456789").cps.toList) = isLD c := isLD_cat c
    have dch : ∀ (x : Nat), decide (V.str ⟨#[c]⟩ = V.str ⟨#[x]⟩) = decide (c = x) := fun x => sign_dec c x
    rw [d1]
    refine (fun (rest : ¬ (0 < s.nm ∧ isLD c = true) → _) => ite2 (fun c1 => ⟨_, rfl, _, rfl, _, _, rfl, rfl, (by decide), c, _, rfl, rfl, _, rfl, ite2 (fun c2 => ?_) (fun c2 => rest fun h => c2 (d2.trans h.2))⟩) (fun c1 => iteF (rest fun h => c1 (decide_eq_true h.1)))) ?_
    rotate_left
    · -- a further sign of a name
      have h1 : 0 < s.nm := of_decide_eq_true c1
      have h2 : isLD c = true := d2.symm.trans c2
      refine ⟨_, rfl, rfl, _, rfl, ?_⟩
      refine ite2 (fun c3 => ?_) (fun c3 => ?_)
      · have h3 : s.nm = 12 := by
          have := V.int.inj (of_decide_eq_true c3)
          omega
        refine ⟨_, rfl, le1k, fun p H4 s4 e4 => ?_⟩
        refine ret _ s23 ?_ p H4 s4 e4
        unfold lstep
        rw [if_pos ⟨h1, h2⟩, if_pos h3]
      · have h3 : s.nm ≠ 12 := fun h => c3 (decide_eq_true (by rw [h]; rfl))
        refine ⟨_, rfl, _, _, rfl, rfl, ?_⟩
        refine on { s with nm := s.nm + 1 } L H3 _ s23 nL eL3 ?_ (by show s.pre.length ≤ i + 1; omega)
        unfold lstep
        rw [if_pos ⟨h1, h2⟩, if_neg h3]
    · intro n1
      refine ⟨_, rfl, _, _, rfl, rfl, _, rfl, ?_⟩
      rw [d1]
      refine (fun (rest : ¬ (0 < s.nm ∧ c = 126) → _) => ite2 (fun c1 => ⟨_, rfl, rfl, _, rfl, ite2 (fun c2 => ?_) (fun c2 => rest fun h => c2 ((dch 126).trans (decide_eq_true h.2)))⟩) (fun c1 => iteF (rest fun h => c1 (decide_eq_true h.1)))) ?_
      rotate_left
      · have h1 : 0 < s.nm := of_decide_eq_true c1
        have h2 : c = 126 := of_decide_eq_true ((dch 126).symm.trans c2)
        refine on { s with nm := 0 } L H3 _ s23 nL eL3 ?_ (by show s.pre.length ≤ i + 1; omega)
        unfold lstep
        rw [if_neg n1, if_pos ⟨h1, h2⟩]
      · intro n2
        refine ⟨_, rfl, 1, rfl, L, s.ints, _, V.int (s.top : Nat), rfl, rfl, SqL.of eL3, atI_last _ _, _, _, rfl, ?_⟩
        refine ⟨_, rfl, rfl, _, rfl, ?_⟩
        refine ite2 (fun c3 => ?_) (fun c3 => ?_)
        · have h3 : c = 32 := of_decide_eq_true ((dch 32).symm.trans c3)
          refine on { s with nm := 0 } L H3 _ s23 nL eL3 ?_ (by show s.pre.length ≤ i + 1; omega)
          unfold lstep
          rw [if_neg n1, if_neg n2, if_pos h3]
        · have n3 : c ≠ 32 := fun h => c3 ((dch 32).trans (decide_eq_true h))
          refine ⟨_, rfl, le1k, fun l4 H4 s4 e4 => ⟨l4, _, rfl, .inl (SqL.of e4), rfl, rfl, _, rfl, ?_⟩⟩
          have s24 := s23.trans s4
          have eL4 := s4 _ _ eL3
          have i02 : (if false = true then !inV (V.int (s.top : Nat)) [V.int 0, V.int 2] else inV (V.int (s.top : Nat)) [V.int 0, V.int 2]) = decide (s.top = 0 ∨ s.top = 2) := in02 s.top
          refine (fun (rest : ¬ ((s.top = 0 ∨ s.top = 2) ∧ c = 40) → _) => ite2 (fun c1 => ⟨_, rfl, rfl, _, rfl, ite2 (fun c2 => ?_) (fun c2 => rest fun h => c2 ((dch 40).trans (decide_eq_true h.2)))⟩) (fun c1 => iteF (rest fun h => c1 (i02.trans (decide_eq_true h.1))))) ?_
          rotate_left
          · have h1 : s.top = 0 ∨ s.top = 2 := of_decide_eq_true (i02.symm.trans c1)
            have h2 : c = 40 := of_decide_eq_true ((dch 40).symm.trans c2)
            refine ⟨_, rfl, .inl ⟨rfl, _, SqL.of eL4⟩, L, s.ints, .int 0, rfl, rfl, eL4, by rw [ints_len]; omega, ?_⟩
            refine on ⟨s.pre ++ [s.top], 0, 0, s.lf⟩ L _ _ (same_at s24 nL) nL ?_ ?_ (by simp; omega)
            · rw [upd_same]
              unfold LS.ints
              rw [List.map_append]
              rfl
            · unfold lstep
              rw [if_neg n1, if_neg n2, if_neg n3, if_pos ⟨h1, h2⟩]
          · intro n4
            refine ⟨_, rfl, le1k, fun l5 H5 s5 e5 => ⟨l5, _, rfl, .inl (SqL.of e5), rfl, rfl, _, rfl, ?_⟩⟩
            have s25 := s24.trans s5
            have eL5 := s5 _ _ eL4
            refine (fun (rest : ¬ ((s.top = 0 ∨ s.top = 2) ∧ isL c = true) → _) => ite2 (fun c1 => ⟨_, rfl, _, rfl, c, _, rfl, rfl, _, rfl, ite2 (fun c2 => ?_) (fun c2 => rest fun h => c2 h.2)⟩) (fun c1 => iteF (rest fun h => c1 (i02.trans (decide_eq_true h.1))))) ?_
            rotate_left
            · have h1 : s.top = 0 ∨ s.top = 2 := of_decide_eq_true (i02.symm.trans c1)
              have h2 : isL c = true := c2
              refine ⟨_, rfl, _, _, rfl, rfl, le1k, fun T6 H6 s6 e6 => ⟨T6, _, rfl, e6, rfl, _, _, rfl, _, rfl, 1, rfl, L, s.ints, _, _, rfl, rfl, s6 _ _ eL5, ints_ix s, _, _, rfl, _, _, rfl, rfl, ?_⟩⟩
              refine on ⟨s.pre, s.top + 1, 1, true⟩ L _ _ (same_at (s25.trans s6) nL) nL ?_ ?_ (by show s.pre.length ≤ i + 1; omega)
              · rw [upd_same]
                exact congrArg (fun u => some (HO.lst u)) (ints_set s (s.top + 1) true 1)
              · unfold lstep
                rw [if_neg n1, if_neg n2, if_neg n3, if_neg n4, if_pos ⟨h1, h2⟩]
            · intro n5
              refine ⟨_, rfl, rfl, _, rfl, ?_⟩
              rw [dI1]
              refine (fun (rest : ¬ (s.top = 1 ∧ c ∈ forkC) → _) => ite2 (fun c1 => ⟨_, rfl, c, _, rfl, rfl, _, rfl, ite2 (fun c2 => ?_) (fun c2 => rest fun h => c2 ((in_fork c).trans (decide_eq_true h.2)))⟩) (fun c1 => iteF (rest fun h => c1 (decide_eq_true h.1)))) ?_
              rotate_left
              · have h1 : s.top = 1 := of_decide_eq_true c1
                have h2 : c ∈ forkC := of_decide_eq_true ((in_fork c).symm.trans c2)
                refine ⟨_, rfl, 1, rfl, L, s.ints, _, _, rfl, rfl, eL5, ints_ix s, ?_⟩
                refine on ⟨s.pre, 2, 0, s.lf⟩ L _ _ (same_at s25 nL) nL ?_ ?_ (by show s.pre.length ≤ i + 1; omega)
                · rw [upd_same]
                  exact congrArg (fun u => some (HO.lst u)) (ints_set s 2 s.lf 0)
                · unfold lstep
                  rw [if_neg n1, if_neg n2, if_neg n3, if_neg n4, if_neg n5, if_pos ⟨h1, h2⟩]
              · intro n6
                refine ⟨_, rfl, rfl, _, rfl, ?_⟩
                rw [dI3]
                have dgt : decide ((1 : Int) < ((s.ints.length : Nat) : Int)) = decide (s.pre ≠ []) := by
                  rw [ints_len]
                  cases s.pre with
                  | nil => rfl
                  | cons x r => rw [decide_eq_true (by simp only [List.length_cons]; omega), decide_eq_true (by simp)]
                refine (fun (rest : ¬ (s.top = 3 ∧ s.pre ≠ [] ∧ c = 41) → _) => ite2 (fun c1 => ⟨_, rfl, _, _, rfl, .inl ⟨_, SqL.of eL5, rfl⟩, _, _, rfl, rfl, _, rfl, ite2 (fun c2 => ⟨_, rfl, rfl, _, rfl, ite2 (fun c3 => ?_) (fun c3 => rest fun h => c3 ((dch 41).trans (decide_eq_true h.2.2)))⟩) (fun c2 => iteF (rest fun h => c2 (dgt.trans (decide_eq_true h.2.1))))⟩) (fun c1 => iteF (rest fun h => c1 (decide_eq_true h.1)))) ?_
                rotate_left
                · have h1 : s.top = 3 := of_decide_eq_true c1
                  have h2 : s.pre ≠ [] := of_decide_eq_true (dgt.symm.trans c2)
                  have h3 : c = 41 := of_decide_eq_true ((dch 41).symm.trans c3)
                  obtain ⟨pp, hh, epp⟩ : ∃ pp hh, s.pre = pp ++ [hh] := by
                    rcases List.eq_nil_or_concat s.pre with e | ⟨pp, hh, e⟩
                    · exact absurd e h2
                    · exact ⟨pp, hh, by rw [e]; simp⟩
                  have step8 : lstep row s c = some ⟨pp, hh + 1, 0, false⟩ := by
                    unfold lstep
                    rw [if_neg n1, if_neg n2, if_neg n3, if_neg n4, if_neg n5, if_neg n6, if_pos ⟨h1, h2, h3⟩, epp]
                    simp
                  have eints : s.ints = (LS.mk pp hh 0 false).ints ++ [V.int (s.top : Nat)] := by
                    unfold LS.ints
                    rw [epp, List.map_append]
                    rfl
                  have lpp : pp.length ≤ i := by
                    rw [epp] at hp
                    simp at hp
                    omega
                  have last : s.ints[s.ints.length - 1]? = some (V.int (s.top : Nat)) := by
                    rw [eints]
                    simp
                  have drp : s.ints.dropLast = (LS.mk pp hh 0 false).ints := by
                    rw [eints, List.dropLast_concat]
                  refine ⟨_, rfl, .inl ⟨rfl, _, SqL.of eL5⟩, L, s.ints, _, rfl, rfl, eL5, last, ?_⟩
                  rw [drp]
                  have s26 := same_at (o := .lst (LS.mk pp hh 0 false).ints) s25 nL
                  have e26 : upd H5 L (.lst (LS.mk pp hh 0 false).ints) L = some (.lst (LS.mk pp hh 0 false).ints) := upd_same
                  refine ⟨_, rfl, 1, rfl, L, _, _, V.int (hh : Nat), rfl, rfl, SqL.of e26, atI_last _ _, _, _, rfl, rfl, le1k, fun T6 H6 s6 e6 => ⟨T6, _, rfl, e6, rfl, _, _, rfl, _, rfl, 1, rfl, L, (LS.mk pp hh 0 false).ints, _, _, rfl, rfl, s6 _ _ e26, ints_ix _, _, _, rfl, rfl, ?_⟩⟩
                  refine on ⟨pp, hh + 1, 0, false⟩ L _ _ (same_at (s26.trans s6) nL) nL ?_ step8 (by show pp.length ≤ i + 1; omega)
                  rw [upd_same]
                  exact congrArg (fun u => some (HO.lst u)) (ints_set (LS.mk pp hh 0 false) (hh + 1) false 0)
                · intro n7
                  have fail : ¬ (row = true ∧ c = 44 ∧ s.pre = [] ∧ (s.top = 3 ∨ (s.top = 1 ∧ s.lf = true))) → lstep row s c = none := fun n8 => by
                    unfold lstep
                    rw [if_neg n1, if_neg n2, if_neg n3, if_neg n4, if_neg n5, if_neg n6, if_neg n7, if_neg n8]
                  refine ⟨_, rfl, row, rfl, ?_⟩
                  have d3 := dI3 s.top
                  have d1' := dI1 s.top
                  have dln : decide (V.int ((s.ints.length : Nat) : Int) = V.int 1) = decide (s.pre = []) := by
                    rw [ints_len, dI1]
                    cases s.pre with
                    | nil => rfl
                    | cons x r => rw [decide_eq_false (by simp), decide_eq_false (by simp)]
                  refine (fun (rest : ¬ (row = true ∧ c = 44 ∧ s.pre = [] ∧ (s.top = 3 ∨ (s.top = 1 ∧ s.lf = true))) → _) (hit : (row = true ∧ c = 44 ∧ s.pre = [] ∧ (s.top = 3 ∨ (s.top = 1 ∧ s.lf = true))) → _) =>
                    ite2 (fun c1 => ⟨_, rfl, rfl, _, rfl, ite2 (fun c2 => ⟨_, rfl, _, _, rfl, .inl ⟨_, SqL.of eL5, rfl⟩, rfl, _, rfl, ite2 (fun c3 => ⟨_, rfl, rfl, _, rfl, ite2 (fun c4 => iteT (hit ⟨c1, of_decide_eq_true ((dch 44).symm.trans c2), of_decide_eq_true (dln.symm.trans c3), .inl (of_decide_eq_true (d3.symm.trans c4))⟩))
                        (fun c4 => ⟨_, rfl, rfl, _, rfl, ite2 (fun c5 => ⟨_, rfl, s.lf, rfl, ite2 (fun c6 => hit ⟨c1, of_decide_eq_true ((dch 44).symm.trans c2), of_decide_eq_true (dln.symm.trans c3), .inr ⟨of_decide_eq_true (d1'.symm.trans c5), c6⟩⟩)
                            (fun c6 => rest fun h => h.2.2.2.elim (fun z => c4 (d3.trans (decide_eq_true z))) fun z => c6 z.2)⟩)
                          (fun c5 => iteF (rest fun h => h.2.2.2.elim (fun z => c4 (d3.trans (decide_eq_true z))) fun z => c5 (d1'.trans (decide_eq_true z.1))))⟩)⟩)
                      (fun c3 => iteF (rest fun h => c3 (dln.trans (decide_eq_true h.2.2.1))))⟩) (fun c2 => iteF (rest fun h => c2 ((dch 44).trans (decide_eq_true h.2.1))))⟩) (fun c1 => iteF (rest fun h => c1 h.1))) ?_ ?_
                  · exact fun n8 => ⟨_, rfl, le1k, fun p H6 s6 e6 => ret _ s25 (fail n8) p H6 s6 e6⟩
                  · intro h8
                    refine ⟨(by show 1 ≤ sizeLine; decide), fun L6 nL6 => ?_⟩
                    refine on ⟨[], 0, 0, s.lf⟩ L6 _ _ (s25.trans (same_new nL6 _)) (s25.free nL6) upd_same ?_ (Nat.zero_le _)
                    unfold lstep
                    rw [if_neg n1, if_neg n2, if_neg n3, if_neg n4, if_neg n5, if_neg n6, if_neg n7, if_pos h8]
  · obtain ⟨s, L, o6, o7, o8, rfl, s2, nL, eL, hlo, hp⟩ := pv
    have hz : (Z cs).cps.size = cs.length := Z_len cs
    rw [hz, List.drop_length] at hlo
    have dln : decide (V.int ((s.ints.length : Nat) : Int) = V.int 1) = decide (s.pre = []) := by
      rw [ints_len, dI1]
      cases s.pre with
      | nil => rfl
      | cons x r => rw [decide_eq_false (by simp), decide_eq_false (by simp)]
    have fin : ∀ (b : Bool), b = lok s → ∀ p H'', Same H' H'' → SqT K H'' p [.int (((Z cs).length : Nat) : Int), .bl b] → Q (.ref p) H'' := fun b eb p H'' g3 g4 => by
      refine q H'' p (s2.trans g3) ?_
      rw [hlo]
      show SqT K H'' p [.int ((cs.length : Nat) : Int), .bl (lok s)]
      rw [← eb]
      rw [Z_len] at g4
      exact g4
    refine ⟨_, rfl, _, _, rfl, ⟨by rw [Z_len]; omega, rfl⟩, ?_⟩
    refine ⟨_, rfl, _, _, rfl, .inl ⟨_, SqL.of eL, rfl⟩, rfl, _, rfl, ?_⟩
    refine ite2 (fun c1 => ?_) (fun c1 => ?_)
    · have h1 : s.pre = [] := of_decide_eq_true (dln.symm.trans c1)
      have ei : s.ints = [V.int (s.top : Nat)] := by
        unfold LS.ints
        rw [h1]
        rfl
      have at0 : atI s.ints 0 = some (V.int (s.top : Nat)) := by
        rw [ei]
        rfl
      have d3 := dI3 s.top
      have d1' := dI1 s.top
      refine ⟨_, rfl, L, s.ints, _, _, rfl, rfl, SqL.of eL, at0, rfl, _, rfl, ?_⟩
      have lk : lok s = (decide (s.top = 3) || (decide (s.top = 1) && s.lf)) := by
        unfold lok
        rw [decide_eq_true h1, Bool.true_and]
      refine ite2 (fun c2 => ?_) (fun c2 => ?_)
      · refine ⟨le1k, fun p H4 s4 e4 => fin _ ?_ p H4 s4 e4⟩
        rw [lk, ← d3]
        have c2' : decide (V.int (s.top : Nat) = V.int 3) = true := c2
        rw [c2']
        rfl
      · have n2 : decide (s.top = 3) = false := by
          rw [← d3]
          exact Bool.eq_false_iff.mpr c2
        refine ⟨_, rfl, L, s.ints, _, _, rfl, rfl, SqL.of eL, at0, rfl, _, rfl, ?_⟩
        refine ite2 (fun c3 => ?_) (fun c3 => ?_)
        · refine ⟨_, rfl, le1k, fun p H4 s4 e4 => fin _ ?_ p H4 s4 e4⟩
          have c3' : decide (s.top = 1) = true := d1'.symm.trans c3
          rw [lk, n2, c3']
          rfl
        · refine ⟨le1k, fun p H4 s4 e4 => fin _ ?_ p H4 s4 e4⟩
          have c3' : decide (s.top = 1) = false := by
            rw [← d1']
            exact Bool.eq_false_iff.mpr c3
          rw [lk, n2, c3']
          rfl
    · refine ⟨le1k, fun p H4 s4 e4 => fin _ ?_ p H4 s4 e4⟩
      have n1 : ¬ s.pre = [] := fun h => c1 (dln.trans (decide_eq_true h))
      unfold lok
      rw [decide_eq_false n1, Bool.false_and]
end
end My

set_option Elab.async false
set_option linter.all false
set_option maxRecDepth 100000
namespace My
open PySem L2
/-! ### the law's own reader reads rows of forms -/
def Adv (s : LS) (cs : List Nat) (t : LS) : Prop := ∀ i rest, lrun true s i (cs ++ rest) = lrun true t (i + cs.length) rest
theorem Adv.nil (s : LS) : Adv s [] s := fun _ _ => rfl
theorem Adv.cons {s t u : LS} {c : Nat} {cs : List Nat} (h : lstep true s c = some t) (a : Adv t cs u) : Adv s (c :: cs) u := fun i rest => by
  show (match lstep true s c with | none => (i, false) | some t => lrun true t (i + 1) (cs ++ rest)) = _
  rw [h]
  show lrun true t (i + 1) (cs ++ rest) = _
  rw [a (i + 1) rest, List.length_cons, show i + 1 + cs.length = i + (cs.length + 1) by omega]
theorem Adv.trans {s t u : LS} {cs ds : List Nat} (a : Adv s cs t) (b : Adv t ds u) : Adv s (cs ++ ds) u := fun i rest => by
  rw [List.append_assoc, a i (ds ++ rest), b, List.length_append, show i + cs.length + ds.length = i + (cs.length + ds.length) by omega]
theorem Adv.one {s t : LS} {c : Nat} (h : lstep true s c = some t) : Adv s [c] t := .cons h (.nil t)
def LS.sp (s : LS) (k : Nat) : LS := if k = 0 then s else { s with nm := 0 }
theorem isLD32 : isLD 32 = false := by decide +kernel
theorem adv_spc (s : LS) : ∀ k, Adv s (spc k) (s.sp k)
  | 0 => .nil s
  | k + 1 => by
    have h : lstep true s 32 = some { s with nm := 0 } := by
      unfold lstep
      rw [if_neg (by rw [isLD32]; simp), if_neg (by simp), if_pos rfl]
    have := adv_spc { s with nm := 0 } k
    have e : LS.sp { s with nm := 0 } k = s.sp (k + 1) := by
      unfold LS.sp
      rw [if_neg (by omega : ¬ k + 1 = 0)]
      split <;> rfl
    rw [e] at this
    exact .cons h this
theorem sp_pre (s : LS) (k : Nat) : (s.sp k).pre = s.pre ∧ (s.sp k).top = s.top ∧ (s.sp k).lf = s.lf := by
  unfold LS.sp
  split <;> exact ⟨rfl, rfl, rfl⟩
theorem sp_nm {s : LS} (k : Nat) (h : s.nm = 0) : (s.sp k).nm = 0 := by
  unfold LS.sp
  split
  · exact h
  · rfl
/-- signs look at no name -/
theorem step_open {s : LS} (h : s.top = 0 ∨ s.top = 2) : lstep true s 40 = some ⟨s.pre ++ [s.top], 0, 0, s.lf⟩ := by
  unfold lstep
  have h1 : isLD 40 = false := by decide +kernel
  rw [if_neg (by rw [h1]; simp), if_neg (by simp), if_neg (by decide), if_pos ⟨h, rfl⟩]
theorem step_fork {s : LS} {g : Sg} (h : s.top = 1) : lstep true s g.code = some ⟨s.pre, 2, 0, s.lf⟩ := by
  unfold lstep
  have h1 : isLD g.code = false := g.no.1
  have h2 : g.code ≠ 126 := by cases g <;> decide
  have h3 : g.code ≠ 32 := by cases g <;> decide
  rw [if_neg (by rw [h1]; simp), if_neg (fun z => h2 z.2), if_neg h3, if_neg (by omega), if_neg (by omega), if_pos ⟨h, g.mem⟩]
theorem step_close {s : LS} {pp : List Nat} {hh : Nat} (h : s.top = 3) (e : s.pre = pp ++ [hh]) : lstep true s 41 = some ⟨pp, hh + 1, 0, false⟩ := by
  unfold lstep
  have h1 : isLD 41 = false := by decide +kernel
  rw [if_neg (by rw [h1]; simp), if_neg (by simp), if_neg (by decide), if_neg (by omega), if_neg (by omega), if_neg (by omega), if_pos ⟨h, by rw [e]; simp, rfl⟩, e]
  simp
theorem step_comma {s : LS} (e : s.pre = []) (h : s.top = 3 ∨ (s.top = 1 ∧ s.lf = true)) : lstep true s 44 = some ⟨[], 0, 0, s.lf⟩ := by
  unfold lstep
  have h1 : isLD 44 = false := by decide +kernel
  have h2 : ¬ (44 ∈ forkC) := by decide
  rw [if_neg (by rw [h1]; simp), if_neg (by simp), if_neg (by decide), if_neg (by omega), if_neg (by omega), if_neg (fun z => h2 z.2), if_neg (by rw [e]; simp), if_pos ⟨rfl, rfl, e, h⟩]
/-- a name -/
theorem adv_more (pre : List Nat) (top : Nat) : ∀ (n : List Nat) (k : Nat), 0 < k → k + n.length ≤ 12 → n.all isLD = true → Adv ⟨pre, top, k, true⟩ n ⟨pre, top, k + n.length, true⟩
  | [], k, _, _, _ => .nil _
  | c :: n, k, h0, hk, h => by
    rw [List.all_cons, Bool.and_eq_true] at h
    rw [List.length_cons] at hk
    have st : lstep true ⟨pre, top, k, true⟩ c = some ⟨pre, top, k + 1, true⟩ := by
      unfold lstep
      rw [if_pos ⟨h0, h.1⟩, if_neg (by show ¬ k = 12; omega)]
    have := adv_more pre top n (k + 1) (by omega) (by omega) h.2
    rw [show k + 1 + n.length = k + (c :: n).length by rw [List.length_cons]; omega] at this
    exact .cons st this
theorem adv_leaf {s : LS} {co : Bool} {n : List Nat} (hn : isName (Z n) = true) (h : s.top = 0 ∨ s.top = 2) (h0 : s.nm = 0) : ∃ k, Adv s (leafS co n) ⟨s.pre, s.top + 1, k, true⟩ := by
  cases n with
  | nil => exact absurd hn (by decide)
  | cons c n =>
    have hn2 : (decide (1 ≤ (Z (c :: n)).length ∧ (Z (c :: n)).length ≤ 12) && (isL c && (c :: n).all isLD)) = true := hn
    rw [Z_len] at hn2
    rw [Bool.and_eq_true, Bool.and_eq_true, decide_eq_true_eq] at hn2
    obtain ⟨⟨_, hl⟩, hc, ha⟩ := hn2
    rw [List.all_cons, Bool.and_eq_true] at ha
    rw [List.length_cons] at hl
    have st : lstep true s c = some ⟨s.pre, s.top + 1, 1, true⟩ := by
      have hb := letter_no hc
      have h32 : c ≠ 32 := fun e => by
        rw [e] at hc
        exact absurd hc (by decide +kernel)
      have h40 : c ≠ 40 := fun e => by
        rw [e] at hc
        exact absurd hc (by decide +kernel)
      unfold lstep
      rw [if_neg (by omega), if_neg (by omega), if_neg h32, if_neg (fun z => h40 z.2), if_pos ⟨h, hc⟩]
    have a := Adv.cons st (adv_more s.pre (s.top + 1) n 1 (by decide) (by omega) ha.2)
    cases co with
    | false =>
      refine ⟨1 + n.length, ?_⟩
      have e : leafS false (c :: n) = c :: n := List.append_nil _
      rw [e]
      exact a
    | true =>
      have st2 : lstep true ⟨s.pre, s.top + 1, 1 + n.length, true⟩ 126 = some ⟨s.pre, s.top + 1, 0, true⟩ := by
        have h1 : isLD 126 = false := by decide +kernel
        unfold lstep
        rw [if_neg (by rw [h1]; simp), if_pos ⟨by show 0 < 1 + n.length; omega, rfl⟩]
      exact ⟨0, a.trans (.one st2)⟩
/-- a half -/
theorem adv_half : ∀ (t : FT) {ts : List (List Nat)} {cs : List Nat}, t.Ok → Gp (toks true t ++ ts) cs → ∃ c1 c2, cs = c1 ++ c2 ∧ Gp ts c2 ∧ ∀ s : LS, (s.top = 0 ∨ s.top = 2) → s.nm = 0 → ∃ k, Adv s c1 ⟨s.pre, s.top + 1, k, t.isLeaf⟩
  | .leaf co n, ts, cs, h, g => by
    cases g with
    | @cons k _ _ cs' g =>
      refine ⟨spc k ++ leafS co n, cs', by rw [List.append_assoc], g, fun s h1 h2 => ?_⟩
      obtain ⟨p1, p2, p3⟩ := sp_pre s k
      obtain ⟨j, a⟩ := adv_leaf (co := co) h (s := s.sp k) (by rw [p2]; exact h1) (sp_nm k h2)
      rw [p1, p2] at a
      exact ⟨j, (adv_spc s k).trans a⟩
  | .node sg l r, ts, cs, h, g => by
    have e : toks true (.node sg l r) ++ ts = [40] :: (toks true l ++ ([sg.code] :: (toks true r ++ ([41] :: ts)))) := by
      show ([40] :: (toks true l ++ ([sg.code] :: toks true r) ++ [[41]])) ++ ts = _
      simp only [List.append_assoc, List.cons_append, List.nil_append]
    rw [e] at g
    cases g with
    | cons k g =>
      obtain ⟨l1, l2, rfl, g1, al⟩ := adv_half l h.1 g
      cases g1 with
      | cons b g2 =>
        obtain ⟨r1, r2, rfl, g3, ar⟩ := adv_half r h.2 g2
        cases g3 with
        | @cons d _ _ c4 g4 =>
          refine ⟨spc k ++ ([40] ++ (l1 ++ (spc b ++ ([sg.code] ++ (r1 ++ (spc d ++ [41])))))), c4, by simp only [List.append_assoc], g4, fun s h1 h2 => ⟨0, ?_⟩⟩
          obtain ⟨p1, p2, p3⟩ := sp_pre s k
          have a1 := Adv.one (step_open (s := s.sp k) (by rw [p2]; exact h1))
          obtain ⟨k2, a2⟩ := al ⟨(s.sp k).pre ++ [(s.sp k).top], 0, 0, (s.sp k).lf⟩ (.inl rfl) rfl
          have a3 := adv_spc ⟨(s.sp k).pre ++ [(s.sp k).top], 1, k2, l.isLeaf⟩ b
          obtain ⟨q1, q2, q3⟩ := sp_pre ⟨(s.sp k).pre ++ [(s.sp k).top], 1, k2, l.isLeaf⟩ b
          have a4 := Adv.one (step_fork (g := sg) (s := LS.sp ⟨(s.sp k).pre ++ [(s.sp k).top], 1, k2, l.isLeaf⟩ b) q2)
          obtain ⟨k5, a5⟩ := ar ⟨(LS.sp ⟨(s.sp k).pre ++ [(s.sp k).top], 1, k2, l.isLeaf⟩ b).pre, 2, 0, (LS.sp ⟨(s.sp k).pre ++ [(s.sp k).top], 1, k2, l.isLeaf⟩ b).lf⟩ (.inr rfl) rfl
          rw [q1] at a4 a5
          have a6 := adv_spc ⟨(s.sp k).pre ++ [(s.sp k).top], 3, k5, r.isLeaf⟩ d
          obtain ⟨u1, u2, u3⟩ := sp_pre ⟨(s.sp k).pre ++ [(s.sp k).top], 3, k5, r.isLeaf⟩ d
          have a7 := Adv.one (step_close (s := LS.sp ⟨(s.sp k).pre ++ [(s.sp k).top], 3, k5, r.isLeaf⟩ d) u2 u1)
          have e9 : (⟨(s.sp k).pre, (s.sp k).top + 1, 0, false⟩ : LS) = ⟨s.pre, s.top + 1, 0, (FT.node sg l r).isLeaf⟩ := by
            rw [p1, p2]
            rfl
          rw [e9] at a7
          exact (adv_spc s k).trans (a1.trans (a2.trans (a3.trans (a4.trans (a5.trans (a6.trans a7))))))
/-- a form, from the beginning of an end -/
def Ends1 (s : LS) : Prop := s.pre = [] ∧ (s.top = 3 ∨ (s.top = 1 ∧ s.lf = true))
theorem adv_form (t : FT) {ts : List (List Nat)} {cs : List Nat} (h : t.Ok) (g : Gp (toks false t ++ ts) cs) : ∃ c1 c2, cs = c1 ++ c2 ∧ Gp ts c2 ∧ ∀ b : Bool, ∃ u, Adv ⟨[], 0, 0, b⟩ c1 u ∧ Ends1 u := by
  cases t with
  | leaf co n =>
    obtain ⟨c1, c2, e, g2, a⟩ := adv_half (.leaf co n) h g
    refine ⟨c1, c2, e, g2, fun b => ?_⟩
    obtain ⟨k, a⟩ := a ⟨[], 0, 0, b⟩ (.inl rfl) rfl
    exact ⟨_, a, rfl, .inr ⟨rfl, rfl⟩⟩
  | node sg l r =>
    have e : toks false (.node sg l r) ++ ts = toks true l ++ ([sg.code] :: (toks true r ++ ts)) := by
      show (toks true l ++ ([sg.code] :: toks true r)) ++ ts = _
      simp only [List.append_assoc, List.cons_append, List.nil_append]
    rw [e] at g
    obtain ⟨l1, l2, rfl, g1, al⟩ := adv_half l h.1 g
    cases g1 with
    | cons b g2 =>
      obtain ⟨r1, r2, rfl, g3, ar⟩ := adv_half r h.2 g2
      refine ⟨l1 ++ (spc b ++ ([sg.code] ++ r1)), r2, by simp only [List.append_assoc], g3, fun bl => ?_⟩
      obtain ⟨k2, a2⟩ := al ⟨[], 0, 0, bl⟩ (.inl rfl) rfl
      have a3 := adv_spc ⟨[], 1, k2, l.isLeaf⟩ b
      obtain ⟨q1, q2, q3⟩ := sp_pre ⟨[], 1, k2, l.isLeaf⟩ b
      have a4 := Adv.one (step_fork (g := sg) (s := LS.sp ⟨[], 1, k2, l.isLeaf⟩ b) q2)
      obtain ⟨k5, a5⟩ := ar ⟨(LS.sp ⟨[], 1, k2, l.isLeaf⟩ b).pre, 2, 0, (LS.sp ⟨[], 1, k2, l.isLeaf⟩ b).lf⟩ (.inr rfl) rfl
      exact ⟨_, a2.trans (a3.trans (a4.trans a5)), q1, .inl rfl⟩
theorem lok_ends {s : LS} (h : Ends1 s) : lok s = true := by
  obtain ⟨h1, h2⟩ := h
  unfold lok
  rw [decide_eq_true h1, Bool.true_and]
  rcases h2 with h2 | ⟨h2, h3⟩
  · rw [decide_eq_true h2]
    rfl
  · rw [decide_eq_true h2, h3, Bool.true_and, Bool.or_true]
theorem ends_sp {s : LS} (k : Nat) (h : Ends1 s) : Ends1 (s.sp k) := by
  obtain ⟨p1, p2, p3⟩ := sp_pre s k
  unfold Ends1
  rw [p1, p2, p3]
  exact h
theorem adv_row : ∀ (ts : List FT) (t : FT) {cs : List Nat}, (∀ u ∈ t :: ts, u.Ok) → Gp (rowToks (t :: ts)) cs → ∀ b : Bool, ∃ u, Adv ⟨[], 0, 0, b⟩ cs u ∧ Ends1 u
  | [], t, cs, h, g, b => by
    have g : Gp (toks false t ++ []) cs := g
    obtain ⟨c1, c2, rfl, g2, a⟩ := adv_form t (h t (List.mem_cons_self ..)) g
    cases g2 with
    | nil k =>
      obtain ⟨u, a, e⟩ := a b
      exact ⟨_, a.trans (adv_spc u k), ends_sp k e⟩
  | x :: ts, t, cs, h, g, b => by
    have g : Gp (toks false t ++ ([44] :: (toks false x ++ moreToks ts))) cs := by
      have e : rowToks (t :: x :: ts) = toks false t ++ ([44] :: (toks false x ++ moreToks ts)) := by
        show toks false t ++ moreToks (x :: ts) = _
        unfold moreToks
        simp
      rw [← e]
      exact g
    obtain ⟨c1, c2, rfl, g2, a⟩ := adv_form t (h t (List.mem_cons_self ..)) g
    cases g2 with
    | cons k g3 =>
      obtain ⟨u, a, e⟩ := a b
      have e2 := ends_sp k e
      obtain ⟨v, a4, e4⟩ := adv_row ts x (fun u hu => h u (List.mem_cons_of_mem _ hu)) (g3 : Gp (rowToks (x :: ts)) _) (u.sp k).lf
      exact ⟨v, a.trans ((adv_spc u k).trans ((Adv.one (step_comma e2.1 e2.2)).trans a4)), e4⟩
theorem longest_row {ts : List FT} {cs : List Nat} (h1 : 1 ≤ ts.length) (h : ∀ u ∈ ts, u.Ok) (g : Gp (rowToks ts) cs) : longest true cs = (cs.length, true) := by
  cases ts with
  | nil => simp at h1
  | cons t ts =>
    obtain ⟨u, a, e⟩ := adv_row ts t h g false
    have := a 0 []
    rw [List.append_nil, Nat.zero_add] at this
    show lrun true ⟨[], 0, 0, false⟩ 0 cs = _
    rw [this]
    show (cs.length, lok u) = _
    rw [lok_ends e]
end My

set_option Elab.async false
set_option linter.all false
set_option maxRecDepth 100000
namespace My
open PySem L2
/-! ### any text, read from its beginning: where it stops, or what it tells -/
def skipS : List Nat → List Nat
  | [] => []
  | c :: cs => if c = 32 then skipS cs else c :: cs
def nameL : Nat → List Nat → List Nat × List Nat
  | 0, cs => ([], cs)
  | _ + 1, [] => ([], [])
  | k + 1, c :: cs => if isLD c = true then (c :: (nameL k cs).1, (nameL k cs).2) else ([], c :: cs)
def tildeL : List Nat → Bool × List Nat
  | [] => (false, [])
  | c :: cs => if c = 126 then (true, cs) else (false, c :: cs)
abbrev Lv5 := Option (FT × Sg)
inductive Out5 where
  | stop (rest : List Nat)
  | done (t : FT) (rest : List Nat)
  | go (st : List Lv5) (rest : List Nat)
def sgOf (c : Nat) : Sg := if c = 42 then .mul else if c = 124 then .bar else if c = 38 then .amp else .plus
theorem sgOf_code {c : Nat} (h : c ∈ forkC) : (sgOf c).code = c := by
  unfold forkC at h
  simp only [List.mem_cons, List.not_mem_nil, or_false] at h
  rcases h with rfl | rfl | rfl | rfl <;> rfl
def signP (st : List Lv5) (t : FT) : List Nat → Out5
  | [] => .stop []
  | c :: cs => if c ∈ forkC then .go (some (t, sgOf c) :: st) cs else .stop (c :: cs)
def closeP : List Lv5 → FT → List Nat → Out5
  | [], _, cs => .stop cs
  | none :: st, t, cs => if st.isEmpty = true ∧ t.isLeaf = true ∧ seesLB cs forkC = false then .done t cs else signP st t cs
  | some p :: st, t, cs => if st.isEmpty = true then .done (.node p.2 p.1 t) cs else match cs with
    | [] => .stop []
    | c :: r => if c = 41 then closeP st (.node p.2 p.1 t) (skipS r) else .stop (c :: r)
def leafP (st : List Lv5) (c : Nat) (r : List Nat) : Out5 := closeP st (.leaf (tildeL (nameL 11 r).2).1 (c :: (nameL 11 r).1)) (skipS (tildeL (nameL 11 r).2).2)
def partP (st : List Lv5) (cs : List Nat) : Out5 := match skipS cs with
  | [] => .stop []
  | c :: r => if c = 40 then .go (none :: st) r else if isL c = true then leafP st c r else .stop (c :: r)
def machP : Nat → List Lv5 → List Nat → Out5
  | 0, _, cs => .stop cs
  | m + 1, st, cs => match partP st cs with
    | .go st' cs' => machP m st' cs'
    | .done t cs' => .done t cs'
    | .stop cs' => .stop cs'
/-! ### the law's reader on the same text -/
def Go5 (row : Bool) (s : LS) (cs : List Nat) (t : LS) (rest : List Nat) : Prop := ∃ used, cs = used ++ rest ∧ ∀ i, lrun row s i cs = lrun row t (i + used.length) rest
def No5 (row : Bool) (s : LS) (cs rest : List Nat) : Prop := ∃ used, cs = used ++ rest ∧ ∀ i, lrun row s i cs = (i + used.length, false)
section
variable {row : Bool}
theorem Go5.refl (s : LS) (cs : List Nat) : Go5 row s cs s cs := ⟨[], rfl, fun _ => rfl⟩
theorem Go5.trans {s t u : LS} {a b c : List Nat} (h : Go5 row s a t b) (g : Go5 row t b u c) : Go5 row s a u c := by
  obtain ⟨x, rfl, h⟩ := h
  obtain ⟨y, rfl, g⟩ := g
  refine ⟨x ++ y, by rw [List.append_assoc], fun i => ?_⟩
  rw [h, g, List.length_append, Nat.add_assoc]
theorem Go5.no {s t : LS} {a b c : List Nat} (h : Go5 row s a t b) (g : No5 row t b c) : No5 row s a c := by
  obtain ⟨x, rfl, h⟩ := h
  obtain ⟨y, rfl, g⟩ := g
  refine ⟨x ++ y, by rw [List.append_assoc], fun i => ?_⟩
  rw [h, g, List.length_append, Nat.add_assoc]
theorem Go5.one {s t : LS} {c : Nat} {cs : List Nat} (h : lstep row s c = some t) : Go5 row s (c :: cs) t cs := ⟨[c], rfl, fun i => by
  show (match lstep row s c with | none => (i, false) | some t => lrun row t (i + 1) cs) = _
  rw [h]
  rfl⟩
theorem No5.one {s : LS} {c : Nat} {cs : List Nat} (h : lstep row s c = none) : No5 row s (c :: cs) (c :: cs) := ⟨[], rfl, fun i => by
  show (match lstep row s c with | none => (i, false) | some t => lrun row t (i + 1) cs) = _
  rw [h]
  rfl⟩
theorem No5.nil {s : LS} (h : lok s = false) : No5 row s [] [] := ⟨[], rfl, fun i => by
  show (i, lok s) = _
  rw [h]
  rfl⟩
theorem go_skip {s : LS} (h : s.nm = 0) : ∀ cs, Go5 row s cs s (skipS cs)
  | [] => .refl s []
  | c :: cs => by
    unfold skipS
    split
    · rename_i e
      subst e
      have st : lstep row s 32 = some s := by
        unfold lstep
        rw [if_neg (by rw [isLD32]; simp), if_neg (by simp), if_pos rfl, ← h]
      exact (Go5.one st).trans (go_skip h cs)
    · exact .refl s _
theorem skipS_head : ∀ cs, (skipS cs).head? ≠ some 32
  | [] => by intro h; cases h
  | c :: cs => by
    unfold skipS
    split
    · exact skipS_head cs
    · rename_i e
      intro h
      exact e (Option.some.inj h)
theorem skipS_suf : ∀ cs, ∃ k, cs = spc k ++ skipS cs
  | [] => ⟨0, rfl⟩
  | c :: cs => by
    unfold skipS
    split
    · rename_i e
      subst e
      obtain ⟨k, hk⟩ := skipS_suf cs
      refine ⟨k + 1, ?_⟩
      show 32 :: cs = 32 :: (spc k ++ skipS cs)
      rw [← hk]
    · exact ⟨0, rfl⟩
theorem ld_no {c : Nat} (h : isLD c = true) : c ≠ 32 ∧ c ≠ 41 ∧ c ≠ 44 ∧ c ≠ 126 ∧ c ∉ forkC := by
  refine ⟨fun e => ?_, fun e => ?_, fun e => ?_, fun e => ?_, fun e => ?_⟩
  · subst e; exact absurd h (by decide +kernel)
  · subst e; exact absurd h (by decide +kernel)
  · subst e; exact absurd h (by decide +kernel)
  · subst e; exact absurd h (by decide +kernel)
  · unfold forkC at e
    simp only [List.mem_cons, List.not_mem_nil, or_false] at e
    rcases e with rfl | rfl | rfl | rfl <;> exact absurd h (by decide +kernel)
theorem lstep_nm {p : List Nat} {t k : Nat} {l : Bool} {c : Nat} (h1 : isLD c = false) (h2 : c ≠ 126) : lstep row ⟨p, t, k, l⟩ c = lstep row ⟨p, t, 0, l⟩ c := by
  have a1 : ∀ n : Nat, ¬ (0 < n ∧ isLD c = true) := fun n z => by rw [h1] at z; cases z.2
  have a2 : ∀ n : Nat, ¬ (0 < n ∧ c = 126) := fun n z => h2 z.2
  have b : ∀ n : Nat, lstep row ⟨p, t, n, l⟩ c = (if c = 32 then some ⟨p, t, 0, l⟩ else lstep row ⟨p, t, 0, l⟩ c) := fun n => by
    unfold lstep
    rw [if_neg (a1 n), if_neg (a2 n)]
    split
    · rfl
    · rw [if_neg (a1 0), if_neg (a2 0)]
  rw [b k, ← b 0]
theorem lstep_ld {p : List Nat} {t : Nat} {l : Bool} {c : Nat} (h : isLD c = true) (ht : t = 1 ∨ t = 3) : lstep row ⟨p, t, 0, l⟩ c = none := by
  obtain ⟨h1, h2, h3, h4, h5⟩ := ld_no h
  unfold lstep
  rw [if_neg (by simp), if_neg (by simp), if_neg h1, if_neg (by rintro ⟨z, _⟩; simp only at z; omega), if_neg (by rintro ⟨z, _⟩; simp only at z; omega), if_neg (fun z => h5 z.2), if_neg (fun z => h2 z.2.2), if_neg (fun z => h3 z.2.1)]
theorem go_norm {p : List Nat} {t k : Nat} {l : Bool} {r : List Nat} (ht : t = 1 ∨ t = 3) (hr : r.head? ≠ some 126) (h : k = 12 ∨ r.head?.any isLD = false) : Go5 row ⟨p, t, k, l⟩ r ⟨p, t, 0, l⟩ r := by
  refine ⟨[], rfl, fun i => ?_⟩
  cases r with
  | nil => rfl
  | cons c cs =>
    have h126 : c ≠ 126 := fun e => hr (congrArg some e)
    have e : lstep row ⟨p, t, k, l⟩ c = lstep row ⟨p, t, 0, l⟩ c := by
      cases hc : isLD c with
      | false => exact lstep_nm hc h126
      | true =>
        rcases h with rfl | h
        · rw [lstep_ld hc ht]
          unfold lstep
          rw [if_pos ⟨by show 0 < 12; decide, hc⟩, if_pos rfl]
        · have : isLD c = false := h
          rw [hc] at this
          cases this
    show (match lstep row ⟨p, t, k, l⟩ c with | none => (i, false) | some t => lrun row t (i + 1) cs) = (match lstep row ⟨p, t, 0, l⟩ c with | none => (i + 0, false) | some t => lrun row t (i + 0 + 1) cs)
    rw [e]
    rfl
theorem go_name {p : List Nat} {t : Nat} : ∀ (k j : Nat) (r : List Nat), 0 < j → j + k = 12 → Go5 row ⟨p, t, j, true⟩ r ⟨p, t, j + (nameL k r).1.length, true⟩ (nameL k r).2 ∧ (j + (nameL k r).1.length = 12 ∨ (nameL k r).2.head?.any isLD = false) ∧ (nameL k r).1.all isLD = true ∧ (nameL k r).1.length ≤ k ∧ r = (nameL k r).1 ++ (nameL k r).2
  | 0, j, r, h0, h => by
    unfold nameL
    exact ⟨.refl _ _, .inl h, rfl, Nat.le_refl _, rfl⟩
  | k + 1, j, [], h0, h => by
    unfold nameL
    exact ⟨.refl _ _, .inr rfl, rfl, Nat.zero_le _, rfl⟩
  | k + 1, j, c :: cs, h0, h => by
    unfold nameL
    cases hc : isLD c with
    | false =>
      rw [if_neg (by decide)]
      exact ⟨.refl _ _, .inr hc, rfl, Nat.zero_le _, rfl⟩
    | true =>
      rw [if_pos rfl]
      obtain ⟨g1, g2, g3, g4, g5⟩ := go_name (p := p) (t := t) k (j + 1) cs (by omega) (by omega)
      have st : lstep row ⟨p, t, j, true⟩ c = some ⟨p, t, j + 1, true⟩ := by
        unfold lstep
        rw [if_pos ⟨h0, hc⟩, if_neg (by show ¬ j = 12; omega)]
      rw [show j + 1 + (nameL k cs).1.length = j + ((nameL k cs).1.length + 1) by omega] at g1 g2
      refine ⟨(Go5.one st).trans g1, g2, ?_, Nat.succ_le_succ g4, congrArg (c :: ·) g5⟩
      show (isLD c && _) = true
      rw [hc, g3]
      rfl
end
def lvl : Lv5 → Nat
  | none => 0
  | some _ => 2
def lsOf (f : Lv5) (b : List Lv5) (lf : Bool) : LS := ⟨(b.map lvl).reverse, lvl f, 0, lf⟩
def cl5 (f : Lv5) (b : List Lv5) (t : FT) : LS := ⟨(b.map lvl).reverse, lvl f + 1, 0, t.isLeaf⟩
theorem lvl_02 (f : Lv5) : lvl f = 0 ∨ lvl f = 2 := by cases f; exact .inl rfl; exact .inr rfl
/-- what is due of an end -/
structure End5 (x : LS) (rest : List Nat) : Prop where
  e : Ends1 x
  nm : x.nm = 0
  sp : rest.head? ≠ some 32
  fk : x.top = 1 → seesLB rest forkC = false
def Law5 (row : Bool) (s : LS) (cs : List Nat) : Out5 → Prop
  | .stop rest => No5 row s cs rest
  | .done _ rest => ∃ x, Go5 row s cs x rest ∧ End5 x rest
  | .go st rest => ∃ f b lf, st = f :: b ∧ Go5 row s cs (lsOf f b lf) rest
theorem Law5.of {row : Bool} {s t : LS} {a b : List Nat} (h : Go5 row s a t b) : ∀ {o : Out5}, Law5 row t b o → Law5 row s a o
  | .stop _, g => h.no g
  | .done _ _, ⟨x, g, e⟩ => ⟨x, h.trans g, e⟩
  | .go _ _, ⟨f, b, lf, e, g⟩ => ⟨f, b, lf, e, h.trans g⟩
section
variable {row : Bool}
theorem sign_law (b : List Lv5) (t : FT) {cs : List Nat} (h : cs.head? ≠ some 32) (hn : ¬ (b.isEmpty = true ∧ t.isLeaf = true ∧ seesLB cs forkC = false)) : Law5 row (cl5 none b t) cs (signP b t cs) := by
  cases cs with
  | nil =>
    refine No5.nil ?_
    unfold lok cl5
    show (decide ((b.map lvl).reverse = []) && (decide (0 + 1 = 3) || (decide (0 + 1 = 1) && t.isLeaf))) = false
    cases b with
    | cons x b => rw [decide_eq_false (by simp)]; rfl
    | nil =>
      cases ht : t.isLeaf with
      | false => rfl
      | true => exact absurd ⟨rfl, ht, rfl⟩ hn
  | cons c cs =>
    have h32 : c ≠ 32 := fun e => h (congrArg some e)
    show Law5 row _ _ (if c ∈ forkC then .go (some (t, sgOf c) :: b) cs else .stop (c :: cs))
    by_cases hc : c ∈ forkC
    · rw [if_pos hc]
      refine ⟨_, b, t.isLeaf, rfl, Go5.one ?_⟩
      have := step_fork (s := cl5 none b t) (g := sgOf c) rfl
      have e : lstep row (cl5 none b t) c = lstep true (cl5 none b t) (sgOf c).code := by
        rw [sgOf_code hc]
        unfold lstep
        have h1 : isLD c = false := by rw [← sgOf_code hc]; exact (sgOf c).no.1
        rw [if_neg (by rw [h1]; simp), if_neg (fun z => absurd z.1 (by show ¬ 0 < 0; decide)), if_neg h32, if_neg (fun z => by have := z.1; unfold cl5 lvl at this; simp at this), if_neg (fun z => by have := z.1; unfold cl5 lvl at this; simp at this), if_pos ⟨rfl, hc⟩]
        rw [if_neg (by rw [h1]; simp), if_neg (fun z => absurd z.1 (by show ¬ 0 < 0; decide)), if_neg h32, if_neg (fun z => by have := z.1; unfold cl5 lvl at this; simp at this), if_neg (fun z => by have := z.1; unfold cl5 lvl at this; simp at this), if_pos ⟨rfl, hc⟩]
      rw [e, this]
      rfl
    · rw [if_neg hc]
      refine No5.one ?_
      unfold lstep
      have hp : (cl5 none b t).pre = [] → b.isEmpty = true := fun e => by
        have e : (b.map lvl).reverse = [] := e
        cases b with
        | nil => rfl
        | cons x b => simp at e
      rw [if_neg (fun z => absurd z.1 (by show ¬ 0 < 0; decide)), if_neg (fun z => absurd z.1 (by show ¬ 0 < 0; decide)), if_neg h32, if_neg (fun z => by have := z.1; unfold cl5 lvl at this; simp at this), if_neg (fun z => by have := z.1; unfold cl5 lvl at this; simp at this), if_neg (fun z => hc z.2),
        if_neg (fun z => by have := z.1; unfold cl5 lvl at this; simp at this), if_neg (fun z => ?_)]
      obtain ⟨_, e44, e1, e2⟩ := z
      rcases e2 with e2 | ⟨_, e2⟩
      · unfold cl5 lvl at e2; simp at e2
      · exact hn ⟨hp e1, e2, decide_eq_false hc⟩
theorem close_law : ∀ (f : Lv5) (b : List Lv5) (t : FT) {cs : List Nat}, cs.head? ≠ some 32 → Law5 row (cl5 f b t) cs (closeP (f :: b) t cs)
  | none, b, t, cs, h => by
    unfold closeP
    split
    · rename_i hc
      obtain ⟨e1, e2, e3⟩ := hc
      obtain rfl : b = [] := List.isEmpty_iff.1 e1
      exact ⟨_, .refl _ _, ⟨⟨rfl, .inr ⟨rfl, e2⟩⟩, rfl, h, fun _ => e3⟩⟩
    · rename_i hc
      exact sign_law b t h hc
  | some p, [], t, cs, h => by
    show Law5 row _ _ (.done (.node p.2 p.1 t) cs)
    exact ⟨_, .refl _ _, ⟨⟨rfl, .inl rfl⟩, rfl, h, fun e => by cases e⟩⟩
  | some p, f :: b, t, cs, h => by
    unfold closeP
    rw [if_neg (by simp)]
    have hpre : (cl5 (some p) (f :: b) t).pre = (b.map lvl).reverse ++ [lvl f] := by
      show ((f :: b).map lvl).reverse = _
      rw [List.map_cons, List.reverse_cons]
    cases cs with
    | nil =>
      refine No5.nil ?_
      unfold lok
      rw [hpre, decide_eq_false (by simp)]
      rfl
    | cons c r =>
      have h32 : c ≠ 32 := fun e => h (congrArg some e)
      show Law5 row _ _ (if c = 41 then closeP (f :: b) (.node p.2 p.1 t) (skipS r) else .stop (c :: r))
      by_cases e : c = 41
      · rw [if_pos e]
        subst e
        have st : lstep row (cl5 (some p) (f :: b) t) 41 = some (cl5 f b (.node p.2 p.1 t)) := by
          have h1 : isLD 41 = false := by decide +kernel
          have h2 : ¬ (41 ∈ forkC) := by decide
          unfold lstep
          rw [if_neg (by rw [h1]; simp), if_neg (by simp), if_neg (by decide), if_neg (fun z => absurd z.2 (by decide)), if_neg (fun z => by have := z.2; exact absurd this (by decide +kernel)), if_neg (fun z => h2 z.2), if_pos ⟨rfl, by rw [hpre]; simp, rfl⟩, hpre]
          unfold cl5
          simp
          rfl
        exact Law5.of ((Go5.one st).trans (go_skip rfl r)) (close_law f b (.node p.2 p.1 t) (skipS_head r))
      · rw [if_neg e]
        refine No5.one ?_
        unfold lstep
        rw [if_neg (fun z => absurd z.1 (by show ¬ 0 < 0; decide)), if_neg (fun z => absurd z.1 (by show ¬ 0 < 0; decide)), if_neg h32, if_neg (fun z => by have := z.1; unfold cl5 lvl at this; simp at this), if_neg (fun z => by have := z.1; unfold cl5 lvl at this; simp at this), if_neg (fun z => by have := z.1; unfold cl5 lvl at this; simp at this),
          if_neg (fun z => e z.2.2), if_neg (fun z => by have := z.2.2.1; rw [hpre] at this; simp at this)]
theorem leaf_law (f : Lv5) (b : List Lv5) {lf : Bool} {c : Nat} (hc : isL c = true) (r : List Nat) : Law5 row (lsOf f b lf) (c :: r) (leafP (f :: b) c r) := by
  have h32 : c ≠ 32 := fun e => by
    rw [e] at hc
    exact absurd hc (by decide +kernel)
  have h40 : c ≠ 40 := fun e => by
    rw [e] at hc
    exact absurd hc (by decide +kernel)
  have st : lstep row (lsOf f b lf) c = some ⟨(b.map lvl).reverse, lvl f + 1, 1, true⟩ := by
    unfold lstep
    rw [if_neg (fun z => absurd z.1 (by show ¬ 0 < 0; decide)), if_neg (fun z => absurd z.1 (by show ¬ 0 < 0; decide)), if_neg h32, if_neg (fun z => h40 z.2), if_pos ⟨lvl_02 f, hc⟩]
    rfl
  have ht : lvl f + 1 = 1 ∨ lvl f + 1 = 3 := by rcases lvl_02 f with h | h <;> omega
  obtain ⟨g1, g2, _, _, _⟩ := go_name (row := row) (p := (b.map lvl).reverse) (t := lvl f + 1) 11 1 r (by decide) (by decide)
  unfold leafP
  refine Law5.of ((Go5.one st).trans g1) ?_
  generalize (nameL 11 r).1 = n at *
  generalize (nameL 11 r).2 = r1 at *
  refine Law5.of (Go5.trans ?_ (go_skip (s := cl5 f b (.leaf (tildeL r1).1 (c :: n))) rfl (tildeL r1).2)) (close_law f b _ (skipS_head _))
  unfold tildeL
  cases r1 with
  | nil => exact go_norm ht (by intro h; cases h) g2
  | cons d r1 =>
    show Go5 row _ _ (cl5 f b (.leaf (if d = 126 then (true, r1) else (false, d :: r1)).1 _)) (if d = 126 then (true, r1) else (false, d :: r1)).2
    by_cases hd : d = 126
    · rw [if_pos hd]
      subst hd
      refine Go5.one ?_
      have h1 : isLD 126 = false := by decide +kernel
      unfold lstep
      rw [if_neg (by rw [h1]; simp), if_pos ⟨by show 0 < 1 + n.length; omega, rfl⟩]
      rfl
    · rw [if_neg hd]
      exact go_norm ht (fun h => hd (Option.some.inj h)) g2
theorem part_law (f : Lv5) (b : List Lv5) (lf : Bool) (cs : List Nat) : Law5 row (lsOf f b lf) cs (partP (f :: b) cs) := by
  unfold partP
  refine Law5.of (go_skip rfl cs) ?_
  cases e : skipS cs with
  | nil =>
    refine No5.nil ?_
    unfold lok lsOf
    show (_ && (decide (lvl f = 3) || (decide (lvl f = 1) && lf))) = false
    have h3 : ¬ lvl f = 3 := by rcases lvl_02 f with h | h <;> omega
    have h1 : ¬ lvl f = 1 := by rcases lvl_02 f with h | h <;> omega
    rw [decide_eq_false h3, decide_eq_false h1]
    simp
  | cons c r =>
    have h32 : c ≠ 32 := fun z => by
      have := skipS_head cs
      rw [e, z] at this
      exact this rfl
    show Law5 row _ _ (if c = 40 then .go (none :: f :: b) r else if isL c = true then leafP (f :: b) c r else .stop (c :: r))
    by_cases h40 : c = 40
    · rw [if_pos h40]
      subst h40
      refine ⟨none, f :: b, lf, rfl, Go5.one ?_⟩
      unfold lstep
      have h1 : isLD 40 = false := by decide +kernel
      rw [if_neg (by rw [h1]; simp), if_neg (by simp), if_neg (by decide), if_pos ⟨lvl_02 f, rfl⟩]
      show some _ = some (LS.mk ((f :: b).map lvl).reverse 0 0 lf)
      rw [List.map_cons, List.reverse_cons]
      rfl
    · rw [if_neg h40]
      by_cases hl : isL c = true
      · rw [if_pos hl]
        exact leaf_law f b hl r
      · rw [if_neg hl]
        refine No5.one ?_
        unfold lstep
        have h02 := lvl_02 f
        rw [if_neg (fun z => absurd z.1 (by show ¬ 0 < 0; decide)), if_neg (fun z => absurd z.1 (by show ¬ 0 < 0; decide)), if_neg h32, if_neg (fun z => h40 z.2), if_neg (fun z => hl z.2),
          if_neg (fun z => by have : lvl f = 1 := z.1; omega), if_neg (fun z => by have : lvl f = 3 := z.1; omega), if_neg (fun z => ?_)]
        obtain ⟨_, _, _, h | ⟨h, _⟩⟩ := z
        · have : lvl f = 3 := h
          omega
        · have : lvl f = 1 := h
          omega
/-- what stands behind a form -/
theorem end_nil {x : LS} (h : End5 x []) (i : Nat) : lrun row x i [] = (i, true) := by
  show (i, lok x) = _
  rw [lok_ends h.e]
theorem end_comma {x : LS} {r : List Nat} (h : End5 x (44 :: r)) (i : Nat) : lrun true x i (44 :: r) = lrun true ⟨[], 0, 0, x.lf⟩ (i + 1) r := by
  show (match lstep true x 44 with | none => (i, false) | some t => lrun true t (i + 1) r) = _
  rw [step_comma h.e.1 h.e.2]
theorem end_no {x : LS} {c : Nat} {r : List Nat} (h : End5 x (c :: r)) (hc : row = true → c ≠ 44) (i : Nat) : lrun row x i (c :: r) = (i, false) := by
  show (match lstep row x c with | none => (i, false) | some t => lrun row t (i + 1) r) = _
  have : lstep row x c = none := by
    have h32 : c ≠ 32 := fun e => h.sp (congrArg some e)
    obtain ⟨e1, e2⟩ := h.e
    have hnm := h.nm
    unfold lstep
    rw [if_neg (by omega), if_neg (by omega), if_neg h32, if_neg (by omega), if_neg (by omega), if_neg (fun z => ?_), if_neg (fun z => z.2.1 e1), if_neg (fun z => hc z.1 z.2.1)]
    have := h.fk z.1
    exact absurd z.2 (of_decide_eq_false this)
  rw [this]
end
end My

set_option Elab.async false
set_option linter.all false
set_option maxRecDepth 100000
namespace My
open PySem L2
/-! ### what is read is a text of a form -/
def itmT : Lv5 → List (List Nat)
  | none => []
  | some p => toks true p.1 ++ [[p.2.code]]
def stT : List Lv5 → List (List Nat)
  | [] => []
  | f :: b => if b.isEmpty = true then itmT f else stT b ++ ([40] :: itmT f)
def OkL (st : List Lv5) : Prop := ∀ p, some p ∈ st → p.1.Ok
theorem gp_spcs {ts : List (List Nat)} {cs : List Nat} (g : Gp ts cs) (k : Nat) : Gp ts (spc k ++ cs) := by
  cases g with
  | nil j =>
    rw [List.replicate_append_replicate]
    exact .nil _
  | cons j g =>
    rw [← List.append_assoc, List.replicate_append_replicate]
    exact .cons _ g
theorem gp_app : ∀ {ts us : List (List Nat)} {cs ds : List Nat}, Gp ts cs → Gp us ds → Gp (ts ++ us) (cs ++ ds)
  | _, _, _, _, .nil k, g => gp_spcs g k
  | _, _, _, _, .cons k (t := t) (cs := cs) h, g => by
    rw [List.append_assoc, List.append_assoc, List.cons_append]
    exact .cons k (gp_app h g)
theorem gp_one (t : List Nat) (k : Nat) : Gp [t] (t ++ spc k) := .cons 0 (.nil k)
def Gr5 (T : List (List Nat)) (cs : List Nat) : Out5 → Prop
  | .stop _ => True
  | .done t rest => t.Ok ∧ ∃ used, cs = used ++ rest ∧ ∀ pre, Gp T pre → Gp (toks false t) (pre ++ used)
  | .go st rest => OkL st ∧ ∃ used, cs = used ++ rest ∧ ∀ pre, Gp T pre → Gp (stT st) (pre ++ used)
theorem Gr5.of {T T' : List (List Nat)} {u cs : List Nat} (h : ∀ pre, Gp T pre → Gp T' (pre ++ u)) : ∀ {o : Out5}, Gr5 T' cs o → Gr5 T (u ++ cs) o
  | .stop _, _ => trivial
  | .done _ _, ⟨ok, used, e, g⟩ => ⟨ok, u ++ used, by rw [e, List.append_assoc], fun pre a => by rw [← List.append_assoc]; exact g _ (h pre a)⟩
  | .go _ _, ⟨ok, used, e, g⟩ => ⟨ok, u ++ used, by rw [e, List.append_assoc], fun pre a => by rw [← List.append_assoc]; exact g _ (h pre a)⟩
theorem stT_cons (f : Lv5) {b : List Lv5} (h : b ≠ []) : stT (f :: b) = stT b ++ ([40] :: itmT f) := by
  show (if b.isEmpty = true then _ else _) = _
  rw [if_neg (by rw [List.isEmpty_iff]; exact h)]
theorem stT_sg (p : FT × Sg) (b : List Lv5) : stT (some p :: b) = stT (none :: b) ++ (toks true p.1 ++ [[p.2.code]]) := by
  cases b with
  | nil => rfl
  | cons g b =>
    rw [stT_cons (some p) (b := g :: b) (by simp), stT_cons none (b := g :: b) (by simp), List.append_assoc]
    rfl
theorem toks_leaf {t : FT} (h : t.isLeaf = true) : toks false t = toks true t := by
  cases t with
  | leaf => rfl
  | node => cases h
theorem gp_sp_end {T : List (List Nat)} {pre : List Nat} (g : Gp T pre) (k : Nat) : Gp T (pre ++ spc k) := by
  have := gp_app g (.nil k)
  rw [List.append_nil] at this
  exact this
theorem gr_skip {T : List (List Nat)} {cs : List Nat} {o : Out5} (h : Gr5 T (skipS cs) o) : Gr5 T cs o := by
  obtain ⟨k, e⟩ := skipS_suf cs
  rw [e]
  exact Gr5.of (fun pre g => gp_sp_end g k) h
theorem sign_gr {b : List Lv5} {t : FT} (hb : OkL b) (ht : t.Ok) (cs : List Nat) : Gr5 (stT (none :: b) ++ toks true t) cs (signP b t cs) := by
  cases cs with
  | nil => exact trivial
  | cons c cs =>
    show Gr5 _ _ (if c ∈ forkC then .go (some (t, sgOf c) :: b) cs else .stop (c :: cs))
    by_cases hc : c ∈ forkC
    · rw [if_pos hc]
      refine ⟨fun p m => ?_, [c], rfl, fun pre g => ?_⟩
      · rcases List.mem_cons.1 m with e | m
        · cases e
          exact ht
        · exact hb p m
      · rw [stT_sg, ← List.append_assoc]
        have : [(sgOf c).code] = [c] := by rw [sgOf_code hc]
        show Gp (stT (none :: b) ++ toks true t ++ [[(sgOf c).code]]) _
        rw [this]
        exact gp_app g (gp_one [c] 0)
    · rw [if_neg hc]
      exact trivial
theorem close_gr : ∀ (f : Lv5) (b : List Lv5) (t : FT) (cs : List Nat), OkL (f :: b) → t.Ok → Gr5 (stT (f :: b) ++ toks true t) cs (closeP (f :: b) t cs)
  | none, b, t, cs, hb, ht => by
    unfold closeP
    split
    · rename_i hc
      obtain rfl : b = [] := List.isEmpty_iff.1 hc.1
      refine ⟨ht, [], rfl, fun pre g => ?_⟩
      rw [toks_leaf hc.2.1, List.append_nil]
      exact g
    · exact sign_gr (fun p m => hb p (List.mem_cons_of_mem _ m)) ht cs
  | some p, [], t, cs, hb, ht => by
    show Gr5 _ _ (.done (.node p.2 p.1 t) cs)
    refine ⟨⟨hb p List.mem_cons_self, ht⟩, [], rfl, fun pre g => ?_⟩
    rw [List.append_nil]
    have e : stT [some p] ++ toks true t = toks false (.node p.2 p.1 t) := by
      show toks true p.1 ++ [[p.2.code]] ++ toks true t = toks true p.1 ++ ([p.2.code] :: toks true t)
      rw [List.append_assoc]
      rfl
    rw [← e]
    exact g
  | some p, f :: b, t, cs, hb, ht => by
    unfold closeP
    rw [if_neg (by simp)]
    cases cs with
    | nil => exact trivial
    | cons c r =>
      show Gr5 _ _ (if c = 41 then closeP (f :: b) (.node p.2 p.1 t) (skipS r) else .stop (c :: r))
      by_cases e : c = 41
      · rw [if_pos e]
        subst e
        have ok : FT.Ok (.node p.2 p.1 t) := ⟨hb p List.mem_cons_self, ht⟩
        have := close_gr f b (.node p.2 p.1 t) (skipS r) (fun q m => hb q (List.mem_cons_of_mem _ m)) ok
        refine Gr5.of (u := [41]) (fun pre g => ?_) (gr_skip this)
        have e : stT (f :: b) ++ toks true (.node p.2 p.1 t) = (stT (some p :: f :: b) ++ toks true t) ++ [[41]] := by
          rw [stT_cons (some p) (b := f :: b) (by simp)]
          show stT (f :: b) ++ ([40] :: (toks true p.1 ++ ([p.2.code] :: toks true t) ++ [[41]])) = (stT (f :: b) ++ ([40] :: (toks true p.1 ++ [[p.2.code]]))) ++ toks true t ++ [[41]]
          simp only [List.append_assoc, List.cons_append, List.nil_append]
        rw [e]
        exact gp_app g (gp_one [41] 0)
      · rw [if_neg e]
        exact trivial
theorem name_split : ∀ (k : Nat) (r : List Nat), r = (nameL k r).1 ++ (nameL k r).2 ∧ (nameL k r).1.all isLD = true ∧ (nameL k r).1.length ≤ k
  | 0, r => ⟨rfl, rfl, Nat.le_refl _⟩
  | k + 1, [] => ⟨rfl, rfl, Nat.zero_le _⟩
  | k + 1, c :: cs => by
    unfold nameL
    obtain ⟨h1, h2, h3⟩ := name_split k cs
    split
    · rename_i hc
      refine ⟨congrArg (c :: ·) h1, ?_, Nat.succ_le_succ h3⟩
      show (isLD c && _) = true
      rw [hc, h2]
      rfl
    · exact ⟨rfl, rfl, Nat.zero_le _⟩
theorem tilde_split (r : List Nat) : r = (if (tildeL r).1 then [126] else []) ++ (tildeL r).2 := by
  cases r with
  | nil => rfl
  | cons c r =>
    show c :: r = (if (if c = 126 then (true, r) else (false, c :: r)).1 then [126] else []) ++ (if c = 126 then (true, r) else (false, c :: r)).2
    by_cases h : c = 126
    · rw [if_pos h, h]
      rfl
    · rw [if_neg h]
      rfl
theorem leaf_ok {c : Nat} {n : List Nat} (co : Bool) (hc : isL c = true) (hn : n.all isLD = true) (hl : n.length ≤ 11) : (FT.leaf co (c :: n)).Ok := by
  show (decide (1 ≤ (Z (c :: n)).length ∧ (Z (c :: n)).length ≤ 12) && (isL c && (isLD c && n.all isLD))) = true
  rw [Z_len, decide_eq_true (by rw [List.length_cons]; omega), hc, hn]
  unfold isLD
  rw [hc]
  rfl
theorem leaf_gr (f : Lv5) (b : List Lv5) {c : Nat} (hc : isL c = true) (r : List Nat) (hb : OkL (f :: b)) : Gr5 (stT (f :: b)) (c :: r) (leafP (f :: b) c r) := by
  unfold leafP
  obtain ⟨h1, h2, h3⟩ := name_split 11 r
  have h4 := tilde_split (nameL 11 r).2
  have g := gr_skip (close_gr f b (.leaf (tildeL (nameL 11 r).2).1 (c :: (nameL 11 r).1)) (skipS (tildeL (nameL 11 r).2).2) hb (leaf_ok _ hc h2 h3))
  have e : c :: r = leafS (tildeL (nameL 11 r).2).1 (c :: (nameL 11 r).1) ++ (tildeL (nameL 11 r).2).2 := by
    unfold leafS
    rw [List.append_assoc, ← h4, List.cons_append, ← h1]
  rw [e]
  refine Gr5.of (fun pre a => ?_) g
  have := gp_app a (gp_one (leafS (tildeL (nameL 11 r).2).1 (c :: (nameL 11 r).1)) 0)
  rw [show spc 0 = [] from rfl, List.append_nil] at this
  exact this
theorem part_gr (f : Lv5) (b : List Lv5) (cs : List Nat) (hb : OkL (f :: b)) : Gr5 (stT (f :: b)) cs (partP (f :: b) cs) := by
  refine gr_skip ?_
  unfold partP
  cases e : skipS cs with
  | nil => exact trivial
  | cons c r =>
    show Gr5 _ _ (if c = 40 then .go (none :: f :: b) r else if isL c = true then leafP (f :: b) c r else .stop (c :: r))
    by_cases h : c = 40
    · rw [if_pos h]
      subst h
      refine ⟨fun p m => ?_, [40], rfl, fun pre g => ?_⟩
      · rcases List.mem_cons.1 m with e | m
        · cases e
        · exact hb p m
      · rw [stT_cons none (b := f :: b) (by simp)]
        exact gp_app g (gp_one [40] 0)
    · rw [if_neg h]
      by_cases h : isL c = true
      · rw [if_pos h]
        exact leaf_gr f b h r hb
      · rw [if_neg h]
        exact trivial
/-! ### how much is read -/
theorem skipS_le : ∀ cs, (skipS cs).length ≤ cs.length
  | [] => Nat.le_refl _
  | c :: cs => by
    unfold skipS
    split
    · exact Nat.le_succ_of_le (skipS_le cs)
    · exact Nat.le_refl _
theorem sign_len {b : List Lv5} {t : FT} {cs rest : List Nat} {st : List Lv5} (h : signP b t cs = .go st rest) : rest.length < cs.length ∧ st ≠ [] := by
  cases cs with
  | nil => cases h
  | cons c cs =>
    have h : (if c ∈ forkC then Out5.go (some (t, sgOf c) :: b) cs else .stop (c :: cs)) = .go st rest := h
    by_cases hc : c ∈ forkC
    · rw [if_pos hc] at h
      cases h
      exact ⟨Nat.lt_succ_self _, by simp⟩
    · rw [if_neg hc] at h
      cases h
theorem close_len : ∀ (b : List Lv5) (t : FT) (cs rest : List Nat) (st : List Lv5), closeP b t cs = .go st rest → rest.length < cs.length ∧ st ≠ []
  | [], t, cs, rest, st, h => by cases h
  | none :: b, t, cs, rest, st, h => by
    unfold closeP at h
    split at h
    · cases h
    · exact sign_len h
  | some p :: b, t, cs, rest, st, h => by
    unfold closeP at h
    split at h
    · cases h
    · cases cs with
      | nil => cases h
      | cons c r =>
        have h : (if c = 41 then closeP b (.node p.2 p.1 t) (skipS r) else .stop (c :: r)) = .go st rest := h
        split at h
        · have h9 := close_len b _ _ _ _ h
          have := skipS_le r
          exact ⟨by rw [List.length_cons]; omega, h9.2⟩
        · cases h
theorem part_len {b : List Lv5} {cs rest : List Nat} {st : List Lv5} (h : partP b cs = .go st rest) : rest.length < cs.length ∧ st ≠ [] := by
  have hk := skipS_le cs
  unfold partP at h
  cases e : skipS cs with
  | nil => rw [e] at h; cases h
  | cons c r =>
    rw [e] at h hk
    rw [List.length_cons] at hk
    have h : (if c = 40 then Out5.go (none :: b) r else if isL c = true then leafP b c r else .stop (c :: r)) = .go st rest := h
    split at h
    · cases h
      exact ⟨by omega, by simp⟩
    · split at h
      · unfold leafP at h
        have h1 := close_len _ _ _ _ _ h
        have h2 := skipS_le (tildeL (nameL 11 r).2).2
        have h3 := congrArg List.length (tilde_split (nameL 11 r).2)
        have h4 := congrArg List.length (name_split 11 r).1
        rw [List.length_append] at h3 h4
        exact ⟨by omega, h1.2⟩
      · cases h
/-! ### a form -/
theorem mach_law {row : Bool} : ∀ (m : Nat) (f : Lv5) (b : List Lv5) (lf : Bool) (cs : List Nat), cs.length < m → Law5 row (lsOf f b lf) cs (machP m (f :: b) cs) ∧ ∀ st r, machP m (f :: b) cs ≠ .go st r
  | 0, f, b, lf, cs, h => by omega
  | m + 1, f, b, lf, cs, h => by
    have g := part_law (row := row) f b lf cs
    unfold machP
    cases e : partP (f :: b) cs with
    | stop r => rw [e] at g; exact ⟨g, fun _ _ z => by cases z⟩
    | done t r => rw [e] at g; exact ⟨g, fun _ _ z => by cases z⟩
    | go st r =>
      rw [e] at g
      obtain ⟨f', b', lf', rfl, g⟩ := g
      have hl := part_len e
      have := mach_law (row := row) m f' b' lf' r (by omega)
      exact ⟨Law5.of g this.1, this.2⟩
theorem mach_gr : ∀ (m : Nat) (b : List Lv5) (cs : List Nat), b ≠ [] → OkL b → Gr5 (stT b) cs (machP m b cs)
  | 0, b, cs, _, _ => trivial
  | m + 1, [], cs, h0, _ => absurd rfl h0
  | m + 1, f :: b, cs, h0, hb => by
    have g := part_gr f b cs hb
    unfold machP
    cases e : partP (f :: b) cs with
    | stop r => exact trivial
    | done t r => rw [e] at g; exact g
    | go st r =>
      rw [e] at g
      have hl := part_len e
      obtain ⟨ok, used, rfl, g⟩ := g
      exact Gr5.of g (mach_gr m st r hl.2 ok)
def formP (cs : List Nat) : Out5 := machP (cs.length + 1) [none] cs
theorem formP_go (cs : List Nat) (st : List Lv5) (r : List Nat) : formP cs ≠ .go st r := (mach_law (row := true) _ none [] false cs (Nat.lt_succ_self _)).2 st r
theorem formP_law {row : Bool} (lf : Bool) (cs : List Nat) : Law5 row ⟨[], 0, 0, lf⟩ cs (formP cs) := (mach_law (row := row) _ none [] lf cs (Nat.lt_succ_self _)).1
theorem formP_gr {cs rest : List Nat} {t : FT} (h : formP cs = .done t rest) : t.Ok ∧ ∃ used, cs = used ++ rest ∧ Gp (toks false t) used := by
  have g := mach_gr (cs.length + 1) [none] cs (by simp) (fun p m => by rcases List.mem_cons.1 m with e | m; cases e; cases m)
  unfold formP at h
  rw [h] at g
  obtain ⟨ok, used, e, g⟩ := g
  exact ⟨ok, used, e, g [] (.nil 0)⟩
theorem formP_len {cs rest : List Nat} {t : FT} (h : formP cs = .done t rest) : rest.length ≤ cs.length := by
  obtain ⟨_, used, e, _⟩ := formP_gr h
  rw [e, List.length_append]
  omega
/-- what is due of a form's text -/
theorem long_form (cs : List Nat) : match formP cs with
    | .stop rest => ∃ used, cs = used ++ rest ∧ longest false cs = (used.length, false)
    | .done t rest => ∃ used, cs = used ++ rest ∧ longest false cs = (used.length, rest.isEmpty) ∧ t.Ok ∧ Gp (toks false t) used
    | .go _ _ => False := by
  have g := formP_law (row := false) false cs
  cases e : formP cs with
  | stop rest =>
    rw [e] at g
    obtain ⟨used, rfl, g⟩ := g
    refine ⟨used, rfl, ?_⟩
    have := g 0
    rw [Nat.zero_add] at this
    exact this
  | go st r => exact absurd e (formP_go cs st r)
  | done t rest =>
    rw [e] at g
    obtain ⟨ok, u2, e2, gp⟩ := formP_gr e
    obtain ⟨x, ⟨used, rfl, g⟩, en⟩ := g
    obtain rfl : used = u2 := (List.append_cancel_right e2)
    refine ⟨used, rfl, ?_, ok, gp⟩
    have := g 0
    rw [Nat.zero_add] at this
    refine this.trans ?_
    cases rest with
    | nil => exact end_nil en _
    | cons c r => exact end_no en (fun z => by cases z) _
/-! ### a row of forms -/
inductive OutR where
  | stop (rest : List Nat)
  | done (ts : List FT) (rest : List Nat)
def rowP : Nat → List Nat → OutR
  | 0, cs => .stop cs
  | m + 1, cs => match formP cs with
    | .stop r => .stop r
    | .go _ r => .stop r
    | .done t [] => .done [t] []
    | .done t (c :: r) => if c = 44 then (match rowP m r with
      | .stop r' => .stop r'
      | .done ts r' => .done (t :: ts) r') else .done [t] (c :: r)
theorem row_law : ∀ (m : Nat) (lf : Bool) (cs : List Nat), cs.length < m → match rowP m cs with
    | .stop rest => No5 true ⟨[], 0, 0, lf⟩ cs rest
    | .done ts rest => (∃ x, Go5 true ⟨[], 0, 0, lf⟩ cs x rest ∧ End5 x rest) ∧ rest.head? ≠ some 44 ∧ ts ≠ [] ∧ (∀ t ∈ ts, t.Ok) ∧ ∃ used, cs = used ++ rest ∧ Gp (rowToks ts) used
  | 0, lf, cs, h => by omega
  | m + 1, lf, cs, h => by
    have g := formP_law (row := true) lf cs
    unfold rowP
    cases e : formP cs with
    | stop rest => rw [e] at g; exact g
    | go st r => exact absurd e (formP_go cs st r)
    | done t rest =>
      rw [e] at g
      obtain ⟨x, g, en⟩ := g
      obtain ⟨ok, used, e2, gp⟩ := formP_gr e
      have hl := formP_len e
      cases rest with
      | nil =>
        refine ⟨⟨x, g, en⟩, (by intro z; cases z), (by simp), fun u m => ?_, used, e2, ?_⟩
        · rw [List.mem_singleton.1 m]; exact ok
        · show Gp (toks false t ++ moreToks []) used
          have : moreToks [] = [] := rfl
          rw [this, List.append_nil]
          exact gp
      | cons c r =>
        by_cases hc : c = 44
        · subst hc
          have ih := row_law m x.lf r (by rw [List.length_cons] at hl; omega)
          have gc : Go5 true ⟨[], 0, 0, lf⟩ cs ⟨[], 0, 0, x.lf⟩ r := g.trans (Go5.one (step_comma en.e.1 en.e.2))
          show match (if 44 = 44 then (match rowP m r with | .stop r' => .stop r' | .done ts r' => .done (t :: ts) r') else OutR.done [t] (44 :: r)) with | .stop rest => _ | .done ts rest => _
          rw [if_pos rfl]
          cases er : rowP m r with
          | stop r' =>
            rw [er] at ih
            exact gc.no ih
          | done ts r' =>
            rw [er] at ih
            obtain ⟨⟨y, g2, en2⟩, h1, h2, h3, u2, e3, gp2⟩ := ih
            refine ⟨⟨y, gc.trans g2, en2⟩, h1, by simp, fun u m => ?_, used ++ (44 :: u2), ?_, ?_⟩
            · rcases List.mem_cons.1 m with e | m
              · rw [e]; exact ok
              · exact h3 u m
            · rw [e2, e3]
              simp only [List.append_assoc, List.cons_append]
            · obtain ⟨t2, ts2, rfl⟩ : ∃ t2 ts2, ts = t2 :: ts2 := by
                cases ts with
                | nil => exact absurd rfl h2
                | cons a b => exact ⟨a, b, rfl⟩
              show Gp (toks false t ++ moreToks (t2 :: ts2)) _
              have em : moreToks (t2 :: ts2) = [44] :: rowToks (t2 :: ts2) := by
                show (List.map (fun t => [44] :: toks false t) (t2 :: ts2)).flatten = _
                rw [List.map_cons, List.flatten_cons, List.cons_append]
                rfl
              rw [em]
              exact gp_app gp (Gp.cons 0 gp2)
        · show match (if c = 44 then (match rowP m r with | .stop r' => .stop r' | .done ts r' => .done (t :: ts) r') else OutR.done [t] (c :: r)) with | .stop rest => _ | .done ts rest => _
          rw [if_neg hc]
          refine ⟨⟨x, g, en⟩, fun z => hc (Option.some.inj z), by simp, fun u m => ?_, used, e2, ?_⟩
          · rw [List.mem_singleton.1 m]; exact ok
          · show Gp (toks false t ++ moreToks []) used
            have : moreToks [] = [] := rfl
            rw [this, List.append_nil]
            exact gp
theorem long_row (m : Nat) (cs : List Nat) (h : cs.length < m) : match rowP m cs with
    | .stop rest => ∃ used, cs = used ++ rest ∧ longest true cs = (used.length, false)
    | .done ts rest => ∃ used, cs = used ++ rest ∧ longest true cs = (used.length, rest.isEmpty) ∧ ts ≠ [] ∧ (∀ t ∈ ts, t.Ok) ∧ Gp (rowToks ts) used := by
  have g := row_law m false cs h
  cases e : rowP m cs with
  | stop rest =>
    rw [e] at g
    obtain ⟨used, rfl, g⟩ := g
    refine ⟨used, rfl, ?_⟩
    have := g 0
    rw [Nat.zero_add] at this
    exact this
  | done ts rest =>
    rw [e] at g
    obtain ⟨⟨x, ⟨used, rfl, g⟩, en⟩, h1, h2, h3, u2, e2, gp⟩ := g
    obtain rfl : used = u2 := (List.append_cancel_right e2)
    refine ⟨used, rfl, ?_, h2, h3, gp⟩
    have := g 0
    rw [Nat.zero_add] at this
    refine this.trans ?_
    cases rest with
    | nil => exact end_nil en _
    | cons c r => exact end_no en (fun _ z => h1 (congrArg some z)) _
end My

set_option Elab.async false
set_option linter.all false
set_option maxRecDepth 100000
namespace My
open PySem L2
/-! ### a method that may raise -/
structure MthX (P : Program) (w : World) (K : PySem.W.Frag) (mg : Str → Option Value) (base : Heap) (C : Addr) (m : Str) (k : Nat) (ps : List Str) (sp : Sp) where
  f : Addr
  fd : FuncData
  me : Meth K C m f
  ok : FnOk P w K mg base (L2.CX P w) k f fd ps sp
  b : Binds K fd ps []
section
variable {X : Cx} {k j : Nat} {ps : List Str} {sp : Sp} {C : Addr} {m : Str} {E : XK} {o e : Expr} {es : List Expr} {ta : TE} {t : TA} {pos apos : Pos} {pl : Sem Bool}
theorem pass_all {CX : CXT} (h : ∀ σ, PassesAt CX X σ E) : Passes CX X E := fun pins σ H s e s' i c => h σ pins H s e s' i c
theorem pe_methX (M : MthX X.prog X.w X.K X.mg X.base C m k ps sp) (he : PE X o ta) (c : Cls X.K C) (hr : Room k X.A) (hx : ∀ σ, PassesAt (L2.CX X.prog X.w) X σ E) (ha : PA X (e :: es) t)
    (hst : starEach (e :: es) X.env = (false, eval e X.env) :: starEach es X.env := by rfl) (hpl : (backTo pos (starEach es X.env)).any (·.1) = false := by rfl)
    (ht : eval (.Call (.Attribute o m apos) (e :: es) [] pos) X.env = (do
      let ov ← eval o X.env
      standAt apos.atName
      let (f, first) ← holding [ov] (getMethod ov m pl)
      callWith pos f first (backTo pos (starEach (e :: es) X.env)) (backToKw pos (keywordEach [] X.env))) := by rfl) :
    PE X (.Call (.Attribute o m apos) (e :: es) [] pos) (tMeth C m sp [] E ta t) := pe_meth (pl := pl) he c M.me M.ok hr M.b .nil (pass_all hx) ha hst hpl ht
theorem pe_methX0 (M : MthX X.prog X.w X.K X.mg X.base C m k ps sp) (he : PE X o ta) (c : Cls X.K C) (hr : Room k X.A) (hx : ∀ σ, PassesAt (L2.CX X.prog X.w) X σ E)
    (ht : eval (.Call (.Attribute o m apos) [] [] pos) X.env = (do
      let ov ← eval o X.env
      standAt apos.atName
      let (f, first) ← holding [ov] (getMethod ov m pl)
      callWith pos f first (backTo pos (starEach [] X.env)) (backToKw pos (keywordEach [] X.env))) := by rfl) :
    PE X (.Call (.Attribute o m apos) [] [] pos) (tMeth C m sp [] E ta tNil) := pe_meth0 (pl := pl) he c M.me M.ok hr M.b .nil (pass_all hx) ht
end
/-- the reader's steps on any text -/
def spFinishX (CR CN : Addr) : Sp := fun vs H Q E => ∃ (p dx : Addr) (pre suf : List Nat), vs = [.ref p] ∧ H p = some (rO CR dx pre suf) ∧ pre.length + suf.length ≤ sizeLine ∧ (suf = [] → Q .non H) ∧ (suf ≠ [] → badE CN "at" (.int (pre.length : Nat)) H E)
def spTakeX (CR CN : Addr) : Sp := fun vs H Q E => ∃ (p dx : Addr) (pre suf : List Nat) (g : Str), vs = [.ref p, .str g] ∧ H p = some (rO CR dx pre suf) ∧ pre.length + suf.length ≤ sizeLine ∧
  (∀ c r, suf = c :: r → oneOf g c = true → ∀ H', Mv p H H' → H' p = some (rO CR dx (pre ++ [c]) r) → Q (.str ⟨#[c]⟩) H') ∧ (seesB suf g = false → badE CN "at" (.int (pre.length : Nat)) H E)
section
variable {P : Program} {w : World} {K : PySem.W.Frag} {mg : Str → Option Value} {base : Heap} {f : Addr} {fd : FuncData} {CR CN : Addr}
theorem okRd3X {R : RdTxt K CR} (ON : OneE P w K mg base "NotAText" "at" CN) (M2 : Mth P w K mg base CR "is_done" 1 NRd2 (spDone CR)) (F : Fun K "finish" "Reader.finish" sRd3 f fd) : FnOk P w K mg base (L2.CX P w) 3 f fd NRd2 (spFinishX CR CN) := by
  refine F.okX scRd3 (fun vs H Q E h => ?_) (fun cdv A outer s H vs Q E hr h => ?_)
  · obtain ⟨p, dx, pre, suf, rfl, _⟩ := h
    rfl
  obtain ⟨p, dx, pre, suf, rfl, hp, hl, q1, q2⟩ := h
  refine ⟨_, pss_one (ps_if (pt_not (pt_val (pe_methM0 M2 (pv 0) R.cl hr))) (pss_one (ps_raise1 (k := 0) ON rfl (hr.mono (by decide)) (takes_of rfl rfl rfl rfl) (pe_fld (pv 0) rfl))) pss_nil), ?_⟩
  refine ⟨_, rfl, p, dx, _, rfl, hp, rF_no, p, dx, pre, suf, rfl, hp, hl, ?_⟩
  refine ⟨_, rfl, ?_⟩
  by_cases c : suf = []
  · rw [decide_eq_true c]
    exact iteF (q1 c)
  · rw [decide_eq_false c]
    exact iteT ⟨_, rfl, _, CR, _, _, _, rfl, hp, R.cl, R.nAt, rF_at _ _, mk_one ON.oex ON.no fun d nd => q2 c d H (Same.refl H) nd⟩
theorem okRd4X {R : RdTxt K CR} (ON : OneE P w K mg base "NotAText" "at" CN) (M1 : Mth P w K mg base CR "sees" 1 NRd1 (spSees CR)) (F : Fun K "take" "Reader.take" sRd4 f fd) : FnOk P w K mg base (L2.CX P w) 3 f fd NRd1 (spTakeX CR CN) := by
  refine F.okX scRd4 (fun vs H Q E h => ?_) (fun cdv A outer s H vs Q E hr h => ?_)
  · obtain ⟨p, dx, pre, suf, g, rfl, _⟩ := h
    rfl
  obtain ⟨p, dx, pre, suf, g, rfl, hp, hl, q1, q2⟩ := h
  refine ⟨_, pss_cons (ps_if (pt_not (pt_val (pe_methM M1 (pv 0) R.cl hr (pa_cons (pv 1) pa_nil)))) (pss_one (ps_raise1 (k := 0) ON rfl (hr.mono (by decide)) (takes_of rfl rfl rfl rfl) (pe_fld (pv 0) rfl))) pss_nil)
    (pss_cons (ps_fldaug (pv 0) pe_int in_add) (pss_one (ps_ret (pe_ix ix_str (pe_fld (pv 0) rfl) (pe_op op_sub (pe_fld (pv 0) rfl) pe_int) (fun _ _ => rfl))))), ?_⟩
  refine ⟨_, rfl, p, dx, _, rfl, hp, rF_no, _, rfl, p, dx, pre, suf, g, rfl, hp, hl, ?_⟩
  refine ⟨_, rfl, ?_⟩
  cases hs : seesB suf g with
  | false =>
    exact iteT ⟨_, rfl, _, CR, _, _, _, rfl, hp, R.cl, R.nAt, rF_at _ _, mk_one ON.oex ON.no fun d nd => q2 hs d H (Same.refl H) nd⟩
  | true =>
    cases suf with
    | nil => cases hs
    | cons c suf =>
      have hc : oneOf g c = true := hs
      refine iteF ?_
      have hz : (Z (pre ++ c :: suf)).length ≤ sizeLine := by
        rw [Z_len, List.length_append]
        exact hl
      have e1 : HO.ins CR dx (putF "at" (.int ((pre.length : Int) + 1)) (rF (.str (Z (pre ++ c :: suf))) (.int pre.length))) = rO CR dx (pre ++ [c]) suf := by
        rw [putF_at]
        exact rO_move CR dx pre [c] suf
      refine ⟨_, rfl, _, CR, _, _, _, rfl, hp, R.cl, R.nAt, rF_at _ _, _, _, rfl, rfl, dx, _, hp, (by show 2 < 1000; decide), ?_⟩
      rw [e1]
      have hp2 : upd H p (rO CR dx (pre ++ [c]) suf) p = some (rO CR dx (pre ++ [c]) suf) := upd_same
      refine ⟨_, rfl, _, CR, _, _, _, rfl, hp2, R.cl, R.nText, rF_text _ _, _, rfl, _, CR, _, _, _, rfl, hp2, R.cl, R.nAt, rF_at _ _, _, _, rfl, rfl, _, _, c, rfl, rfl, ?_, ?_, q1 c suf rfl hc _ (Mv.upd (Mv.refl _ _)) hp2⟩
      · rw [Z_len]
        simp only [List.length_append, List.length_cons, List.length_nil] at hl ⊢
        omega
      · rw [show (((pre ++ [c]).length : Nat) : Int) - 1 = (pre.length : Nat) by simp only [List.length_append, List.length_cons, List.length_nil]; omega]
        refine atI_nat (j := pre.length) ?_
        show (pre ++ [c] ++ suf)[pre.length]? = some c
        rw [List.append_assoc, List.getElem?_append_right (Nat.le_refl _), Nat.sub_self]
        rfl
end
end My

set_option Elab.async false
set_option linter.all false
set_option maxRecDepth 100000
namespace My
open PySem L2
def spTakeNameX (CR CN : Addr) : Sp := fun vs H Q E => ∃ (p dx : Addr) (pre suf : List Nat), vs = [.ref p] ∧ H p = some (rO CR dx pre suf) ∧ pre.length + suf.length ≤ sizeLine ∧
  (∀ c r, suf = c :: r → isL c = true → ∀ H', Mv p H H' → H' p = some (rO CR dx (pre ++ c :: (nameL 11 r).1) (nameL 11 r).2) → Q (.str (Z (c :: (nameL 11 r).1))) H') ∧ (suf.head?.any isL = false → badE CN "at" (.int (pre.length : Nat)) H E)
theorem nameL_stop {k : Nat} {b : List Nat} (h : b.head?.any isLD = false) : nameL k b = ([], b) := by
  cases k with
  | zero => rfl
  | succ k =>
    cases b with
    | nil => rfl
    | cons d b =>
      have h : isLD d = false := h
      show (if isLD d = true then _ else _) = _
      rw [h]
      rfl
theorem nameL_go {k d : Nat} {b : List Nat} (h : isLD d = true) : nameL (k + 1) (d :: b) = (d :: (nameL k b).1, (nameL k b).2) := by
  show (if isLD d = true then _ else _) = _
  rw [if_pos h]
section
variable {P : Program} {w : World} {K : PySem.W.Frag} {mg : Str → Option Value} {base : Heap} {f : Addr} {fd : FuncData} {CR CN : Addr}
theorem okRd9X {R : RdTxt K CR} (T : Txt K mg) (M1 : Mth P w K mg base CR "sees" 1 NRd1 (spSees CR)) (M4 : MthX P w K mg base CR "take" 3 NRd1 (spTakeX CR CN)) (F : Fun K "take_name" "Reader.take_name" sRd9 f fd) : FnOk P w K mg base (L2.CX P w) 4 f fd NRd2 (spTakeNameX CR CN) := by
  refine F.okX scRd9 (fun vs H Q E h => ?_) (fun cdv A outer s H vs Q E hr h => ?_)
  · obtain ⟨p, dx, pre, suf, rfl, _⟩ := h
    rfl
  obtain ⟨p, dx, pre, suf, rfl, hp, hl, q1, q2⟩ := h
  refine ⟨_, pss_cons (ps_set (i := 1) scRd9.nd rfl (Or.inl rfl) (pe_fld (pv 0) rfl)) (pss_cons (ps_expr (pe_methX M4 (pv 0) R.cl (hr.mono (by decide)) (fun σ => passAt (takes_of rfl rfl rfl rfl) σ) (pa_cons (pe_globE T.LETTERS) pa_nil)))
    (pss_cons (ps_while (passes_of rfl) (PW.pt (pw_and (pt_cmpR op_lt (pe_op op_sub (pe_fld (pv 0) rfl) (pv 1)) (pe_globE T.LONGEST_NAME) (nomark _)) (pw_and1 (PW.pt (pw_or (pt_val (pe_methM M1 (pv 0) R.cl hr (pa_cons (pe_globE T.LETTERS) pa_nil))) (pw_or1 (pt_val (pe_methM M1 (pv 0) R.cl hr (pa_cons (pe_globE T.DIGITS) pa_nil)))))))))
      (pss_one (ps_fldaug (pv 0) pe_int in_add)))
    (pss_one (ps_ret (pe_slice sl_str (pe_fld (pv 0) rfl) (po_some (pv 1)) (po_some (pe_fld (pv 0) rfl))))))), ?_⟩
  refine ⟨_, rfl, _, CR, _, _, _, rfl, hp, R.cl, R.nAt, rF_at _ _, ?_⟩
  refine ⟨_, rfl, p, dx, _, rfl, hp, rF_no, p, dx, pre, suf, zLetters, rfl, hp, hl, ?_, fun hs d H' s1 nd => q2 hs d H' s1 nd⟩
  rintro c r rfl hc H1 m1 h1
  replace hc : isL c = true := hc
  obtain ⟨n, hn⟩ : ∃ n, n = (nameL 11 r).1 := ⟨_, rfl⟩
  obtain ⟨r1, hr1⟩ : ∃ r1, r1 = (nameL 11 r).2 := ⟨_, rfl⟩
  have q := q1 c r rfl hc
  rw [← hn, ← hr1] at q
  obtain ⟨e0, _, h11⟩ := name_split 11 r
  rw [← hn, ← hr1] at e0
  rw [← hn] at h11
  have hz0 : (pre ++ c :: n ++ r1).length ≤ sizeLine := by
    rw [e0] at hl
    simp only [List.length_append, List.length_cons] at hl ⊢
    omega
  clear q1 q2
  refine ⟨fun m σ H' => σ = start NRd9 [.ref p, .int pre.length] ∧ Mv p H H' ∧ ∃ a b, c :: n = a ++ (nameL m b).1 ∧ r1 = (nameL m b).2 ∧ a.length + m = 12 ∧ 1 ≤ a.length ∧ H' p = some (rO CR dx (pre ++ a) b), ⟨11, rfl, m1, [c], r, by rw [hn]; rfl, hr1, rfl, Nat.le_refl _, h1⟩, ?_⟩
  rintro m σ H' ⟨rfl, mv, a, b, e, er, em, ha, h'⟩
  refine ⟨_, rfl, _, CR, _, _, _, rfl, h', R.cl, R.nAt, rF_at _ _, _, rfl, _, _, rfl, rfl, _, _, rfl, rfl, _, rfl, ?_⟩
  rw [show (((pre ++ a).length : Nat) : Int) - pre.length = (a.length : Nat) by rw [List.length_append]; omega]
  have hb := (name_split m b).1
  rw [← er] at hb
  have hzb : pre.length + a.length + b.length ≤ sizeLine := by
    have h2 := congrArg List.length e
    have h3 := congrArg List.length hb
    simp only [List.length_append, List.length_cons] at h2 h3 hz0 ⊢
    omega
  have hzc : (pre ++ a).length + b.length ≤ sizeLine := by rw [List.length_append]; exact hzb
  have fin : nameL m b = ([], b) → tRet (tSl rSlS (tFld K (tVar 0) (Str.ofString "text")) (tPart (tVar 1)) (tPart (tFld K (tVar 0) (Str.ofString "at")))) { nx := fun x H' => Q V.non H', rt := Q } (start NRd9 [V.ref p, V.int pre.length]) H' := by
    intro eb
    rw [eb] at e er
    have ea : a = c :: n := by rw [e, List.append_nil]
    subst ea
    have er : r1 = b := er
    subst er
    refine ⟨_, rfl, _, CR, _, _, _, rfl, h', R.cl, R.nText, rF_text _ _, _, rfl, _, rfl, _, rfl, _, CR, _, _, _, rfl, h', R.cl, R.nAt, rF_at _ _, _, rfl, _, rfl, ?_, ?_⟩
    · rw [Z_len]
      exact hz0
    · rw [cutS_mid pre (c :: n) r1]
      exact q _ mv h'
  cases m with
  | zero =>
    rw [decide_eq_false (by omega : ¬ ((a.length : Nat) : Int) < 12)]
    exact iteF (fin rfl)
  | succ m =>
    rw [decide_eq_true (by omega : ((a.length : Nat) : Int) < 12)]
    refine iteT ⟨_, rfl, p, dx, _, rfl, h', rF_no, p, dx, _, _, zLetters, rfl, h', hzc, _, rfl, ?_⟩
    cases b with
    | nil => exact iteF ⟨_, rfl, p, dx, _, rfl, h', rF_no, p, dx, _, _, zDigits, rfl, h', hzc, _, rfl, iteF (fin rfl)⟩
    | cons d b =>
      by_cases hL : isL d = true
      · rw [show seesB (d :: b) zLetters = true from hL]
        have hd : isLD d = true := by unfold isLD; rw [hL]; rfl
        rw [nameL_go hd] at e er
        refine iteT (iteT ⟨fun σ H'' => σ = start NRd9 [.ref p, .int pre.length] ∧ Mv p H H'' ∧ ∃ a b, c :: n = a ++ (nameL m b).1 ∧ r1 = (nameL m b).2 ∧ a.length + m = 12 ∧ 1 ≤ a.length ∧ H'' p = some (rO CR dx (pre ++ a) b), fun σ'' H'' h => ⟨m, Nat.lt_succ_self m, h⟩, ?_⟩)
        refine ⟨_, rfl, _, CR, _, _, _, rfl, h', R.cl, R.nAt, rF_at _ _, _, _, rfl, rfl, dx, _, h', (by show 2 < 1000; decide), rfl, Mv.upd mv, a ++ [d], b, by rw [e, List.append_assoc]; rfl, er, by rw [List.length_append]; show a.length + 1 + m = 12; omega, by rw [List.length_append]; omega, ?_⟩
        rw [upd_same, putF_at]
        have := rO_move CR dx (pre ++ a) [d] b
        rw [show pre ++ (a ++ [d]) = pre ++ a ++ [d] by rw [List.append_assoc]]
        exact congrArg some this
      · have hL2 : isL d = false := by simpa using hL
        rw [show seesB (d :: b) zLetters = false from hL2]
        refine iteF ⟨_, rfl, p, dx, _, rfl, h', rF_no, p, dx, _, _, zDigits, rfl, h', hzc, _, rfl, ?_⟩
        by_cases hD : oneOf zDigits d = true
        · rw [show seesB (d :: b) zDigits = true from hD]
          have hd : isLD d = true := by
            unfold isLD
            rw [hL2, Bool.false_or]
            exact hD
          rw [nameL_go hd] at e er
          refine iteT ⟨fun σ H'' => σ = start NRd9 [.ref p, .int pre.length] ∧ Mv p H H'' ∧ ∃ a b, c :: n = a ++ (nameL m b).1 ∧ r1 = (nameL m b).2 ∧ a.length + m = 12 ∧ 1 ≤ a.length ∧ H'' p = some (rO CR dx (pre ++ a) b), fun σ'' H'' h => ⟨m, Nat.lt_succ_self m, h⟩, ?_⟩
          refine ⟨_, rfl, _, CR, _, _, _, rfl, h', R.cl, R.nAt, rF_at _ _, _, _, rfl, rfl, dx, _, h', (by show 2 < 1000; decide), rfl, Mv.upd mv, a ++ [d], b, by rw [e, List.append_assoc]; rfl, er, by rw [List.length_append]; show a.length + 1 + m = 12; omega, by rw [List.length_append]; omega, ?_⟩
          rw [upd_same, putF_at]
          have := rO_move CR dx (pre ++ a) [d] b
          rw [show pre ++ (a ++ [d]) = pre ++ a ++ [d] by rw [List.append_assoc]]
          exact congrArg some this
        · have hD2 : oneOf zDigits d = false := by simpa using hD
          rw [show seesB (d :: b) zDigits = false from hD2]
          refine iteF (fin (nameL_stop ?_))
          show isLD d = false
          unfold isLD
          rw [hL2, Bool.false_or]
          exact hD2
end
end My

set_option Elab.async false
set_option linter.all false
set_option maxRecDepth 100000
namespace My
open PySem L2
def spTakeLX (K : PySem.W.Frag) (CR CN : Addr) : Sp := fun vs H Q E => ∃ (p dx l : Addr) (pre suf cs : List Nat), vs = [.ref p, .ref l] ∧ H p = some (rO CR dx pre suf) ∧ SqL K H l (signsL cs) ∧ pre.length + suf.length ≤ sizeLine ∧
  (∀ c r, suf = c :: r → c ∈ cs → ∀ H', Mv p H H' → H' p = some (rO CR dx (pre ++ [c]) r) → Q (.str ⟨#[c]⟩) H') ∧ (seesLB suf cs = false → badE CN "at" (.int (pre.length : Nat)) H E)
def spTakeSignX (K : PySem.W.Frag) (CR CN : Addr) : Sp := fun vs H Q E => ∃ (p dx W l : Addr) (pre suf : List Nat), vs = [.ref p, .ref W, .ref l] ∧ H p = some (rO CR dx pre suf) ∧ H W = some (.dK wordsF) ∧ SqL K H l (signsL forkC) ∧ pre.length + suf.length ≤ sizeLine ∧
  (∀ s r, suf = Sg.code s :: r → ∀ H', Keep p H H' → H' p = some (rO CR dx (pre ++ [s.code]) r) → Q (.str s.word) H') ∧ (seesLB suf forkC = false → badE CN "at" (.int (pre.length : Nat)) H E)
def spTakeLeafX (K : PySem.W.Frag) (CR CW CN : Addr) : Sp := fun vs H Q E => ∃ (p dx W : Addr) (pre suf : List Nat), vs = [.ref p, .ref W] ∧ H p = some (rO CR dx pre suf) ∧ H W = some (.dK wordsF) ∧ pre.length + suf.length ≤ sizeLine ∧
  (∀ c r, suf = c :: r → isL c = true → ∀ H' v, Keep p H H' → H' p = some (rO CR dx (pre ++ leafS (tildeL (nameL 11 r).2).1 (c :: (nameL 11 r).1)) (tildeL (nameL 11 r).2).2) → Wr K CW H' (.leaf (tildeL (nameL 11 r).2).1 (c :: (nameL 11 r).1)) v → Q v H') ∧ (suf.head?.any isL = false → badE CN "at" (.int (pre.length : Nat)) H E)
theorem tilde_sees (r : List Nat) : seesB r zTilde = (tildeL r).1 := by
  cases r with
  | nil => rfl
  | cons c r =>
    show oneOf zTilde c = (if c = 126 then (true, r) else (false, c :: r)).1
    have e : zTilde.cps.toList = [126] := by decide +kernel
    unfold oneOf
    rw [e]
    by_cases h : c = 126
    · rw [if_pos h, h]
      rfl
    · rw [if_neg h, decide_eq_false (by simpa using h)]
section
variable {P : Program} {w : World} {K : PySem.W.Frag} {mg : Str → Option Value} {base : Heap} {f : Addr} {fd : FuncData} {CR CN CW fI : Addr}
theorem okRd4LX {R : RdTxt K CR} (ON : OneE P w K mg base "NotAText" "at" CN) (M1 : Mth P w K mg base CR "sees" 1 NRd1 (spSeesL K CR)) (F : Fun K "take" "Reader.take" sRd4 f fd) : FnOk P w K mg base (L2.CX P w) 3 f fd NRd1 (spTakeLX K CR CN) := by
  refine F.okX scRd4 (fun vs H Q E h => ?_) (fun cdv A outer s H vs Q E hr h => ?_)
  · obtain ⟨p, dx, l, pre, suf, cs, rfl, _⟩ := h
    rfl
  obtain ⟨p, dx, l, pre, suf, cs, rfl, hp, hL, hl, q1, q2⟩ := h
  refine ⟨_, pss_cons (ps_if (pt_not (pt_val (pe_methM M1 (pv 0) R.cl hr (pa_cons (pv 1) pa_nil)))) (pss_one (ps_raise1 (k := 0) ON rfl (hr.mono (by decide)) (takes_of rfl rfl rfl rfl) (pe_fld (pv 0) rfl))) pss_nil)
    (pss_cons (ps_fldaug (pv 0) pe_int in_add) (pss_one (ps_ret (pe_ix ix_str (pe_fld (pv 0) rfl) (pe_op op_sub (pe_fld (pv 0) rfl) pe_int) (fun _ _ => rfl))))), ?_⟩
  refine ⟨_, rfl, p, dx, _, rfl, hp, rF_no, _, rfl, p, dx, l, pre, suf, cs, rfl, hp, hL, hl, ?_⟩
  refine ⟨_, rfl, ?_⟩
  cases hs : seesLB suf cs with
  | false =>
    exact iteT ⟨_, rfl, _, CR, _, _, _, rfl, hp, R.cl, R.nAt, rF_at _ _, mk_one ON.oex ON.no fun d nd => q2 hs d H (Same.refl H) nd⟩
  | true =>
    cases suf with
    | nil => cases hs
    | cons c suf =>
      have hc : c ∈ cs := of_decide_eq_true hs
      refine iteF ?_
      have hz : (Z (pre ++ c :: suf)).length ≤ sizeLine := by
        rw [Z_len, List.length_append]
        exact hl
      have e1 : HO.ins CR dx (putF "at" (.int ((pre.length : Int) + 1)) (rF (.str (Z (pre ++ c :: suf))) (.int pre.length))) = rO CR dx (pre ++ [c]) suf := by
        rw [putF_at]
        exact rO_move CR dx pre [c] suf
      refine ⟨_, rfl, _, CR, _, _, _, rfl, hp, R.cl, R.nAt, rF_at _ _, _, _, rfl, rfl, dx, _, hp, (by show 2 < 1000; decide), ?_⟩
      rw [e1]
      have hp2 : upd H p (rO CR dx (pre ++ [c]) suf) p = some (rO CR dx (pre ++ [c]) suf) := upd_same
      refine ⟨_, rfl, _, CR, _, _, _, rfl, hp2, R.cl, R.nText, rF_text _ _, _, rfl, _, CR, _, _, _, rfl, hp2, R.cl, R.nAt, rF_at _ _, _, _, rfl, rfl, _, _, c, rfl, rfl, ?_, ?_, q1 c suf rfl hc _ (Mv.upd (Mv.refl _ _)) hp2⟩
      · rw [Z_len]
        simp only [List.length_append, List.length_cons, List.length_nil] at hl ⊢
        omega
      · rw [show (((pre ++ [c]).length : Nat) : Int) - 1 = (pre.length : Nat) by simp only [List.length_append, List.length_cons, List.length_nil]; omega]
        refine atI_nat (j := pre.length) ?_
        show (pre ++ [c] ++ suf)[pre.length]? = some c
        rw [List.append_assoc, List.getElem?_append_right (Nat.le_refl _), Nat.sub_self]
        rfl
theorem oktake_signX {R : RdTxt K CR} (M4 : Mth P w K mg base CR "take" 2 NRd1 (spTake CR)) (M4L : MthX P w K mg base CR "take" 3 NRd1 (spTakeLX K CR CN)) (F : Fun K "take_sign" "take_sign" stake_sign f fd) : FnOk P w K mg base (L2.CX P w) 4 f fd Ptake_sign (spTakeSignX K CR CN) := by
  refine F.okX sctake_sign (fun vs H Q E h => ?_) (fun cdv A outer s H vs Q E hr h => ?_)
  · obtain ⟨p, dx, W, l, pre, suf, rfl, _⟩ := h
    rfl
  obtain ⟨p, dx, W, l, pre, suf, rfl, hp, hW, hL, hl, q1, q2⟩ := h
  refine ⟨_, (pss_cons (ps_set (i := 3) sctake_sign.nd rfl (Or.inr rfl) (pe_methX M4L (pv 0) R.cl (hr.mono (by decide)) (fun σ => passAt (takes_of rfl rfl rfl rfl) σ) (pa_cons (pv 2) pa_nil)))
  (pss_cons (ps_lock (ps_set (i := 4) sctake_sign.nd rfl (Or.inl rfl) (pe_ix ix_list (pe_lc (own := [("sign", 6)]) (g := (gName 6)) rfl sctake_sign.nd (pi_keys (pv 1)) (blkOk_by (own := [("sign", 6)]) (N := Ntake_sign) (sc := defScope stake_sign) (by decide +kernel)) (fun _ _ _ _ _ => (pg_name (i := 6) sctake_sign.nd rfl (Or.inl rfl))) (fun _ _ _ _ _ => (pts_one (pt_cmpR op_eq (pe_ix ix_str (pv 6) pe_int (fun _ _ => rfl)) (pv 3) (nomark _)))) (fun _ _ _ _ _ => (pv 6))) pe_int (fun _ _ => rfl))))
  (pss_cons (ps_for (passes_of rfl) rfl (pi_str (pe_slice sl_str (pv 4) (po_some pe_int) po_none)) (pg_name (i := 5) sctake_sign.nd rfl (Or.inl rfl))
    (pss_one (ps_expr (pe_methM M4 (pv 0) R.cl hr (pa_cons (pv 5) pa_nil)))))
  (pss_one (ps_ret (pe_dget (hu_of hr) (pv 1) (pv 4) (fun _ _ => rfl))))))), ?_⟩
  have nWp : W ≠ p := fun e => by rw [e, hp] at hW; cases hW
  refine ⟨_, rfl, p, dx, _, rfl, hp, rF_no, _, rfl, p, dx, l, pre, suf, forkC, rfl, hp, hL, hl, ?_, fun hs d H' s1 nd => q2 hs d H' s1 nd⟩
  rintro c suf rfl hc H1 m1 h1
  obtain ⟨sg, hsg⟩ : ∃ sg, sg = sgOf c := ⟨_, rfl⟩
  have hcc : c = sg.code := by rw [hsg]; exact (sgOf_code hc).symm
  rw [hcc] at h1 hp hl ⊢
  have q := q1 sg suf (by rw [hcc])
  rw [List.length_cons] at hl
  have hW1 : H1 W = some (.dK wordsF) := by rw [m1 W nWp]; exact hW
  refine ⟨W, .dK wordsF, hW1, trivial, fun od => ?_⟩
  obtain ⟨G, hG⟩ : ∃ G, G = upd H1 W (.frz od (.dK wordsF)) := ⟨_, rfl⟩
  rw [← hG]
  have gW : G W = some (.frz od (.dK wordsF)) := by rw [hG]; exact upd_same
  refine ⟨_, rfl, W, od, rfl, .inl ⟨wordsF, gW, fun D nD => ?_⟩⟩
  have nDW : D ≠ W := fun e => by rw [e, gW] at nD; cases nD
  refine lc_it walk_keys (fun i H' => Same G H' ∧ H' D = some (.lst (flS sg i))) ⟨same_new nD _, upd_same⟩ (fun i H' _ z => z.1 _ _ gW) (fun i x H2 H3 hi z y => ?_) (fun H' z => ?_)
  · obtain ⟨rfl, k, v, hk, rfl⟩ := y
    obtain ⟨c, rfl, _⟩ := words_key hk
    refine ⟨rfl, _, rfl, ⟨#[c]⟩, 0, c, rfl, rfl, (by show 1 ≤ sizeLine; decide), rfl, _, rfl, rfl, _, rfl, ?_⟩
    have fn := flS_next (s := sg) hk
    have hn : G D = none := nD
    refine ite2 (fun e => ?_) (fun e => ?_)
    · have e' : kV (.inr ⟨#[c]⟩) = .str ⟨#[sg.code]⟩ := of_decide_eq_true e
      rw [if_pos e'] at fn
      refine ⟨_, rfl, _, z.2, Nat.lt_of_le_of_lt (flS_len sg i) (by decide), same_fresh z.1 hn, ?_⟩
      rw [upd_same, fn]
    · have e' : ¬ kV (.inr ⟨#[c]⟩) = .str ⟨#[sg.code]⟩ := fun u => e (decide_eq_true u)
      rw [if_neg e'] at fn
      refine ⟨z.1, ?_⟩
      rw [fn]
      exact z.2
  · have p2 : H' D = some (.lst [.str ⟨#[sg.code]⟩]) := by rw [z.2]; exact congrArg (fun u => some (HO.lst u)) (flS_5 sg)
    have gW' := z.1 _ _ gW
    have nDp : D ≠ p := fun e => by
      have : G p = some (rO CR dx (pre ++ [sg.code]) suf) := by rw [hG, upd_ne (Ne.symm nWp)]; exact h1
      rw [e, this] at nD
      cases nD
    refine ⟨D, _, 0, _, rfl, rfl, SqL.of p2, rfl, gW', ?_⟩
    have hp2 : upd H' W (.dK wordsF) p = some (rO CR dx (pre ++ [sg.code]) suf) := by
      rw [upd_ne (Ne.symm nWp)]
      refine z.1 _ _ ?_
      rw [hG, upd_ne (Ne.symm nWp)]
      exact h1
    have kp : Keep p H (upd H' W (.dK wordsF)) := fun b o n e => by
      by_cases eb : b = W
      · subst eb
        rw [upd_same]
        rw [hW] at e
        exact e
      · rw [upd_ne eb]
        refine z.1 _ _ ?_
        rw [hG, upd_ne eb]
        exact m1.keep b o n e
    have hW2 : upd H' W (.dK wordsF) W = some (.dK wordsF) := upd_same
    refine ⟨_, rfl, _, rfl, _, rfl, (by show 1 ≤ sizeLine; decide), ?_⟩
    rw [cut1]
    refine ⟨_, rfl, ?_⟩
    refine for_it walk_str (fun i σ H'' => σ = [some (.ref p), some (.ref W), some (.ref l), some (.str ⟨#[sg.code]⟩), some (.str ⟨#[sg.code]⟩), none, none] ∧ H'' = upd H' W (.dK wordsF)) ⟨rfl, rfl⟩ (fun _ _ _ _ _ => trivial) (fun i x σ HX HY hi pv yy => absurd hi (Nat.not_lt_zero _)) (fun σ HX pv => ?_)
    obtain ⟨rfl, rfl⟩ := pv
    exact ⟨_, rfl, _, rfl, W, _, rfl, (by have g := DGet.k (k := Sum.inr ⟨#[sg.code]⟩) hW2; rw [words_at] at g; exact g), q _ kp hp2⟩
theorem oktake_leafX {R : RdTxt K CR} (T : WrTxt K mg CW fI) {fdI : FuncData} (GI : FnOk P w K mg base CX0 1 fI fdI NWr0 (spWr0 CW)) (bI : Binds K fdI NWr0 []) (M1 : Mth P w K mg base CR "sees" 1 NRd1 (spSees CR)) (M4 : Mth P w K mg base CR "take" 2 NRd1 (spTake CR))
    (M9 : MthX P w K mg base CR "take_name" 4 NRd2 (spTakeNameX CR CN)) (F : Fun K "take_leaf" "take_leaf" stake_leaf f fd) : FnOk P w K mg base (L2.CX P w) 5 f fd Ptake_leaf (spTakeLeafX K CR CW CN) := by
  refine F.okX sctake_leaf (fun vs H Q E h => ?_) (fun cdv A outer s H vs Q E hr h => ?_)
  · obtain ⟨p, dx, W, pre, suf, rfl, _⟩ := h
    rfl
  obtain ⟨p, dx, W, pre, suf0, rfl, hp, hW, hl0, q1, q2⟩ := h
  refine ⟨_, (pss_cons (ps_set (i := 2) sctake_leaf.nd rfl (Or.inl rfl) (pe_methX0 M9 (pv 0) R.cl (hr.mono (by decide)) (fun σ => passAt (takes_of rfl rfl rfl rfl) σ)))
  (pss_cons (ps_if (PW.pt (pw_and (pt_cmp (pc_din (hu_of hr) pe_str (pv 1))) (pw_and1 (pt_val (pe_methM M1 (pv 0) R.cl hr (pa_cons pe_str pa_nil))))))
    (pss_cons (ps_expr (pe_methM M4 (pv 0) R.cl hr (pa_cons pe_str pa_nil)))
    (pss_one (ps_ret (pe_make T.made GI (hr.mono (by decide)) rfl T.g bI .nil pass0 (pa_cons (pe_tupN (pa_cons (pe_dget (hu_of hr) (pv 1) pe_str (fun _ _ => rfl)) (pa_cons (pv 2) pa_nil))) (pa_cons pe_int (pa_cons pe_int pa_nil)))))))
    pss_nil)
  (pss_one (ps_ret (pe_make T.made GI (hr.mono (by decide)) rfl T.g bI .nil pass0 (pa_cons (pe_tupN (pa_cons pe_str (pa_cons (pv 2) pa_nil))) (pa_cons pe_int (pa_cons pe_int pa_nil)))))))), ?_⟩
  refine ⟨_, rfl, p, dx, _, rfl, hp, rF_no, p, dx, pre, suf0, rfl, hp, hl0, ?_, fun hs d H' s1 nd => q2 hs d H' s1 nd⟩
  rintro c r rfl hc H1 m1 h1
  have q := q1 c r rfl hc
  have e0 := (name_split 11 r).1
  have e1 := tilde_split (nameL 11 r).2
  have ht := tilde_sees (nameL 11 r).2
  generalize (nameL 11 r).1 = n0 at *
  generalize (nameL 11 r).2 = r1 at *
  generalize (tildeL r1).1 = co at *
  generalize (tildeL r1).2 = suf at *
  rw [e1] at h1 ht
  obtain ⟨n, hn⟩ : ∃ n, n = c :: n0 := ⟨_, rfl⟩
  rw [← hn] at q h1
  have hl : pre.length + (leafS co n).length + suf.length ≤ sizeLine := by
    have h2 := congrArg List.length e0
    have h3 := congrArg List.length e1
    unfold leafS
    rw [hn]
    simp only [List.length_append, List.length_cons] at h2 h3 hl0 ⊢
    omega
  rw [← hn]
  have hl1 : (pre ++ n).length + ((if co then [126] else []) ++ suf).length ≤ sizeLine := by
    unfold leafS at hl
    simp only [List.length_append] at hl ⊢
    omega
  have nWp : W ≠ p := fun e => by rw [e, hp] at hW; cases hW
  have hW1 : H1 W = some (.dK wordsF) := by rw [m1 W nWp]; exact hW
  refine ⟨_, rfl, W, _, rfl, DGet.k (k := Sum.inr zTilde) hW1, _, rfl, ?_⟩
  refine iteT ?_
  refine ⟨_, rfl, p, dx, _, rfl, h1, rF_no, p, dx, pre ++ n, _, zTilde, rfl, h1, hl1, _, rfl, ?_⟩
  cases co with
  | false =>
    rw [show seesB ((if false = true then [126] else []) ++ suf) zTilde = false from ht]
    refine iteF ⟨_, rfl, le1k, fun t H2 s2 e2 => fun x dx' nx nd ne => wr_make (d := 0) (l := 1) x dx' nx nd ne fun H3 s3 h3 => ?_⟩
    have hh : H1 p = some (rO CR dx (pre ++ leafS false n) suf) := by
      rw [h1]
      unfold leafS
      rw [if_neg (by decide), List.append_nil]
      rfl
    exact q H3 _ ((Mv.keep m1).trans (Same.toKeep (s2.trans s3))) (s3 _ _ (s2 _ _ hh)) ⟨x, dx', _, rfl, h3, fun _ => ⟨t, rfl, (Same.kt s3).seq e2⟩, fun h => absurd h (by show ¬ (12 < 0); decide)⟩
  | true =>
    rw [show seesB ((if true = true then [126] else []) ++ suf) zTilde = true from (by show oneOf zTilde 126 = true; decide +kernel)]
    refine iteT ⟨_, rfl, p, dx, _, rfl, h1, rF_no, p, dx, pre ++ n, suf, 126, zTilde, rfl, h1, by decide +kernel, ?_, fun H1' m1' h1' => ?_⟩
    · simp only [List.length_append, if_true, List.length_cons, List.length_nil] at hl1 ⊢
      omega
    have hW1' : H1' W = some (.dK wordsF) := by rw [m1' W nWp]; exact hW1
    refine ⟨_, rfl, W, _, rfl, DGet.k (k := Sum.inr zTilde) hW1', _, rfl, le1k, fun t H2 s2 e2 => fun x dx' nx nd ne => wr_make (d := 0) (l := 1) x dx' nx nd ne fun H3 s3 h3 => ?_⟩
    have hh : H1' p = some (rO CR dx (pre ++ leafS true n) suf) := by
      rw [h1']
      unfold leafS
      rw [if_pos rfl, List.append_assoc]
    exact q H3 _ ((Mv.keep (m1.trans m1')).trans (Same.toKeep (s2.trans s3))) (s3 _ _ (s2 _ _ hh)) ⟨x, dx', _, rfl, h3, fun _ => ⟨t, rfl, (Same.kt s3).seq e2⟩, fun h => absurd h (by show ¬ (12 < 0); decide)⟩
end
end My

set_option Elab.async false
set_option linter.all false
set_option maxRecDepth 100000
namespace My
open PySem L2
/-- the open brackets as the program keeps them -/
def LvV (K : PySem.W.Frag) (CW : Addr) (H : Hp) (v : V) : Lv5 → Prop
  | none => v = .non
  | some p => ∃ h v1, v = .ref h ∧ SqT K H h [v1, .str p.2.word] ∧ Wr K CW H p.1 v1
theorem LvV.gd {K : PySem.W.Frag} {CW : Addr} {H H' : Hp} (g : Gd CW H H') : ∀ {f : Lv5} {v : V}, LvV K CW H v f → LvV K CW H' v f
  | none, _, h => h
  | some _, _, ⟨h, v1, e, hs, hw⟩ => ⟨h, v1, e, g.kt.seq hs, hw.gd g⟩
def LvS (K : PySem.W.Frag) (CW : Addr) (H : Hp) (xs : List V) (st : List Lv5) : Prop := Paired (fun v f => LvV K CW H v f) xs st
theorem LvS.gd {K : PySem.W.Frag} {CW : Addr} {H H' : Hp} (g : Gd CW H H') {st : List Lv5} {xs : List V} (h : LvS K CW H xs st) : LvS K CW H' xs st := paired_imp (fun _ _ z => z.gd g) h
def aftP (m : Nat) : Out5 → Out5
  | .stop r => .stop r
  | .done t r => .done t r
  | .go st r => machP m st r
theorem mach_aft (m : Nat) (st : List Lv5) (cs : List Nat) : machP (m + 1) st cs = aftP m (partP st cs) := by
  show (match partP st cs with | .go st' cs' => machP m st' cs' | .done t cs' => .done t cs' | .stop cs' => .stop cs') = _
  cases partP st cs <;> rfl
theorem leaf_dep (t : FT) : t.isLeaf = true ↔ t.dep = 0 := by
  cases t with
  | leaf => exact ⟨fun _ => rfl, fun _ => rfl⟩
  | node s l r => exact ⟨(fun h => by cases h), (fun h => by have : 1 + max l.dep r.dep = 0 := h; omega)⟩
theorem sees_space {cs : List Nat} : seesB (skipS cs) zSpace = false := by
  have h := skipS_head cs
  cases e : skipS cs with
  | nil => rfl
  | cons c r =>
    rw [e] at h
    show oneOf zSpace c = false
    have z : zSpace.cps.toList = [32] := by decide +kernel
    unfold oneOf
    rw [z]
    exact decide_eq_false (fun m => h (congrArg some (List.mem_singleton.1 m)))
theorem one_of_at (g : Str) (c d : Nat) (hg : g.cps.toList = [d]) : oneOf g c = decide (c = d) := by
  unfold oneOf
  rw [hg]
  exact decide_eq_decide.mpr ⟨fun m => List.mem_singleton.1 m, fun e => by rw [e]; exact List.mem_singleton.2 rfl⟩
def spTakeHalvedX (K : PySem.W.Frag) (CR CW CN : Addr) : Sp := fun vs H Q E => ∃ (p dx W : Addr) (pre suf : List Nat), vs = [.ref p, .ref W] ∧ H p = some (rO CR dx pre suf) ∧ H W = some (.dK wordsF) ∧ (pre ++ suf).length + 2 ≤ sizeLine ∧
  (∀ t rest pre', formP suf = .done t rest → pre' ++ rest = pre ++ suf → ∀ H' v, Keep p H H' → H' p = some (rO CR dx pre' rest) → Wr K CW H' t v → Q v H') ∧
  (∀ rest pre', formP suf = .stop rest → pre' ++ rest = pre ++ suf → ∀ H' d, Keep p H H' → H' d = none → E (.ref CN) (some d) (upd H' d (.xd [("at", .int (pre'.length : Nat))])))
section
variable {P : Program} {w : World} {K : PySem.W.Frag} {mg : Str → Option Value} {base : Heap} {f : Addr} {fd : FuncData} {CR CW CN fI : Addr}
theorem oktake_halvedX {R : RdTxt K CR} (T : WrTxt K mg CW fI) (X0 : Txt K mg) (M1 : Mth P w K mg base CR "sees" 1 NRd1 (spSees CR)) (M1L : Mth P w K mg base CR "sees" 1 NRd1 (spSeesL K CR)) (M4 : Mth P w K mg base CR "take" 2 NRd1 (spTake CR))
    (M4X : MthX P w K mg base CR "take" 3 NRd1 (spTakeX CR CN)) (M5 : Mth P w K mg base CR "skip_spaces" 2 NRd2 (spSkip CR)) (Ctake_leaf : CalX P w K mg base "take_leaf" 5 Ptake_leaf (spTakeLeafX K CR CW CN)) (Cgrouped : Cal P w K mg base "grouped" 3 Pgrouped (spGrouped K CW)) (Ctake_sign : CalX P w K mg base "take_sign" 4 Ptake_sign (spTakeSignX K CR CN))
    (F : Fun K "take_halved" "take_halved" stake_halved f fd) : FnOk P w K mg base (L2.CX P w) 6 f fd Ptake_halved (spTakeHalvedX K CR CW CN) := by
  refine F.okX sctake_halved (fun vs H Q E h => ?_) (fun cdv A outer s H vs Q E hr h => ?_)
  · obtain ⟨p, dx, W, pre, suf, rfl, _⟩ := h
    rfl
  obtain ⟨p, dx, W, pre, suf, rfl, hp, hW, hl, q1, q2⟩ := h
  refine ⟨_, (pss_cons (ps_lock (ps_setLc (i := 2) (own := [("sign", 5)]) (g := (gName 5)) rfl sctake_halved.nd rfl rfl (sw_true rfl rfl rfl (by decide +kernel)) (pi_keys (pv 1)) (blkOk_by (own := [("sign", 5)]) (N := Ntake_halved) (sc := defScope stake_halved) (by decide +kernel)) (fun _ _ _ _ _ => (pg_name (i := 5) sctake_halved.nd rfl (Or.inl rfl))) (fun _ _ _ _ _ => (pts_one (pt_cmpR op_ne (pv 5) pe_str (nomark _)))) (fun _ _ _ _ _ => (pe_ix ix_str (pv 5) pe_int (fun _ _ => rfl)))))
  (pss_cons (ps_set (i := 3) sctake_halved.nd rfl (Or.inl rfl) (pe_lst (pa_cons pe_non pa_nil)))
  (pss_one (ps_while (passes_of rfl) (pt_truth pe_bl (by intro _; rfl))
    (pss_cons (ps_expr (pe_methM0 M5 (pv 0) R.cl hr))
    (pss_cons (ps_if (pt_val (pe_methM M1 (pv 0) R.cl hr (pa_cons pe_str pa_nil)))
      (pss_cons (ps_expr (pe_methM M4 (pv 0) R.cl hr (pa_cons pe_str pa_nil)))
      (pss_cons (ps_expr (pe_bm PySem.F.plainAttrs_list PySem.F.slot_list_append PySem.F.type_list_append mt_append (pv 3) (pa_cons pe_non pa_nil)))
      (pss_one ps_continue)))
      pss_nil)
    (pss_cons (ps_set (i := 4) sctake_halved.nd rfl (Or.inl rfl) (pe_callS Ctake_leaf.ok (hr.mono (by decide)) rfl Ctake_leaf.m Ctake_leaf.kp Ctake_leaf.b (fun σ => passAt (takes_of rfl rfl rfl rfl) σ) (pa_cons (pv 0) (pa_cons (pv 1) pa_nil))))
    (pss_cons (ps_expr (pe_methM0 M5 (pv 0) R.cl hr))
    (pss_cons (ps_while (passes_of rfl) (PW.pt (pw_and (pt_cmpR op_gt (pe_callB call_len rfl X0.len (by decide +kernel) (pa_cons (pv 3) pa_nil)) pe_int (nomark _)) (pw_and1 (pt_cmpR op_notN (pe_ix ix_list (pv 3) (pe_un un_neg pe_int) (fun _ _ => rfl)) pe_non (nomark _)))))
      (pss_cons (ps_expr (pe_methX M4X (pv 0) R.cl (hr.mono (by decide)) (fun σ => passAt (takes_of rfl rfl rfl rfl) σ) (pa_cons pe_str pa_nil)))
      (pss_cons (ps_expr (pe_methM0 M5 (pv 0) R.cl hr))
      (pss_one (ps_set (i := 4) sctake_halved.nd rfl (Or.inl rfl) (pe_callC Cgrouped hr (pa_cons (pe_bm0 PySem.F.plainAttrs_list PySem.F.slot_list_pop PySem.F.type_list_pop mt_pop (pv 3)) (pa_cons (pv 4) pa_nil))))))))
    (pss_cons (ps_if (pt_cmpR op_notN (pe_ix ix_list (pv 3) (pe_un un_neg pe_int) (fun _ _ => rfl)) pe_non (nomark _))
      (pss_one (ps_ret (pe_callC Cgrouped hr (pa_cons (pe_ix ix_list (pv 3) (pe_un un_neg pe_int) (fun _ _ => rfl)) (pa_cons (pv 4) pa_nil)))))
      pss_nil)
    (pss_cons (ps_if (PW.pt (pw_and (pt_cmpR op_eq (pe_callB call_len rfl X0.len (by decide +kernel) (pa_cons (pv 3) pa_nil)) pe_int (nomark _)) (pw_and (pt_cmpR op_eq (pe_fld (pv 4) rfl) pe_int (nomark _)) (pw_and1 (pt_not (pt_val (pe_methM M1L (pv 0) R.cl hr (pa_cons (pv 2) pa_nil))))))))
      (pss_one (ps_ret (pv 4)))
      pss_nil)
    (pss_one (ps_asg (pe_tupN (pa_cons (pv 4) (pa_cons (pe_callS Ctake_sign.ok (hr.mono (by decide)) rfl Ctake_sign.m Ctake_sign.kp Ctake_sign.b (fun σ => passAt (takes_of rfl rfl rfl rfl) σ) (pa_cons (pv 0) (pa_cons (pv 1) (pa_cons (pv 2) pa_nil)))) pa_nil))) (pg_sub (pv 3) (pe_un un_neg pe_int) set_list)))))))))))))), ?_⟩
  have nWp : W ≠ p := fun e => by rw [e, hp] at hW; cases hW
  refine ⟨W, .dK wordsF, hW, trivial, fun od => ?_⟩
  obtain ⟨G, hG⟩ : ∃ G, G = upd H W (.frz od (.dK wordsF)) := ⟨_, rfl⟩
  rw [← hG]
  have gW : G W = some (.frz od (.dK wordsF)) := by rw [hG]; exact upd_same
  refine ⟨_, rfl, W, od, rfl, .inl ⟨wordsF, gW, fun B nB => ?_⟩⟩
  have nBW : B ≠ W := fun e => by rw [e, gW] at nB; cases nB
  have nBH : H B = none := by
    have e := nB
    rw [hG, upd_ne nBW] at e
    exact e
  refine lc_it walk_keys (fun i H' => Same G H' ∧ H' B = some (.lst (flB i))) ⟨same_new nB _, upd_same⟩ (fun i H' _ z => z.1 _ _ gW) (fun i x H2 H3 hi z y => ?_) (fun H' z => ?_)
  · obtain ⟨rfl, kk, v, hk, rfl⟩ := y
    obtain ⟨c, rfl, _⟩ := words_key hk
    refine ⟨rfl, _, rfl, rfl, _, rfl, ?_⟩
    have fn := flB_next hk
    refine ite2 (fun e => ?_) (fun e => ?_)
    · have e' : ¬ kV (.inr ⟨#[c]⟩) = .str zTilde := fun u => by
        have u' : kV (.inr ⟨#[c]⟩) = V.str (Str.ofString "~") := u
        rw [decide_eq_true u'] at e
        cases e
      rw [if_neg e'] at fn
      refine ⟨_, rfl, ⟨#[c]⟩, 0, c, rfl, rfl, (by show 1 ≤ sizeLine; decide), rfl, _, z.2, Nat.lt_of_le_of_lt (flB_len i) (by decide), same_fresh z.1 nB, ?_⟩
      rw [upd_same, fn]
      rfl
    · have e' : kV (.inr ⟨#[c]⟩) = .str zTilde := by
        refine Decidable.byContradiction fun u => e ?_
        have u' : ¬ kV (.inr ⟨#[c]⟩) = V.str (Str.ofString "~") := u
        rw [decide_eq_false u']
        rfl
      rw [if_pos e'] at fn
      refine ⟨z.1, ?_⟩
      rw [fn]
      exact z.2
  refine ⟨z.1 _ _ gW, ?_⟩
  have zB : H' B = some (.lst (signsL forkC)) := by rw [z.2]; exact congrArg (fun u => some (HO.lst u)) flB_5
  have hB1 : upd H' W (.dK wordsF) B = some (.lst (signsL forkC)) := by rw [upd_ne nBW]; exact zB
  have s0 : Same H (upd H' W (.dK wordsF)) := fun b o e => by
    by_cases eb : b = W
    · subst eb
      rw [upd_same]
      rw [hW] at e
      exact e
    · rw [upd_ne eb]
      refine z.1 _ _ ?_
      rw [hG, upd_ne eb]
      exact e
  clear z zB gW hG
  generalize upd H' W (.dK wordsF) = H0 at hB1 s0 ⊢
  clear H' nB G
  have hp := s0 _ _ hp
  have hW := s0 _ _ hW
  have nBp : B ≠ p := fun e => by rw [e, hp] at hB1; cases hB1
  refine ⟨(by show 1 ≤ sizeLine; decide), fun L nL => ?_⟩
  have nLp : L ≠ p := fun e => by rw [e, hp] at nL; cases nL
  obtain ⟨whole, hw⟩ : ∃ whole, whole = pre ++ suf := ⟨_, rfl⟩
  obtain ⟨o, ho⟩ : ∃ o, o = formP suf := ⟨_, rfl⟩
  rw [← hw] at hl q1 q2
  rw [← ho] at q1 q2
  have q1 : ∀ t rest pre', o = .done t rest → pre' ++ rest = whole → ∀ H' v, Keep p H0 H' → H' p = some (rO CR dx pre' rest) → Wr K CW H' t v → Q v H' := fun t rest pre' e1 e2 H' v kp => q1 t rest pre' e1 e2 H' v ((Same.toKeep s0).trans kp)
  have q2 : ∀ rest pre', o = .stop rest → pre' ++ rest = whole → ∀ H' d, Keep p H0 H' → H' d = none → E (.ref CN) (some d) (upd H' d (.xd [("at", .int (pre'.length : Nat))])) := fun rest pre' e1 e2 H' d kp => q2 rest pre' e1 e2 H' d ((Same.toKeep s0).trans kp)
  refine ⟨fun m σ H' => ∃ (u : Option V) (st : List Lv5) (pre' rest : List Nat) (xs : List V), σ = [some (.ref p), some (.ref W), some (.ref B), some (.ref L), u, none] ∧ Keep p H0 H' ∧ H' p = some (rO CR dx pre' rest) ∧
    whole = pre' ++ rest ∧ rest.length < m ∧ st ≠ [] ∧ o = machP m st rest ∧ LvS K CW H' xs st ∧ H' L = some (.lst xs.reverse) ∧ xs.length ≤ pre'.length + 1,
    ⟨suf.length + 1, none, [none], pre, suf, [.non], rfl, fun b o n e => by rw [upd_ne (fun z => by rw [z, nL] at e; cases e)]; exact e, by rw [upd_ne (Ne.symm nLp)]; exact hp, hw, Nat.lt_succ_self _, by simp, ho, .cons rfl .nil, upd_same, Nat.le_add_left _ _⟩, ?_⟩
  clear hw ho hp
  rintro m σ H' ⟨u, st, pre', rest, xs, rfl, kp, hp, hw, hm, h0, ho, st5, hL, hx⟩
  obtain ⟨m, rfl⟩ : ∃ n, m = n + 1 := ⟨m - 1, by omega⟩
  refine ⟨_, rfl, ?_⟩
  refine iteT ?_
  have hl1 : pre'.length + rest.length + 2 ≤ sizeLine := by
    rw [hw] at hl
    rw [List.length_append] at hl
    exact hl
  rw [mach_aft] at ho
  refine ⟨_, fun _ _ h => h, ?_⟩
  obtain ⟨k, hk⟩ := skipS_suf rest
  have hsp := sees_space (cs := rest)
  unfold partP at ho
  have hle := skipS_le rest
  generalize hs : skipS rest = rest1 at *
  rw [hk] at hp hw hl1
  refine ⟨_, rfl, p, dx, _, rfl, hp, rF_no, p, dx, pre', rest1, k, rfl, hp, hsp, by simp only [List.length_append, List.length_replicate] at hl1; omega, fun H1 m1 h1 => ?_⟩
  replace h1 : H1 p = some (rO CR dx (pre' ++ spc k) rest1) := h1
  have g1 : Gd CW H' H1 := Gd.of_keep hp m1.keep
  have hL1 : H1 L = some (.lst xs.reverse) := by rw [m1 L nLp]; exact hL
  rw [← List.append_assoc] at hw
  have hl2 : (pre' ++ spc k).length + rest1.length + 2 ≤ sizeLine := by
    simp only [List.length_append, List.length_replicate] at hl1 ⊢
    omega
  have k1 : Keep p H0 H1 := kp.trans m1.keep
  have x1 := st5.gd g1
  have hx1 : xs.length ≤ (pre' ++ spc k).length + 1 := by rw [List.length_append]; omega
  clear kp m1 g1 st5 hL hp hl1 hx hk hs
  generalize pre' ++ spc k = pre1 at *
  refine ⟨_, rfl, p, dx, _, rfl, h1, rF_no, p, dx, _, _, zOpen, rfl, h1, by omega, _, rfl, ?_⟩
  rcases Classical.em (∃ r, rest1 = 40 :: r) with ⟨r, rfl⟩ | hno
  · rw [show seesB (40 :: r) zOpen = true from (by show oneOf zOpen 40 = true; decide +kernel)]
    refine iteT ⟨_, rfl, p, dx, _, rfl, h1, rF_no, p, dx, _, _, 40, zOpen, rfl, h1, by decide +kernel, by simp only [List.length_cons] at hl2; omega, fun H2 m2 h2 => ?_⟩
    have hL2 : H2 L = some (.lst xs.reverse) := by rw [m2 L nLp]; exact hL1
    have g2 : Gd CW H1 H2 := Gd.of_keep h1 m2.keep
    refine ⟨_, rfl, .inl ⟨rfl, _, SqL.of hL2⟩, L, _, .non, rfl, rfl, hL2, ?_, ?_⟩
    · rw [List.length_reverse]
      simp only [List.length_cons] at hl2
      omega
    refine ⟨m, Nat.lt_succ_self m, u, none :: st, pre1 ++ [40], r, .non :: xs, rfl, ?_, ?_, ?_, ?_, by simp, ?_, .cons rfl ((x1.gd g2).gd (Gd.of_lst hL2)), by rw [upd_same, List.reverse_cons], ?_⟩
    · intro b o' n e
      rw [upd_ne (fun z => by rw [z, nL] at e; cases e)]
      exact (k1.trans m2.keep) b o' n e
    · rw [upd_ne (Ne.symm nLp)]
      exact h2
    · rw [hw, List.append_assoc]
      rfl
    · rw [List.length_cons] at hle
      omega
    · rw [ho]
      show aftP m (if 40 = 40 then _ else _) = _
      rw [if_pos rfl]
      rfl
    · simp only [List.length_cons, List.length_append, List.length_nil]
      omega
  have hso : seesB rest1 zOpen = false := by
    cases rest1 with
    | nil => rfl
    | cons c r =>
      show oneOf zOpen c = false
      rw [one_of_at zOpen c 40 (by decide +kernel)]
      exact decide_eq_false fun e => hno ⟨r, by rw [e]⟩
  rw [hso]
  refine iteF ?_
  refine ⟨_, rfl, _, rfl, p, dx, W, _, rest1, rfl, h1, k1 W _ nWp hW, by omega, ?_, fun hs d H' s1 nd => ?_⟩
  rotate_left
  · refine q2 rest1 pre1 ?_ hw.symm H' d (k1.trans (Same.toKeep s1)) nd
    rw [ho]
    cases rest1 with
    | nil => rfl
    | cons c r =>
      have hs : isL c = false := hs
      show aftP m (if c = 40 then _ else _) = _
      rw [if_neg (fun e => hno ⟨r, by rw [e]⟩), if_neg (by rw [hs]; decide)]
      rfl
  rintro c r rfl hc H2 v kp2 h2 w2
  replace ho : o = aftP m (leafP st c r) := by
    rw [ho]
    show aftP m (if c = 40 then _ else _) = _
    rw [if_neg (fun e => hno ⟨r, by rw [e]⟩), if_pos hc]
  unfold leafP at ho
  have ecr : c :: r = leafS (tildeL (nameL 11 r).2).1 (c :: (nameL 11 r).1) ++ (tildeL (nameL 11 r).2).2 := by
    unfold leafS
    rw [List.append_assoc, ← tilde_split, List.cons_append, ← (name_split 11 r).1]
  have hlt : (tildeL (nameL 11 r).2).2.length < (c :: r).length := by
    rw [ecr, List.length_append]
    unfold leafS
    simp only [List.length_append, List.length_cons]
    omega
  rw [ecr] at hw hl2
  generalize leafS (tildeL (nameL 11 r).2).1 (c :: (nameL 11 r).1) = lt at *
  generalize FT.leaf (tildeL (nameL 11 r).2).1 (c :: (nameL 11 r).1) = t0 at *
  generalize (tildeL (nameL 11 r).2).2 = r2 at *
  have hlt2 : r2.length < m := by omega
  clear hlt ecr hno hso hsp hle hm
  obtain ⟨k3, hk3⟩ := skipS_suf r2
  have hsp3 := sees_space (cs := r2)
  have hle3 := skipS_le r2
  generalize skipS r2 = rest3 at *
  rw [hk3] at h2 hw hl2
  rw [← List.append_assoc, ← List.append_assoc] at hw
  refine ⟨_, rfl, p, dx, _, rfl, h2, rF_no, p, dx, _, rest3, k3, rfl, h2, hsp3, by simp only [List.length_append, List.length_replicate] at hl2 ⊢; omega, fun H3 m3 h3 => ?_⟩
  replace h3 : H3 p = some (rO CR dx (pre1 ++ lt ++ spc k3) rest3) := h3
  have g2 : Gd CW H1 H2 := Gd.of_keep h1 kp2
  have g3 : Gd CW H2 H3 := Gd.of_keep h2 m3.keep
  have hL3 : H3 L = some (.lst xs.reverse) := by
    rw [m3 L nLp]
    exact kp2 _ _ nLp hL1
  have k3' : Keep p H0 H3 := (k1.trans kp2).trans m3.keep
  refine ⟨fun m2 σ H' => ∃ (st : List Lv5) (t : FT) (v : V) (pre2 rest : List Nat) (xs : List V), σ = [some (.ref p), some (.ref W), some (.ref B), some (.ref L), some v, none] ∧ Keep p H0 H' ∧ H' p = some (rO CR dx pre2 rest) ∧ whole = pre2 ++ rest ∧ rest.length < m ∧ st.length ≤ m2 ∧ st ≠ [] ∧
    o = aftP m (closeP st t rest) ∧ Wr K CW H' t v ∧ LvS K CW H' xs st ∧ H' L = some (.lst xs.reverse) ∧ xs.length ≤ pre2.length + 1, ⟨st.length, st, t0, v, _, rest3, xs, rfl, k3', h3, hw, by omega, Nat.le_refl _, h0, ho, w2.gd g3, ((x1.gd g2).gd g3), hL3, ?_⟩, ?_⟩
  · simp only [List.length_append, List.length_replicate]
    omega
  clear hw k3' hL3 g3 g2 h3 m3 w2 h2 kp2 v H2 H3 hl2 hL1 h1 k1 x1 H1 ho h0 hx1 xs st hlt2 hk3 hle3 hsp3 t0 r2 k3 rest3
  rintro m2 σ H' ⟨st, t, v, pre2, rest, xs, rfl, kp, hp, hw, hm, hm2, h0, ho, w1, st5, hL, hx⟩
  refine ⟨_, rfl, _, _, rfl, .inl ⟨_, SqL.of hL, rfl⟩, _, _, rfl, rfl, _, rfl, ?_⟩
  have hlw : pre2.length + rest.length + 2 ≤ sizeLine := by
    rw [hw, List.length_append] at hl
    exact hl
  cases st with
  | nil => exact absurd rfl h0
  | cons f0 b =>
  obtain ⟨v0, vs, rfl, hf, hvs⟩ : ∃ v0 vs, xs = v0 :: vs ∧ LvV K CW H' v0 f0 ∧ LvS K CW H' vs b := by
    cases st5 with
    | cons x y => exact ⟨_, _, rfl, x, y⟩
  have hlen : vs.length = b.length := paired_len hvs
  rw [List.reverse_cons] at hL
  cases f0 with
  | none =>
    cases hf
    have hemp : ((((vs.reverse ++ [V.non]).length : Nat) : Int) = 1) ↔ b.isEmpty = true := by
      rw [List.isEmpty_iff, ← List.length_eq_zero_iff, ← hlen, List.length_append, List.length_reverse]
      show (((vs.length + 1 : Nat) : Int) = 1) ↔ _
      omega
    obtain ⟨aw, dw, uw, rfl, kw, hw1, hw2⟩ := w1
    refine ite2 (fun c1 => ⟨_, rfl, _, rfl, L, _, _, _, rfl, rfl, SqL.of hL, atI_last _ _, rfl, _, rfl, ?_⟩) (fun c1 => ?_)
    all_goals refine iteF ?_
    all_goals refine ⟨_, rfl, _, rfl, L, _, _, _, rfl, rfl, SqL.of hL, atI_last _ _, rfl, _, rfl, iteF ?_⟩
    all_goals refine ⟨_, rfl, _, _, rfl, .inl ⟨_, SqL.of hL, rfl⟩, rfl, _, rfl, ?_⟩
    all_goals refine (fun (sign : ¬ (b.isEmpty = true ∧ t.isLeaf = true ∧ seesLB rest forkC = false) → _) => ite2 (fun c2 => ⟨_, rfl, _, CW, _, _, _, rfl, kw, T.cl, T.nDepth, wF_depth _ _ _, rfl, _, rfl, ite2 (fun c3 => ⟨_, rfl, p, dx, _, rfl, hp, rF_no, _, rfl, p, dx, B, _, _, forkC, rfl, hp, SqL.of (kp B _ nBp hB1), by omega, _, rfl, ite2 (fun c4 => ?_) (fun c4 => sign ?_)⟩) (fun c3 => iteF (sign ?_))⟩) (fun c2 => iteF (sign ?_))) ?_
    all_goals rotate_left
    all_goals first
      | (intro hn
         have hcl : closeP (none :: b) t rest = signP b t rest := if_neg hn
         rw [hcl] at ho
         refine ⟨_, rfl, _, rfl, _, rfl, _, rfl, p, dx, W, B, pre2, rest, rfl, hp, kp W _ nWp hW, SqL.of (kp B _ nBp hB1), by omega, ?_, fun hs d H4 s4 nd => ?_⟩
         rotate_left
         · refine q2 rest pre2 ?_ hw.symm H4 d (kp.trans (Same.toKeep s4)) nd
           rw [ho]
           cases rest with
           | nil => rfl
           | cons c r =>
             have hs : decide (c ∈ forkC) = false := hs
             show aftP m (if c ∈ forkC then _ else _) = _
             rw [if_neg (of_decide_eq_false hs)]
             rfl
         rintro s r rfl H4 k4 h4
         refine ⟨le1k, fun a H5 s5 e5 => ?_⟩
         refine ⟨_, rfl, _, rfl, L, _, _, vs.reverse.length, rfl, rfl, s5 _ _ (k4 L _ nLp hL), ixN_last _ _, ?_⟩
         have hL5 : H5 L = some (.lst (vs.reverse ++ [V.non])) := s5 _ _ (k4 L _ nLp hL)
         have g5 : Gd CW H' H5 := (Gd.of_keep hp k4).trans (Gd.of_same s5)
         have g6 : Gd CW H' (upd H5 L (.lst ((vs.reverse ++ [V.non]).set vs.reverse.length (.ref a)))) := g5.trans (Gd.of_lst hL5)
         have hwt : Wr K CW H' t (.ref aw) := ⟨aw, dw, uw, rfl, kw, hw1, hw2⟩
         have hsg : sgOf s.code = s := by cases s <;> rfl
         refine ⟨m, Nat.lt_succ_self m, some (.ref aw), some (t, s) :: b, pre2 ++ [s.code], r, .ref a :: vs, rfl, ?_, ?_, ?_, ?_, by simp, ?_, ?_, by rw [upd_same, set_last, List.reverse_cons], ?_⟩
         · intro b o' n e
           rw [upd_ne (fun z => by rw [z, nL] at e; cases e)]
           exact ((kp.trans k4).trans (Same.toKeep s5)) b o' n e
         · rw [upd_ne (Ne.symm nLp)]
           exact s5 _ _ h4
         · rw [hw, List.append_assoc]
           rfl
         · rw [List.length_cons] at hm
           omega
         · rw [ho]
           show aftP m (if s.code ∈ forkC then .go (some (t, sgOf s.code) :: b) r else _) = _
           rw [if_pos s.mem, hsg]
           rfl
         · exact .cons ⟨a, .ref aw, rfl, (Gd.of_lst (CW := CW) hL5).kt.seq e5, hwt.gd g6⟩ (hvs.gd g6)
         · simp only [List.length_cons, List.length_append, List.length_nil] at hx ⊢
           omega)
      | skip
    all_goals first
      | exact fun z => c4 (by rw [z.2.2]; rfl)
      | exact fun z => c3 (decide_eq_true (congrArg V.int (by rw [(leaf_dep t).1 z.2.1]; rfl)))
      | exact fun z => c2 (decide_eq_true (congrArg V.int (hemp.2 z.1)))
      | skip
    all_goals
      have e2 := hemp.1 (V.int.inj (of_decide_eq_true c2))
      have e3 := (leaf_dep t).2 (by have := V.int.inj (of_decide_eq_true c3); omega)
      have e4 : seesLB rest forkC = false := by
        cases z : seesLB rest forkC with
        | false => rfl
        | true => rw [z] at c4; cases c4
      refine ⟨_, rfl, q1 t rest pre2 ?_ hw.symm H' _ kp hp ⟨aw, dw, uw, rfl, kw, hw1, hw2⟩⟩
      rw [ho]
      show aftP m (if b.isEmpty = true ∧ t.isLeaf = true ∧ seesLB rest forkC = false then .done t rest else _) = _
      rw [if_pos ⟨e2, e3, e4⟩]
      rfl
  | some p0 =>
    obtain ⟨h, v1, rfl, hs, hwl⟩ := hf
    cases b with
    | nil =>
      have ev : vs = [] := by cases hvs; rfl
      subst ev
      refine iteF ?_
      refine ⟨_, rfl, _, rfl, L, _, _, _, rfl, rfl, SqL.of hL, atI_last _ _, rfl, _, rfl, iteT ?_⟩
      refine ⟨_, rfl, _, rfl, L, _, _, _, rfl, rfl, SqL.of hL, atI_last _ _, _, rfl, h, v1, v, p0.2, p0.1, t, rfl, hs, hwl, w1, fun H4 v4 s4 w4 => ?_⟩
      exact q1 _ rest pre2 (by rw [ho]; rfl) hw.symm H4 v4 (kp.trans (Same.toKeep s4)) (s4 _ _ hp) w4
    | cons f1 b =>
      have hlong : (1 : Int) < ((((V.ref h :: vs).reverse).length : Nat) : Int) := by
        rw [List.length_reverse, List.length_cons, hlen, List.length_cons]
        omega
      refine ite2 (fun _ => ⟨_, rfl, _, rfl, L, _, _, _, rfl, rfl, SqL.of hL, atI_last _ _, rfl, _, rfl, iteT ?_⟩) (fun c1 => absurd (decide_eq_true hlong) c1)
      refine ⟨_, fun _ _ h => h, ?_⟩
      refine ⟨_, rfl, p, dx, _, rfl, hp, rF_no, p, dx, pre2, rest, zClose, rfl, hp, by omega, ?_, fun hs5 d H4 s4 nd => ?_⟩
      rotate_left
      · refine q2 rest pre2 ?_ hw.symm H4 d (kp.trans (Same.toKeep s4)) nd
        rw [ho]
        cases rest with
        | nil => rfl
        | cons c r =>
          have hs5 : oneOf zClose c = false := hs5
          rw [one_of_at zClose c 41 (by decide +kernel)] at hs5
          show aftP m (if c = 41 then _ else _) = _
          rw [if_neg (of_decide_eq_false hs5)]
          rfl
      rintro c r rfl hc H4 m4 h4
      rw [one_of_at zClose c 41 (by decide +kernel)] at hc
      obtain rfl : c = 41 := of_decide_eq_true hc
      replace ho : o = aftP m (closeP (f1 :: b) (.node p0.2 p0.1 t) (skipS r)) := by
        rw [ho]
        show aftP m (if 41 = 41 then closeP (f1 :: b) (.node p0.2 p0.1 t) (skipS r) else .stop (41 :: r)) = _
        rw [if_pos rfl]
      obtain ⟨k, hk⟩ := skipS_suf r
      have hsp := sees_space (cs := r)
      have hle := skipS_le r
      rw [List.length_cons] at hlw hm
      generalize skipS r = t' at *
      rw [hk] at h4
      have hl5 : r.length = k + t'.length := by rw [hk, List.length_append, List.length_replicate]
      refine ⟨_, rfl, p, dx, _, rfl, h4, rF_no, p, dx, _, t', k, rfl, h4, hsp, by simp only [List.length_append, List.length_cons, List.length_nil]; omega, fun H5 m5 h5 => ?_⟩
      have hL5 : H5 L = some (.lst (vs.reverse ++ [V.ref h])) := by rw [m5 L nLp, m4 L nLp]; exact hL
      have g5 : Gd CW H' H5 := (Gd.of_keep hp m4.keep).trans (Gd.of_keep h4 m5.keep)
      have g6 : Gd CW H' (upd H5 L (.lst (vs.reverse ++ [V.ref h]).dropLast)) := g5.trans (Gd.of_lst hL5)
      refine ⟨_, rfl, .inl ⟨rfl, _, SqL.of hL5⟩, L, _, .ref h, rfl, rfl, hL5, by simp, _, rfl, h, v1, v, p0.2, p0.1, t, rfl, g6.kt.seq hs, hwl.gd g6, w1.gd g6, fun H6 v6 s6 w6 => ?_⟩
      refine ⟨(f1 :: b).length, ?_, f1 :: b, .node p0.2 p0.1 t, v6, pre2 ++ [41] ++ spc k, t', vs, rfl, ?_, ?_, ?_, by omega, Nat.le_refl _, by simp, ho, w6, (hvs.gd g6).gd (Gd.of_same s6), ?_, ?_⟩
      · rw [List.length_cons] at hm2
        omega
      · intro b o' n e
        refine s6 _ _ ?_
        rw [upd_ne (fun z => by rw [z, nL] at e; cases e)]
        exact ((kp.trans m4.keep).trans m5.keep) b o' n e
      · refine s6 _ _ ?_
        rw [upd_ne (Ne.symm nLp)]
        exact h5
      · rw [hw, hk]
        simp only [List.append_assoc, List.cons_append, List.nil_append]
      · refine s6 _ _ ?_
        rw [upd_same, List.dropLast_concat]
      · simp only [List.length_cons, List.length_append, List.length_replicate] at hx ⊢
        omega
end
end My

set_option Elab.async false
set_option linter.all false
set_option maxRecDepth 100000
namespace My
open PySem L2
def spTakeFormX (K : PySem.W.Frag) (CR CW CN : Addr) : Sp := fun vs H Q E => ∃ (p dx : Addr) (pre suf : List Nat), vs = [.ref p] ∧ H p = some (rO CR dx pre suf) ∧ (pre ++ suf).length + 2 ≤ sizeLine ∧
  (∀ t rest pre', formP suf = .done t rest → pre' ++ rest = pre ++ suf → ∀ H' v, Keep p H H' → H' p = some (rO CR dx pre' rest) → Wr K CW H' t v → Q v H') ∧
  (∀ rest pre', formP suf = .stop rest → pre' ++ rest = pre ++ suf → ∀ H' d, Keep p H H' → H' d = none → E (.ref CN) (some d) (upd H' d (.xd [("at", .int (pre'.length : Nat))])))
/-- a row, some of whose forms are read -/
def rowT (n : Nat) (ts1 : List FT) : List Nat → OutR
  | [] => .done ts1 []
  | c :: r => if c = 44 then (match rowP n r with
    | .stop r' => .stop r'
    | .done ts r' => .done (ts1 ++ ts) r') else .done ts1 (c :: r)
theorem rowP_done {m : Nat} {cs rest : List Nat} {t : FT} (h : formP cs = .done t rest) : rowP (m + 1) cs = rowT m [t] rest := by
  unfold rowP
  rw [h]
  cases rest with
  | nil => rfl
  | cons c r => rfl
theorem rowP_stop {m : Nat} {cs rest : List Nat} (h : formP cs = .stop rest) : rowP (m + 1) cs = .stop rest := by
  unfold rowP
  rw [h]
theorem rowT_next {n : Nat} {ts1 : List FT} {r rest : List Nat} {t : FT} (h : formP r = .done t rest) : rowT (n + 1) ts1 (44 :: r) = rowT n (ts1 ++ [t]) rest := by
  show (if 44 = 44 then (match rowP (n + 1) r with | .stop r' => .stop r' | .done ts r' => OutR.done (ts1 ++ ts) r') else OutR.done ts1 (44 :: r)) = _
  rw [if_pos rfl, rowP_done h]
  cases rest with
  | nil => rfl
  | cons c r2 =>
    show (match (if c = 44 then (match rowP n r2 with | .stop r' => .stop r' | .done ts r' => OutR.done ([t] ++ ts) r') else OutR.done [t] (c :: r2)) with | .stop r' => .stop r' | .done ts r' => OutR.done (ts1 ++ ts) r') = (if c = 44 then (match rowP n r2 with | .stop r' => .stop r' | .done ts r' => OutR.done (ts1 ++ [t] ++ ts) r') else OutR.done (ts1 ++ [t]) (c :: r2))
    by_cases hc : c = 44
    · rw [if_pos hc, if_pos hc]
      cases rowP n r2 with
      | stop => rfl
      | done ts r' =>
        show OutR.done (ts1 ++ ([t] ++ ts)) r' = OutR.done (ts1 ++ [t] ++ ts) r'
        rw [List.append_assoc]
    · rw [if_neg hc, if_neg hc]
theorem rowT_stop {n : Nat} {ts1 : List FT} {r rest : List Nat} (h : formP r = .stop rest) : rowT (n + 1) ts1 (44 :: r) = .stop rest := by
  show (if 44 = 44 then (match rowP (n + 1) r with | .stop r' => .stop r' | .done ts r' => OutR.done (ts1 ++ ts) r') else OutR.done ts1 (44 :: r)) = _
  rw [if_pos rfl, rowP_stop h]
theorem rowT_end {n : Nat} {ts1 : List FT} {cs : List Nat} (h : seesB cs zComma = false) : rowT n ts1 cs = .done ts1 cs := by
  cases cs with
  | nil => rfl
  | cons c r =>
    have h : oneOf zComma c = false := h
    rw [one_of_at zComma c 44 (by decide +kernel)] at h
    show (if c = 44 then _ else _) = _
    rw [if_neg (of_decide_eq_false h)]
def spTakeEndsX (K : PySem.W.Frag) (CR CW CN : Addr) : Sp := fun vs H Q E => ∃ (p dx : Addr) (pre suf : List Nat), vs = [.ref p] ∧ H p = some (rO CR dx pre suf) ∧ (pre ++ suf).length + 2 ≤ sizeLine ∧
  (∀ ts rest pre', rowP (suf.length + 1) suf = .done ts rest → pre' ++ rest = pre ++ suf → ∀ H' a vs', Keep p H H' → H' p = some (rO CR dx pre' rest) → H' a = some (.lst vs') → WrL K CW H' ts vs' → Q (.ref a) H') ∧
  (∀ rest pre', rowP (suf.length + 1) suf = .stop rest → pre' ++ rest = pre ++ suf → ∀ H' d, Keep p H H' → H' d = none → E (.ref CN) (some d) (upd H' d (.xd [("at", .int (pre'.length : Nat))])))
section
variable {P : Program} {w : World} {K : PySem.W.Frag} {mg : Str → Option Value} {base : Heap} {f : Addr} {fd : FuncData} {CR CW CN fI : Addr}
theorem oktake_formX (Y : TxtW K mg w) (Ctake_halved : CalX P w K mg base "take_halved" 6 Ptake_halved (spTakeHalvedX K CR CW CN)) (F : Fun K "take_form" "take_form" stake_form f fd) : FnOk P w K mg base (L2.CX P w) 7 f fd Ptake_form (spTakeFormX K CR CW CN) := by
  refine F.okX sctake_form (fun vs H Q E h => ?_) (fun cdv A outer s H vs Q E hr h => ?_)
  · obtain ⟨p, dx, pre, suf, rfl, _⟩ := h
    rfl
  obtain ⟨p, dx, pre, suf, rfl, hp, hl, q1, q2⟩ := h
  refine ⟨_, (pss_one (ps_ret (pe_callS Ctake_halved.ok (hr.mono (by decide)) rfl Ctake_halved.m Ctake_halved.kp Ctake_halved.b (fun σ => passAt (takes_of rfl rfl rfl rfl) σ) (pa_cons (pv 0) (pa_cons (pe_callTy call_dictS rfl Y.dict (by decide +kernel) (pa_cons (pe_globE Y.FORM_WORDS) pa_nil)) pa_nil))))), ?_⟩
  refine ⟨_, rfl, _, wordsF, rfl, Y.dFW, fun W nW => ?_⟩
  have s1 := same_new nW (.dK wordsF)
  exact ⟨p, dx, W, pre, suf, rfl, s1 _ _ hp, upd_same, hl, fun t rest pre' e1 e2 H' v kp => q1 t rest pre' e1 e2 H' v ((Same.toKeep s1).trans kp), fun rest pre' e1 e2 H' d kp => q2 rest pre' e1 e2 H' d ((Same.toKeep s1).trans kp)⟩
theorem oktake_endsX {R : RdTxt K CR} (M1 : Mth P w K mg base CR "sees" 1 NRd1 (spSees CR)) (M4 : Mth P w K mg base CR "take" 2 NRd1 (spTake CR)) (Ctake_form : CalX P w K mg base "take_form" 7 Ptake_form (spTakeFormX K CR CW CN))
    (F : Fun K "take_ends" "take_ends" stake_ends f fd) : FnOk P w K mg base (L2.CX P w) 8 f fd Ptake_ends (spTakeEndsX K CR CW CN) := by
  refine F.okX sctake_ends (fun vs H Q E h => ?_) (fun cdv A outer s H vs Q E hr h => ?_)
  · obtain ⟨p, dx, pre, suf, rfl, _⟩ := h
    rfl
  obtain ⟨p, dx, pre, suf, rfl, hp, hl, q1, q2⟩ := h
  refine ⟨_, (pss_cons (ps_set (i := 1) sctake_ends.nd rfl (Or.inl rfl) (pe_lst (pa_cons (pe_callS Ctake_form.ok (hr.mono (by decide)) rfl Ctake_form.m Ctake_form.kp Ctake_form.b (fun σ => passAt (takes_of rfl rfl rfl rfl) σ) (pa_cons (pv 0) pa_nil)) pa_nil)))
  (pss_cons (ps_while (passes_of rfl) (pt_val (pe_methM M1 (pv 0) R.cl hr (pa_cons pe_str pa_nil)))
    (pss_cons (ps_expr (pe_methM M4 (pv 0) R.cl hr (pa_cons pe_str pa_nil)))
    (pss_one (ps_expr (pe_bm PySem.F.plainAttrs_list PySem.F.slot_list_append PySem.F.type_list_append mt_append (pv 1) (pa_cons (pe_callS Ctake_form.ok (hr.mono (by decide)) rfl Ctake_form.m Ctake_form.kp Ctake_form.b (fun σ => passAt (takes_of rfl rfl rfl rfl) σ) (pa_cons (pv 0) pa_nil)) pa_nil))))))
  (pss_one (ps_ret (pv 1))))), ?_⟩
  obtain ⟨whole, hw⟩ : ∃ whole, whole = pre ++ suf := ⟨_, rfl⟩
  obtain ⟨o, ho⟩ : ∃ o, o = rowP (suf.length + 1) suf := ⟨_, rfl⟩
  rw [← hw] at hl q1 q2
  rw [← ho] at q1 q2
  refine ⟨_, rfl, p, dx, pre, suf, rfl, hp, by rw [← hw]; exact hl, fun t rest pre1 e1 e2 H1 v k1 h1 w1 => ?_, fun rest pre1 e1 e2 H1 d k1 nd => q2 rest pre1 (by rw [ho, rowP_stop e1]) (e2.trans hw.symm) H1 d k1 nd⟩
  rw [rowP_done e1] at ho
  rw [← hw] at e2
  refine ⟨(by show 1 ≤ sizeLine; decide), fun L nL => ?_⟩
  have nLp : L ≠ p := fun e => by rw [e, h1] at nL; cases nL
  have nLH : ∀ b o, H b = some o → b ≠ L := fun b o e z => by
    subst z
    rw [k1 b o nLp e] at nL
    cases nL
  have g1 : Gd CW H1 (upd H1 L (.lst [v])) := Gd.of_same (same_new nL _)
  refine ⟨fun m σ H' => ∃ (vs' : List V) (ts1 : List FT) (pre' R' : List Nat), σ = [some (.ref p), some (.ref L)] ∧ Keep p H H' ∧ H' p = some (rO CR dx pre' R') ∧ pre' ++ R' = whole ∧ H' L = some (.lst vs') ∧ WrL K CW H' ts1 vs' ∧ vs'.length ≤ pre'.length + 1 ∧ R'.length ≤ m ∧ o = rowT m ts1 R',
    ⟨suf.length, [v], [t], pre1, rest, rfl, ?_, ?_, e2, upd_same, .cons (w1.gd g1) .nil, by simp, formP_len e1, ho⟩, ?_⟩
  · intro b o n e
    rw [upd_ne (nLH b o e)]
    exact k1 b o n e
  · rw [upd_ne (Ne.symm nLp)]
    exact h1
  clear g1 w1 e1 h1 k1 v e2 pre1 ho rest t
  rintro m σ H' ⟨vs', ts1, pre', R', rfl, kp, hp', hw', hL, hwr, hx, hm, ho⟩
  have hlw : pre'.length + R'.length + 2 ≤ sizeLine := by
    rw [← hw', List.length_append] at hl
    exact hl
  refine ⟨_, rfl, p, dx, _, rfl, hp', rF_no, p, dx, pre', R', zComma, rfl, hp', by omega, _, rfl, ?_⟩
  cases hs : seesB R' zComma with
  | false =>
    refine iteF ?_
    exact ⟨_, rfl, q1 ts1 R' pre' (by rw [ho, rowT_end hs]) hw' H' L vs' kp hp' hL hwr⟩
  | true =>
    cases R' with
    | nil => cases hs
    | cons c r =>
    have hs : oneOf zComma c = true := hs
    have hs2 := hs
    rw [one_of_at zComma c 44 (by decide +kernel)] at hs2
    obtain rfl : c = 44 := of_decide_eq_true hs2
    rw [List.length_cons] at hm hlw
    obtain ⟨m, rfl⟩ : ∃ n, m = n + 1 := ⟨m - 1, by omega⟩
    refine iteT ⟨_, fun _ _ h => h, _, rfl, p, dx, _, rfl, hp', rF_no, p, dx, _, _, 44, zComma, rfl, hp', by decide +kernel, by omega, fun H2 m2 h2 => ?_⟩
    have g2 : Gd CW H' H2 := Gd.of_keep hp' m2.keep
    have hL2 : H2 L = some (.lst vs') := by rw [m2 L nLp]; exact hL
    have hw2 : whole = (pre' ++ [44]) ++ r := by rw [← hw', List.append_assoc]; rfl
    refine ⟨_, rfl, .inl ⟨rfl, _, SqL.of hL2⟩, _, rfl, p, dx, _, r, rfl, h2, by rw [← hw2]; exact hl, fun u R2 pre3 e1 e2 H3 v k3 h3 w3 => ?_, fun rest pre3 e1 e2 H3 d k3 nd => q2 rest pre3 (by rw [ho, rowT_stop e1]) (e2.trans hw2.symm) H3 d ((kp.trans m2.keep).trans k3) nd⟩
    rw [rowT_next e1] at ho
    have g3 : Gd CW H2 H3 := Gd.of_keep h2 k3
    have hL3 : H3 L = some (.lst vs') := k3 L _ nLp hL2
    have hR2 := formP_len e1
    have e3' : pre3.length + R2.length = pre'.length + 1 + r.length := by
      have := congrArg List.length e2
      simp only [List.length_append, List.length_cons, List.length_nil] at this
      exact this
    refine ⟨L, _, _, rfl, rfl, hL3, by omega, ?_⟩
    refine ⟨m, Nat.lt_succ_self m, vs' ++ [v], ts1 ++ [u], pre3, R2, rfl, ?_, ?_, e2.trans hw2.symm, upd_same, ?_, ?_, by omega, ho⟩
    · intro b o n e
      rw [upd_ne (nLH b o e)]
      exact ((kp.trans m2.keep).trans k3) b o n e
    · rw [upd_ne (Ne.symm nLp)]
      exact h3
    · have g4 := Gd.of_lst (CW := CW) (ys := vs' ++ [v]) hL3
      exact paired_app (((hwr.gd g2).gd g3).gd g4) (.cons (w3.gd g4) .nil)
    · rw [List.length_append]
      show vs'.length + 1 ≤ _
      omega
end
end My

set_option Elab.async false
set_option linter.all false
set_option maxRecDepth 100000
namespace My
open PySem L2
/-- what is due of ends read of any text -/
def spReadEndsX (K : PySem.W.Frag) (CN CD CM : Addr) : Sp := fun vs H Q E => ∃ cs, vs = [.str (Z cs)] ∧ cs.length + 12 ≤ sizeLine ∧
  (∀ ts, rowP (cs.length + 1) cs = .done ts [] → ts.length ≤ 10000 ∧ ((∀ t ∈ ts, t.dep ≤ 12) → lvsL ts ≤ 40 → ∀ H' b xs, Same H H' → H' b = some (.lst xs) → H b = none → Paired (fun v t => Fm K H' t v) xs ts → Q (.ref b) H') ∧
    ((∃ t ∈ ts, 12 < t.dep) → badE CD "most" (.int 12) H E) ∧ ((∀ t ∈ ts, t.dep ≤ 12) → 40 < lvsL ts → badE CM "most" (.int 40) H E)) ∧
  (∀ ts used rest, rowP (cs.length + 1) cs = .done ts rest → rest ≠ [] → cs = used ++ rest → badE CN "at" (.int (used.length : Nat)) H E) ∧
  (∀ used rest, rowP (cs.length + 1) cs = .stop rest → cs = used ++ rest → badE CN "at" (.int (used.length : Nat)) H E)
section
variable {P : Program} {w : World} {K : PySem.W.Frag} {mg : Str → Option Value} {base : Heap} {f : Addr} {fd : FuncData} {CR CW CN fI : Addr}
theorem okread_endsX {CB CD CM : Addr} {R : RdTxt K CR} (R2 : RdTxt2 K mg CR fI) {fdI : FuncData} (GI : FnOk P w K mg base CX0 1 fI fdI NRd0 (spRd0 CR)) (bI : Binds K fdI NRd0 []) (Cct : CalX P w K mg base "check_text" 4 Ncheck_text (spCheckText K CB))
    (Ctf : CalX P w K mg base "take_ends" 8 Ptake_ends (spTakeEndsX K CR CW CN)) (M3 : MthX P w K mg base CR "finish" 3 NRd2 (spFinishX CR CN)) (Cto : CalX P w K mg base "told_ends" 5 Ptold_ends (spToldEnds K CW CD CM)) (F : Fun K "read_ends" "read_ends" sread_ends f fd) :
    FnOk P w K mg base (L2.CX P w) 9 f fd Pread_ends (spReadEndsX K CN CD CM) := by
  refine F.okX scread_ends (fun vs H Q E h => ?_) (fun cdv A outer s H vs Q E hr h => ?_)
  · obtain ⟨v, rfl, _⟩ := h
    rfl
  obtain ⟨cs, rfl, hl, q1, q2, q3⟩ := h
  refine ⟨_, (pss_cons (ps_expr (pe_callS Cct.ok (hr.mono (by decide)) rfl Cct.m Cct.kp Cct.b (fun σ => passAt (takes_of rfl rfl rfl rfl) σ) (pa_cons (pv 0) pa_nil)))
  (pss_cons (ps_set (i := 1) scread_ends.nd rfl (Or.inl rfl) (pe_make R2.made GI (hr.mono (by decide)) rfl R2.g bI .nil pass0 (pa_cons (pv 0) pa_nil)))
  (pss_cons (ps_set (i := 2) scread_ends.nd rfl (Or.inl rfl) (pe_callS Ctf.ok (hr.mono (by decide)) rfl Ctf.m Ctf.kp Ctf.b (fun σ => passAt (takes_of rfl rfl rfl rfl) σ) (pa_cons (pv 1) pa_nil)))
  (pss_cons (ps_expr (pe_methX0 M3 (pv 1) R.cl (hr.mono (by decide)) (fun σ => passAt (takes_of rfl rfl rfl rfl) σ)))
  (pss_one (ps_ret (pe_callS Cto.ok (hr.mono (by decide)) rfl Cto.m Cto.kp Cto.b (fun σ => passAt (takes_of rfl rfl rfl rfl) σ) (pa_cons (pv 2) pa_nil)))))))), ?_⟩
  refine ⟨_, rfl, _, rfl, .inl ⟨.str _, .str _, fun _ => ?_, fun z => by cases z⟩⟩
  refine ⟨_, rfl, fun x dx nx nd ne => ⟨x, dx, _, rfl, upd_same, fun H1 m1 h1 => ⟨rfl, ?_⟩⟩⟩
  have s1 : Same H H1 := same_mv (same_make nx nd ne) nx m1
  refine ⟨_, rfl, x, dx, [], cs, rfl, h1, by rw [List.nil_append]; omega, fun ts rest pre' e1 e2 H2 a vs' k2 h2 ha w2 => ?_, fun rest pre' e1 e2 H2 d k2 nd2 => q3 pre' rest e1 e2.symm d H2 (fun b o e => k2 b o (ne_of_none e nx) (s1 b o e)) nd2⟩
  have s2 : Same H H2 := fun b o e => k2 b o (ne_of_none e nx) (s1 b o e)
  have e2 : pre' ++ rest = cs := e2
  have hlen : pre'.length + rest.length ≤ sizeLine := by
    have := congrArg List.length e2
    rw [List.length_append] at this
    omega
  refine ⟨_, rfl, x, dx, _, rfl, h2, rF_no, x, dx, pre', rest, rfl, h2, hlen, fun er => ?_, fun er d H' s' nd' => q2 ts pre' rest e1 er e2.symm d H' (s2.trans s') nd'⟩
  subst er
  obtain ⟨hn, r1, r2, r3⟩ := q1 ts e1
  exact ⟨_, rfl, a, vs', ts, rfl, SqL.of ha, w2, hn, fun c1 c2 H' b xs s3 hb nb hp => r1 c1 c2 H' b xs (s2.trans s3) hb (s2.free nb) hp, fun c => (r2 c).same s2, fun c1 c2 => (r3 c1 c2).same s2⟩
end
end My

set_option Elab.async false
set_option linter.all false
set_option maxRecDepth 100000
/-! Rpl: for c in '..': t = t.replace(c, ' ' + c + ' ') -/
namespace Rpl
open PySem PySem.Spec PyProof.Rows L2
/-- the signs of done, each with a space on both sides -/
def spaced (done l : List Nat) : List Nat := l.flatMap fun d => if d ∈ done then [32, d, 32] else [d]
theorem replL_one (c : Nat) (z : List Nat) : ∀ l : List Nat, StrLaws.replL [c] z l = l.flatMap fun d => if d = c then z else [d]
  | [] => StrLaws.replL_nil
  | d :: l => by
    rw [List.flatMap_cons]
    by_cases h : d = c
    · rw [if_pos h, StrLaws.replL_hit (by simp) (by simp [h])]
      show z ++ StrLaws.replL [c] z l = _
      rw [replL_one c z l]
    · rw [if_neg h, StrLaws.replL_miss (by simp [h]), replL_one c z l]
      rfl
theorem spaced_snoc {done : List Nat} {c : Nat} (h1 : c ∉ done) (h2 : c ≠ 32) : ∀ l : List Nat, (spaced done l).flatMap (fun d => if d = c then [32, c, 32] else [d]) = spaced (done ++ [c]) l
  | [] => rfl
  | d :: l => by
    have ih := spaced_snoc h1 h2 l
    unfold spaced at ih ⊢
    rw [List.flatMap_cons, List.flatMap_cons, List.flatMap_append, ih]
    congr 1
    by_cases hd : d ∈ done
    · have n1 : ¬ d = c := fun e => h1 (e ▸ hd)
      have n2 : ¬ (32 : Nat) = c := fun e => h2 e.symm
      rw [if_pos hd, if_pos (List.mem_append_left _ hd)]
      simp [n1, n2]
    · rw [if_neg hd]
      by_cases e : d = c
      · subst e
        simp
      · have : ¬ d ∈ done ++ [c] := by simp [hd, e]
        rw [if_neg this]
        simp [e]
theorem spaced_nil (l : List Nat) : spaced [] l = l := by
  unfold spaced
  induction l with
  | nil => rfl
  | cons d l ih => rw [List.flatMap_cons, ih]; simp
theorem spaced_len (done : List Nat) : ∀ l : List Nat, (spaced done l).length ≤ 3 * l.length
  | [] => Nat.le_refl _
  | d :: l => by
    have ih := spaced_len done l
    unfold spaced at ih ⊢
    rw [List.flatMap_cons, List.length_append, List.length_cons]
    have : (if d ∈ done then [32, d, 32] else [d]).length ≤ 3 := by split <;> simp
    omega
abbrev ZZ (l : List Nat) : Str := ⟨l.toArray⟩
theorem ZZ_len (l : List Nat) : (ZZ l).length = l.length := by simp [Str.length]
theorem replace_spaced {done : List Nat} {c : Nat} (h1 : c ∉ done) (h2 : c ≠ 32) (l : List Nat) : Txt.replace (ZZ (spaced done l)) ⟨#[c]⟩ ⟨#[32, c, 32]⟩ = ZZ (spaced (done ++ [c]) l) := by
  refine TL.ext_tl ?_
  show (Txt.replace (ZZ (spaced done l)) ⟨#[c]⟩ ⟨#[32, c, 32]⟩).cps.toList = (ZZ (spaced (done ++ [c]) l)).cps.toList
  rw [StrLaws.replace_list (by show 1 ≤ 1; decide)]
  show StrLaws.replL [c] [32, c, 32] (spaced done l) = spaced (done ++ [c]) l
  rw [replL_one, spaced_snoc h1 h2]
section
variable {X : Cx} {pins : List (Addr × Obj)} {σ : L2.St} {H : Hp} {s : Shared}
/-- a local is stored, told as it is -/
theorem store_raw {M : Model} {A : Around} {E : Value → Shared → Prop} {i : Nat} {x : Str} {v : V} {u : Value} {Q : Unit → Shared → Prop} (I : Inv X pins σ H s) (hN : X.N.Nodup) (hi : X.N[i]? = some x) (hk : X.env.kindOf x = some .local) (r : RelV v u)
    (h : ∀ h2 m2, Inv X pins (σ.set i (some v)) H { s with heap := h2, toks := s.toks + 1 } → h2.Ns X.env.locals m2 → m2 x = some u → Heap.SameBut X.env.locals s.heap h2 → Q () { s with heap := h2, toks := s.toks + 1 }) : wpAny M A (storeName X.env x u) Q E s := by
  obtain ⟨m, hn, hl⟩ := id I.loc
  have notcls : (X.env.scope.kind == .class || (X.env.scope.kind == .module && X.env.locals != X.env.globals)) = false := by
    rw [I.ok.kind]
    rfl
  refine wpAny_storeName_local hk hn (fun h2 hn2 sb => h h2 _ ?_ hn2 (if_pos rfl) sb) notcls
  have far : ∀ b o, X.s_0.heap.get? b = some o → h2.get? b = s.heap.get? b := fun b o e => sb.2 b (Nat.ne_of_lt (Nat.lt_of_lt_of_le (Heap.lt_size e) I.ok.above))
  have other : ∀ b o, H b = some o → h2.get? b = s.heap.get? b := fun b o e => sb.2 b fun z => by
    rw [z, I.free] at e
    cases e
  refine ⟨I.ok, I.os, I.bare, ⟨fun b o e n hb hx => ?_, fun b o e n hb hx => ?_, I.base.free, fun b o e hx => ?_, I.base.tups, I.base.frzs, I.base.tbls⟩, ⟨_, hn2, fun j y w e1 e2 e3 => ?_⟩, fun y c e => ?_, I.free, I.freeC, fun p hp => ?_, fun b ob e => ?_, ?_⟩
  · exact (far b o e).trans (I.base.keep b o e n hb hx)
  · obtain ⟨sl, q⟩ := I.base.slot b o e n hb hx
    exact ⟨sl, (far b o e).trans q⟩
  · obtain ⟨o2, q⟩ := I.base.there b o e hx
    exact ⟨o2, (far b o e).trans q⟩
  · by_cases hj : j = i
    · subst hj
      have lt : j < σ.length := by
        rw [I.len]
        exact (List.getElem?_eq_some_iff.mp hi).1
      rw [hi] at e1
      cases e1
      rw [List.getElem?_set_self lt] at e2
      cases e2
      exact ⟨u, r, .inl ⟨hk, if_pos rfl⟩⟩
    · rw [List.getElem?_set_ne (Ne.symm hj)] at e2
      obtain ⟨u2, r2, q⟩ := hl j y w e1 e2 e3
      refine ⟨u2, r2, q.elim (fun ⟨k1, k2⟩ => .inl ⟨k1, ?_⟩) fun ⟨k1, c, k2, k3⟩ => .inr ⟨k1, c, k2, k3.sameBut sb (I.cne y c k2)⟩⟩
      have ne : y ≠ x := fun e => hj (nodup_ix hN e1 (e ▸ hi))
      exact (if_neg ne).trans k2
  · obtain ⟨w, q⟩ := I.cell y c e
    exact ⟨w, q.sameBut sb (I.cne y c e)⟩
  · obtain ⟨q1, q2, q3, q4, q5⟩ := I.pin p hp
    exact ⟨(sb.2 p.1 q3).trans q1, q2, q3, q4, q5⟩
  · refine (I.hok b ob e).stay (fun c w hc q => ?_) (fun _ q => q) fun _ _ q => q
    rcases hc with hc | hc
    · rw [hc]
      rw [hc] at q
      exact (other b ob e).trans q
    · exact (other c _ hc).trans q
  · rw [List.length_set]
    exact I.len
end
end Rpl

set_option Elab.async false
set_option linter.all false
set_option maxRecDepth 100000
namespace Rpl
open PySem PySem.Spec PyProof.Rows L2
/-- i: the text's place, k: the sign's -/
def tRepl (i k : Nat) (S : Str) : TS := fun D σ H => ∃ l, σ[i]? = some (some (.str (ZZ l))) ∧ 12 * l.length + 100 ≤ 16777216 ∧ D.nx ((σ.set k none).set i (some (.str (ZZ (spaced S.cps.toList l))))) H
theorem take_succ_of {l : List Nat} {j c : Nat} (h : l[j]? = some c) : l.take (j + 1) = l.take j ++ [c] := by
  rw [List.take_succ, h]
  rfl
theorem not_in_take : ∀ {l : List Nat} {j c : Nat}, l.Nodup → l[j]? = some c → c ∉ l.take j
  | [], _, _, _, h => by simp at h
  | x :: l, 0, _, _, _ => by simp
  | x :: l, j + 1, c, hn, h => by
    have h : l[j]? = some c := by simpa using h
    obtain ⟨h1, h2⟩ := List.nodup_cons.mp hn
    rw [List.take_succ_cons, List.mem_cons, not_or]
    exact ⟨fun e => h1 (e ▸ List.mem_of_getElem? h), not_in_take h2 h⟩
section
variable {X : Cx}
theorem ps_repl {i k : Nat} {tx sg : Str} {S : Str} {j0 j1 j2 : Nat} {q1 q2 q3 q4 q5 q6 q7 q8 q9 q10 q11 q12 q13 q14 : Pos} (hp : PassesOwn (model X.prog X.w) X.A X.env X.xe) (hc : X.calm = true) (hN : X.N.Nodup) (hi : X.N[i]? = some tx) (hk : X.N[k]? = some sg) (hik : i ≠ k)
    (ht : X.env.kindOf tx = some .local) (hg : X.env.kindOf sg = some .local) (hasc : S.cps.all (· < 128) = true) (hnd : S.cps.toList.Nodup) (h32 : 32 ∉ S.cps.toList) (dt : (tx == ("__debug__" : Str)) = false) (dg : (sg == ("__debug__" : Str)) = false) (ct : (tx == ("__classdict__" : Str)) = false)
    (hbase : attributeBase (.Name tx q4) "replace" X.env (eval (.Name tx q4) X.env) = eval (.Name tx q4) X.env) (hline : (q5.endLine == q12.line) = true)
    (hst : starEach [.Name sg q6, .BinOp (.BinOp (.Constant (.str " ") j1 q7) .Add (.Name sg q8) q9) .Add (.Constant (.str " ") j2 q10) q11] X.env = [(false, eval (.Name sg q6) X.env), (false, eval (.BinOp (.BinOp (.Constant (.str " ") j1 q7) .Add (.Name sg q8) q9) .Add (.Constant (.str " ") j2 q10) q11) X.env)])
    (hsw : swapsWith (.Call (.Attribute (.Name tx q4) "replace" q5) [.Name sg q6, .BinOp (.BinOp (.Constant (.str " ") j1 q7) .Add (.Name sg q8) q9) .Add (.Constant (.str " ") j2 q10) q11] [] q12) (some (.Name tx q3)) q13.line X.env = pure false)
    (hs : ∀ x, foldedSetIterable (.Constant (.str S) j0 q2) X.env x = pure x := by intro _; rfl) :
    PS X (.For (.Name sg q1) (.Constant (.str S) j0 q2) [.Assign [.Name tx q3] (.Call (.Attribute (.Name tx q4) "replace" q5) [.Name sg q6, .BinOp (.BinOp (.Constant (.str " ") j1 q7) .Add (.Name sg q8) q9) .Add (.Constant (.str " ") j2 q10) q11] [] q12) q13] [] q14) (tRepl i k S) := by
  refine ⟨fun pins s σ H D I h => ?_⟩
  obtain ⟨l, hl, hb, q⟩ := h
  have il : i < σ.length := (List.getElem?_eq_some_iff.mp hl).1
  refine wpAny_For (Calls.Constant_str (wpAny_pyIter_ascii hasc ?_)) hs
  generalize hit : s.heap.objs.size = it
  have I0 : Inv X pins σ H { s with heap := s.heap.push { cls := .type "str_ascii_iterator", data := .fields #[.str S s.toks, .int 0 0] }, toks := s.toks + 1 } := I.kept fun b o e => Heap.get?_push_of_some _ e
  have f0 : FpOk X pins H it := I.fpOk (Nat.le_of_eq hit) (I.hok.fresh (Nat.le_of_eq hit))
  obtain ⟨g0, g1, g2, g3, g4, g5⟩ := f0
  have e0 : (s.heap.push { cls := .type "str_ascii_iterator", data := .fields #[.str S s.toks, .int 0 0] }).get? it = some (Froz.itObj S s.toks 0) := by
    rw [← hit]
    exact Heap.get?_push_size _ rfl
  have start : Inv X pins ((σ.set k none).set i (some (.str (ZZ (spaced (S.cps.toList.take 0) l))))) H { s with heap := s.heap.push { cls := .type "str_ascii_iterator", data := .fields #[.str S s.toks, .int 0 0] }, toks := s.toks + 1 } := by
    refine I0.weak (by simp) fun a v e => ?_
    rw [List.take_zero, spaced_nil] at e
    by_cases ai : a = i
    · subst ai
      rw [List.getElem?_set_self (by simpa using il)] at e
      rw [hl]
      exact e
    · rw [List.getElem?_set_ne (Ne.symm ai)] at e
      by_cases ak : a = k
      · subst ak
        by_cases la : a < σ.length
        · rw [List.getElem?_set_self la] at e
          cases e
        · rw [List.getElem?_eq_none (by simpa using la)] at e
          cases e
      · rw [List.getElem?_set_ne (Ne.symm ak)] at e
        exact e
  refine codeAny_forLoop_any (fun n t => ∃ j, j ≤ S.cps.size ∧ n = S.cps.size - j ∧ Inv X pins ((σ.set k none).set i (some (.str (ZZ (spaced (S.cps.toList.take j) l))))) H t ∧ t.heap.get? it = some (Froz.itObj S s.toks j) ∧ 1 ≤ t.toks) ?_ S.cps.size ⟨0, Nat.zero_le _, rfl, start, e0, Nat.le_add_left _ _⟩
  rintro n t ⟨j, jl, rfl, J, ej, tk⟩
  refine wpAny_passesOwn hp ?_
  by_cases lt : j < S.cps.size
  · obtain ⟨c, hcj⟩ : ∃ c, S.cps[j]? = some c := ⟨S.cps[j], by simp [lt]⟩
    refine Froz.next_x ej hcj ?_
    have e1 : (t.heap.update it (fun _ => Froz.itObj S s.toks (j + 1))).get? it = some (Froz.itObj S s.toks (j + 1)) := Froz.get_upd _ ej rfl
    have J1 : Inv X pins ((σ.set k none).set i (some (.str (ZZ (spaced (S.cps.toList.take j) l))))) H { t with heap := t.heap.update it (fun _ => Froz.itObj S s.toks (j + 1)), toks := t.toks + 1 } :=
      J.turned (fun b o n e => (Heap.get?_update_other _ _ (Ne.symm n)).trans e) g0 g1 g3 g4 g5
    generalize ht1 : ({ t with heap := t.heap.update it (fun _ => Froz.itObj S s.toks (j + 1)), toks := t.toks + 1 } : Shared) = t1 at J1 ⊢
    have k1 : t1.toks = t.toks + 1 := by rw [← ht1]
    have e2 : t1.heap.get? it = some (Froz.itObj S s.toks (j + 1)) := by rw [← ht1]; exact e1
    refine go_of e2 rfl rfl (by decide) ?_
    refine wpAny_passesOwn hp (wpAny_assign_Name (store_raw (v := .str ⟨#[c]⟩) J1 hN hk hg ⟨_, rfl⟩ fun h2 m2 J2 n2 v2 sb => ?_))
    refine wpAny_passesOwn hp ?_
    have cj : S.cps.toList[j]? = some c := by
      rw [← hcj]
      simp
    have tk1 : S.cps.toList.take (j + 1) = S.cps.toList.take j ++ [c] := take_succ_of cj
    have cin : c ∈ S.cps.toList := List.mem_of_getElem? cj
    have c32 : c ≠ 32 := fun e => h32 (e ▸ cin)
    have cnd : c ∉ S.cps.toList.take j := not_in_take hnd cj
    have σi : (((σ.set k none).set i (some (.str (ZZ (spaced (S.cps.toList.take j) l))))).set k (some (.str ⟨#[c]⟩)))[i]? = some (some (.str (ZZ (spaced (S.cps.toList.take j) l)))) := by
      rw [List.getElem?_set_ne (Ne.symm hik), List.getElem?_set_self (by simpa using il)]
    have sl := spaced_len (S.cps.toList.take j) l
    have e3 : Str.ofString " " ++ (⟨#[c]⟩ : Str) ++ Str.ofString " " = ⟨#[32, c, 32]⟩ := rfl
    refine wpAny_execs_cons (wpAny_Assign_Name (PySem.Call_method2 hbase hst hline (raw_name hi (.inl ht) J2 σi (fun v r => ?_) dt ct)) hsw)
    obtain ⟨tv, rfl⟩ := r
    refine ⟨"str", _, F.plainAttrs_str, F.slot_str_replace, F.type_str_replace, typeIs_str _ _ _, (fun _ e => nomatch e), Calls.callWith_builtin rfl (Calls.evalArgs_plain (Calls.spliced_cons ?_))⟩
    refine wpAny_Name (wpAny_loadName_local I.ok.kind hg n2 v2 ?_) dg
    refine Calls.spliced_cons (wpAny_BinOp (wpAny_BinOp (Calls.Constant_str (wpAny_Name (wpAny_loadName_local I.ok.kind hg n2 v2 ?_) dg))))
    refine PySem.P.add_str ?_
    refine ⟨by show 2 ≤ sizeLine; decide, ?_⟩
    refine Calls.Constant_str (PySem.P.add_str ?_)
    refine ⟨by show 3 ≤ sizeLine; decide, ?_⟩
    refine Calls.spliced_nil ?_
    refine PySem.SC.replace (fun z => ?_) (fun z => ?_) (fun z => ?_) ?_ ?_ fun t' k' => ?_
    · have z : t.toks = 0 := z
      omega
    · have z : t1.toks + 1 + 1 + 1 + 1 = 0 := z
      omega
    · have z : t.toks = t1.toks + 1 + 1 + 1 + 1 := z
      omega
    · rw [e3, beq_eq_false_iff_ne]
      intro e
      have e := congrArg Str.length e
      exact absurd e (by show ¬ 1 = 3; decide)
    · rw [e3, ZZ_len]
      show (spaced (S.cps.toList.take j) l).length + ((spaced (S.cps.toList.take j) l).length + 1) * 3 ≤ 16777216
      omega
    · rw [e3, replace_spaced cnd c32, ← tk1]
      refine store_raw (v := .str (ZZ (spaced (S.cps.toList.take (j + 1)) l))) (J2.tok k') hN hi ht ⟨_, rfl⟩ (fun h9 m9 J9 n9 v9 sb9 => ?_)
      refine wpAny_execs_nil ?_
      refine ⟨S.cps.size - (j + 1), by omega, j + 1, lt, rfl, ?_, (sb9.2 it g1).trans ((sb.2 it g1).trans e2), Nat.le_add_left _ _⟩
      refine J9.weak (by simp) fun a v e => ?_
      by_cases ai : a = i
      · subst ai
        rw [List.getElem?_set_self (by simpa using il)] at e
        rw [List.getElem?_set_self (by simpa using il)]
        exact e
      · rw [List.getElem?_set_ne (Ne.symm ai)] at e
        rw [List.getElem?_set_ne (Ne.symm ai)]
        by_cases ak : a = k
        · subst ak
          by_cases la : a < σ.length
          · rw [List.getElem?_set_self la] at e
            cases e
          · rw [List.getElem?_eq_none (by simpa using la)] at e
            cases e
        · rw [List.getElem?_set_ne (Ne.symm ak)] at e
          rw [List.getElem?_set_ne (Ne.symm ak), List.getElem?_set_ne (Ne.symm ai), List.getElem?_set_ne (Ne.symm ak)]
          exact e
  · obtain rfl : j = S.cps.size := by omega
    refine Froz.end_x (I.ok.hd hc) ej (by simp) ?_
    rw [List.take_of_length_le (by simp)] at J
    exact wpAny_execs_nil ⟨_, H, J.turned (t' := t.toks) (fun b o n e => Heap.get?_push_of_some _ (Heap.get?_push_of_some _ ((Heap.get?_update_other _ _ (Ne.symm n)).trans e))) g0 g1 g3 g4 g5, q⟩
end
end Rpl

set_option Elab.async false
set_option linter.all false
set_option maxRecDepth 100000
namespace My
open PySem L2
/-! ### rows read, token by token -/
inductive TK where
  | op | cl | cm
  | sg (s : Sg)
  | nm (co : Bool) (n : List Nat)
def TK.txt : TK → List Nat
  | .op => [40]
  | .cl => [41]
  | .cm => [44]
  | .sg s => [s.code]
  | .nm co n => leafS co n
def TK.Ok : TK → Prop
  | .nm _ n => isName (Z n) = true
  | _ => True
def tks : Bool → FT → List TK
  | _, .leaf co n => [.nm co n]
  | false, .node s l r => tks true l ++ (.sg s :: tks true r)
  | true, .node s l r => .op :: (tks true l ++ (.sg s :: tks true r) ++ [.cl])
theorem tks_txt : ∀ (t : FT) (h : Bool), (tks h t).map TK.txt = toks h t
  | .leaf co n, h => by cases h <;> rfl
  | .node s l r, h => by
    have hl := tks_txt l true
    have hr := tks_txt r true
    cases h with
    | false =>
      show (tks true l ++ (.sg s :: tks true r)).map TK.txt = toks true l ++ ([s.code] :: toks true r)
      rw [List.map_append, List.map_cons, hl, hr]
      rfl
    | true =>
      show (TK.op :: (tks true l ++ (.sg s :: tks true r) ++ [.cl])).map TK.txt = [40] :: (toks true l ++ ([s.code] :: toks true r) ++ [[41]])
      rw [List.map_cons, List.map_append, List.map_append, List.map_cons, hl, hr]
      rfl
theorem tks_ok : ∀ (t : FT) (h : Bool), t.Ok → ∀ k ∈ tks h t, k.Ok
  | .leaf co n, h, o, k, m => by
    have e : k = .nm co n := by cases h <;> exact List.mem_singleton.mp m
    rw [e]
    exact o
  | .node s l r, h, o, k, m => by
    have key : ∀ k ∈ tks true l ++ (.sg s :: tks true r), k.Ok := fun k m => by
      rcases List.mem_append.mp m with m | m
      · exact tks_ok l true o.1 k m
      · rcases List.mem_cons.mp m with m | m
        · rw [m]
          exact trivial
        · exact tks_ok r true o.2 k m
    cases h with
    | false => exact key k m
    | true =>
      have m : k ∈ TK.op :: (tks true l ++ (.sg s :: tks true r) ++ [.cl]) := m
      rcases List.mem_cons.mp m with m | m
      · rw [m]
        exact trivial
      · rcases List.mem_append.mp m with m | m
        · exact key k m
        · rw [List.mem_singleton.mp m]
          exact trivial
def moreTks (ts : List FT) : List TK := (ts.map fun t => TK.cm :: tks false t).flatten
def rowTks : List FT → List TK
  | [] => []
  | t :: ts => tks false t ++ moreTks ts
theorem moreTks_txt : ∀ ts : List FT, (moreTks ts).map TK.txt = moreToks ts
  | [] => rfl
  | t :: ts => by
    have ih := moreTks_txt ts
    unfold moreTks moreToks at ih ⊢
    simp only [List.map_cons, List.flatten_cons, List.map_append, ih, tks_txt]
    rfl
theorem rowTks_txt (ts : List FT) : (rowTks ts).map TK.txt = rowToks ts := by
  cases ts with
  | nil => rfl
  | cons t ts =>
    show (tks false t ++ moreTks ts).map TK.txt = toks false t ++ moreToks ts
    rw [List.map_append, tks_txt, moreTks_txt]
theorem moreTks_ok (ts : List FT) (h : ∀ t ∈ ts, t.Ok) : ∀ k ∈ moreTks ts, k.Ok := fun k m => by
  unfold moreTks at m
  obtain ⟨l, hl, hk⟩ := List.mem_flatten.mp m
  obtain ⟨t, ht, rfl⟩ := List.mem_map.mp hl
  rcases List.mem_cons.mp hk with e | hk
  · rw [e]
    exact trivial
  · exact tks_ok t false (h t ht) k hk
theorem rowTks_ok (ts : List FT) (h : ∀ t ∈ ts, t.Ok) : ∀ k ∈ rowTks ts, k.Ok := fun k m => by
  cases ts with
  | nil => cases m
  | cons t ts =>
    rcases List.mem_append.mp (m : k ∈ tks false t ++ moreTks ts) with m | m
    · exact tks_ok t false (h t (List.mem_cons_self ..)) k m
    · exact moreTks_ok ts (fun t ht => h t (List.mem_cons_of_mem _ ht)) k m
inductive It6 where
  | pt (t : FT)
  | wd (s : Sg)
structure RS where
  out : List FT
  pre : List (List It6)
  top : List It6
def fold6 : List It6 → Option FT
  | [.pt t] => some t
  | [.pt a, .wd s, .pt b] => some (.node s a b)
  | _ => none
def rst (s : RS) : TK → Option RS
  | .op => some ⟨s.out, s.pre ++ [s.top], []⟩
  | .cl => match fold6 s.top, s.pre.getLast? with
    | some t, some l => some ⟨s.out, s.pre.dropLast, l ++ [.pt t]⟩
    | _, _ => none
  | .cm => match fold6 s.top with
    | some t => some ⟨s.out ++ [t], s.pre, []⟩
    | none => none
  | .sg g => some ⟨s.out, s.pre, s.top ++ [.wd g]⟩
  | .nm co n => some ⟨s.out, s.pre, s.top ++ [.pt (.leaf co n)]⟩
def rrun : RS → List TK → Option RS
  | s, [] => some s
  | s, k :: ks => match rst s k with
    | some t => rrun t ks
    | none => none
theorem rrun_some {s t : RS} {k : TK} {ks : List TK} (h : rst s k = some t) : rrun s (k :: ks) = rrun t ks := by
  show (match rst s k with | some t => rrun t ks | none => none) = _
  rw [h]
theorem rrun_half : ∀ (t : FT) (s : RS) (ks : List TK), rrun s (tks true t ++ ks) = rrun ⟨s.out, s.pre, s.top ++ [.pt t]⟩ ks
  | .leaf co n, s, ks => rrun_some (k := .nm co n) rfl
  | .node g l r, s, ks => by
    have e : tks true (.node g l r) ++ ks = TK.op :: (tks true l ++ (.sg g :: (tks true r ++ (.cl :: ks)))) := by
      show (TK.op :: (tks true l ++ (.sg g :: tks true r) ++ [.cl])) ++ ks = _
      simp only [List.append_assoc, List.cons_append, List.nil_append]
    rw [e, rrun_some rfl, rrun_half l, rrun_some rfl, rrun_half r]
    refine rrun_some ?_
    show (match fold6 [It6.pt l, It6.wd g, It6.pt r], (s.pre ++ [s.top]).getLast? with
      | some t, some l => some (RS.mk s.out (s.pre ++ [s.top]).dropLast (l ++ [It6.pt t]))
      | _, _ => none) = _
    rw [List.getLast?_append, List.dropLast_concat]
    rfl
theorem rrun_form (t : FT) (s : RS) (hs : s.top = []) (ks : List TK) : ∃ u, fold6 u = some t ∧ rrun s (tks false t ++ ks) = rrun ⟨s.out, s.pre, u⟩ ks := by
  cases t with
  | leaf co n =>
    refine ⟨[.pt (.leaf co n)], rfl, ?_⟩
    have := rrun_half (.leaf co n) s ks
    rw [hs] at this
    exact this
  | node g l r =>
    refine ⟨[.pt l, .wd g, .pt r], rfl, ?_⟩
    have e : tks false (.node g l r) ++ ks = tks true l ++ (.sg g :: (tks true r ++ ks)) := by
      show (tks true l ++ (.sg g :: tks true r)) ++ ks = _
      simp only [List.append_assoc, List.cons_append]
    rw [e, rrun_half l, rrun_some rfl, rrun_half r, hs]
    rfl
theorem rrun_more : ∀ (ts : List FT) (s : RS) (t : FT), fold6 s.top = some t → ∃ u v, rrun s (moreTks ts) = some u ∧ u.pre = s.pre ∧ fold6 u.top = some v ∧ u.out ++ [v] = s.out ++ (t :: ts)
  | [], s, t, h => ⟨s, t, rfl, rfl, h, rfl⟩
  | x :: ts, s, t, h => by
    have e : moreTks (x :: ts) = TK.cm :: (tks false x ++ moreTks ts) := by
      unfold moreTks
      rw [List.map_cons, List.flatten_cons]
      rfl
    have h1 : rst s .cm = some ⟨s.out ++ [t], s.pre, []⟩ := by
      show (match fold6 s.top with | some t => some (RS.mk (s.out ++ [t]) s.pre []) | none => none) = _
      rw [h]
    rw [e, rrun_some h1]
    obtain ⟨u, hu, e2⟩ := rrun_form x ⟨s.out ++ [t], s.pre, []⟩ rfl (moreTks ts)
    rw [e2]
    obtain ⟨a, b, c1, c2, c3, c4⟩ := rrun_more ts ⟨s.out ++ [t], s.pre, u⟩ x hu
    refine ⟨a, b, c1, c2, c3, ?_⟩
    rw [c4]
    show s.out ++ [t] ++ (x :: ts) = _
    rw [List.append_assoc]
    rfl
theorem rrun_row {ts : List FT} (h : 1 ≤ ts.length) : ∃ u v, rrun ⟨[], [], []⟩ (rowTks ts) = some u ∧ u.pre = [] ∧ fold6 u.top = some v ∧ u.out ++ [v] = ts := by
  cases ts with
  | nil => simp at h
  | cons t ts =>
    obtain ⟨u, hu, e⟩ := rrun_form t ⟨[], [], []⟩ rfl (moreTks ts)
    obtain ⟨a, b, c1, c2, c3, c4⟩ := rrun_more ts ⟨[], [], u⟩ t hu
    exact ⟨a, b, by rw [← c1, ← e]; rfl, c2, c3, c4⟩
/-! ### parts in the heap -/
def PartV (K : PySem.W.Frag) (H : Hp) (t : FT) (v : V) : Prop := ∃ p f, v = .ref p ∧ SqT K H p [f, .int (t.dep : Nat)] ∧ Fm K H t f
def ItemV (K : PySem.W.Frag) (H : Hp) (v : V) : It6 → Prop
  | .pt t => PartV K H t v
  | .wd s => v = .str s.word
theorem PartV.kt {K : PySem.W.Frag} {H H' : Hp} (k : KT H H') {t : FT} {v : V} (h : PartV K H t v) : PartV K H' t v := by
  obtain ⟨p, f, e, hs, hf⟩ := h
  exact ⟨p, f, e, k.seq hs, k.fm t hf⟩
theorem ItemV.kt {K : PySem.W.Frag} {H H' : Hp} (k : KT H H') : ∀ {v : V} {x : It6}, ItemV K H v x → ItemV K H' v x
  | _, .pt _, h => PartV.kt k h
  | _, .wd _, h => h
abbrev s_law_folded : Stmt := top 48
abbrev N_law_folded : List Str := ["_law_level"]
abbrev P_law_folded : List Str := ["_law_level"]
theorem sc_law_folded : FnScope N_law_folded P_law_folded (defScope s_law_folded) := ⟨rfl, rfl, rfl, by decide +kernel, rfl, by decide +kernel, by decide +kernel⟩
def spFolded (K : PySem.W.Frag) : Sp := fun vs H Q _ => ∃ (a : Addr) (xs : List V) (items : List It6) (t : FT), vs = [.ref a] ∧ SqL K H a xs ∧ Paired (ItemV K H) xs items ∧ fold6 items = some t ∧ ∀ H' v, Same H H' → PartV K H' t v → Q v H'
theorem fold6_inv {items : List It6} {t : FT} (h : fold6 items = some t) : items = [.pt t] ∨ ∃ a s b, items = [.pt a, .wd s, .pt b] ∧ t = .node s a b := by
  unfold fold6 at h
  split at h
  · cases h
    exact .inl rfl
  · cases h
    exact .inr ⟨_, _, _, rfl, rfl⟩
  · cases h
section
variable {P : Program} {w : World} {K : PySem.W.Frag} {mg : Str → Option Value} {base : Heap} {f : Addr} {fd : FuncData}
theorem ok_law_folded (T : Txt K mg) (F : Fun K "_law_folded" "_law_folded" s_law_folded f fd) : FnOk P w K mg base CX0 1 f fd P_law_folded (spFolded K) := by
  refine F.ok sc_law_folded (fun vs H Q E h => ?_) (fun cdv A outer s H vs Q E hr h => ?_)
  · obtain ⟨a, xs, items, t, rfl, _⟩ := h
    rfl
  obtain ⟨a, xs, items, t, rfl, hs, hp, hf, q⟩ := h
  refine ⟨_, (pss_cons (ps_if (pt_cmpR op_eq (pe_callB call_len rfl T.len (by decide +kernel) (pa_cons (pv 0) pa_nil)) pe_int (nomark _))
    (pss_one (ps_ret (pe_ix ix_list (pv 0) pe_int (fun _ _ => rfl))))
    pss_nil)
  (pss_one (ps_ret (pe_tupN (pa_cons (pe_tupN (pa_cons (pe_ix ix_list (pv 0) pe_int (fun _ _ => rfl)) (pa_cons (pe_ix ix_tup (pe_ix ix_list (pv 0) pe_int (fun _ _ => rfl)) pe_int (fun _ _ => rfl)) (pa_cons (pe_ix ix_tup (pe_ix ix_list (pv 0) pe_int (fun _ _ => rfl)) pe_int (fun _ _ => rfl)) pa_nil)))) (pa_cons (pe_op op_add pe_int (pe_callB (cr_max rfl) rfl T.max (by decide +kernel) (pa_cons (pe_lst (pa_cons (pe_ix ix_tup (pe_ix ix_list (pv 0) pe_int (fun _ _ => rfl)) pe_int (fun _ _ => rfl)) (pa_cons (pe_ix ix_tup (pe_ix ix_list (pv 0) pe_int (fun _ _ => rfl)) pe_int (fun _ _ => rfl)) pa_nil))) pa_nil))) pa_nil)))))), ?_⟩
  rcases fold6_inv hf with rfl | ⟨ta, g, tb, rfl, rfl⟩
  · cases hp with | @cons v _ _ _ h1 hp =>
    cases hp
    exact ⟨_, rfl, _, _, rfl, .inl ⟨_, hs, rfl⟩, rfl, _, rfl, iteT ⟨_, rfl, a, _, 0, v, rfl, rfl, hs, rfl, q H v (Same.refl H) h1⟩⟩
  · cases hp with | @cons v1 _ _ _ h1 hp => cases hp with | @cons v2 _ _ _ h2 hp => cases hp with | @cons v3 _ _ _ h3 hp =>
    cases hp
    have h2 : v2 = .str g.word := h2
    subst h2
    obtain ⟨p1, f1, rfl, s1, m1⟩ := h1
    obtain ⟨p3, f3, rfl, s3, m3⟩ := h3
    refine ⟨_, rfl, _, _, rfl, .inl ⟨_, hs, rfl⟩, rfl, _, rfl, iteF ?_⟩
    refine ⟨_, rfl, a, _, 1, _, rfl, rfl, hs, rfl, ?_⟩
    refine ⟨_, rfl, a, _, 0, _, rfl, rfl, hs, rfl, p1, _, 0, f1, rfl, rfl, s1, rfl, ?_⟩
    refine ⟨_, rfl, a, _, 2, _, rfl, rfl, hs, rfl, p3, _, 0, f3, rfl, rfl, s3, rfl, le1k, fun p4 H4 s4 e4 => ?_⟩
    refine ⟨_, rfl, a, _, 0, _, rfl, rfl, s4.seq hs, rfl, p1, _, 1, _, rfl, rfl, (Same.kt s4).seq s1, rfl, ?_⟩
    refine ⟨_, rfl, a, _, 2, _, rfl, rfl, s4.seq hs, rfl, p3, _, 1, _, rfl, rfl, (Same.kt s4).seq s3, rfl, ?_⟩
    refine ⟨by show 2 ≤ sizeLine; decide, fun p5 n5 => ⟨p5, [(ta.dep : Int), (tb.dep : Int)], rfl, SqL.of upd_same, by simp, fun m hm hle => ?_⟩⟩
    have l1 := hle (ta.dep : Int) (by simp)
    have l2 := hle (tb.dep : Int) (by simp)
    have em : (1 : Int) + m = (((FT.node g ta tb).dep : Nat) : Int) := by
      show (1 : Int) + m = ((1 + max ta.dep tb.dep : Nat) : Int)
      simp only [List.mem_cons, List.not_mem_nil, or_false] at hm
      omega
    refine ⟨_, _, rfl, rfl, ?_⟩
    have s5 := same_new n5 (.lst [V.int (ta.dep : Int), V.int (tb.dep : Int)])
    refine ⟨le1k, fun p6 H6 s6 e6 => q H6 (.ref p6) ((s4.trans s5).trans s6) ⟨p6, .ref p4, rfl, ?_, ?_⟩⟩
    · have e6 : SqT K H6 p6 [V.ref p4, .int (1 + m)] := e6
      rw [em] at e6
      exact e6
    · have k := Same.kt ((s4.trans s5).trans s6)
      exact ⟨p4, f1, f3, rfl, (Same.kt (s5.trans s6)).seq e4, k.fm ta m1, k.fm tb m3⟩
end
end My

set_option Elab.async false
set_option linter.all false
set_option maxRecDepth 100000
namespace My
open PySem L2
/-! ### the words of a row whose signs stand between spaces -/
def signsC : List Nat := [40, 41, 42, 124, 38, 43, 44]
def isNm : TK → Bool
  | .nm _ _ => true
  | _ => false
def headNm : List TK → Bool
  | [] => false
  | k :: _ => isNm k
/-- no two names side by side -/
def Alt : List TK → Prop
  | [] => True
  | k :: ks => (isNm k = true → headNm ks = false) ∧ Alt ks
theorem alt_half : ∀ (t : FT) (ks : List TK), Alt ks → headNm ks = false → Alt (tks true t ++ ks)
  | .leaf co n, ks, h, h2 => ⟨fun _ => h2, h⟩
  | .node g l r, ks, h, h2 => by
    have e : tks true (.node g l r) ++ ks = TK.op :: (tks true l ++ (.sg g :: (tks true r ++ (.cl :: ks)))) := by
      show (TK.op :: (tks true l ++ (.sg g :: tks true r) ++ [.cl])) ++ ks = _
      simp only [List.append_assoc, List.cons_append, List.nil_append]
    rw [e]
    have a1 : Alt (TK.cl :: ks) := ⟨fun z => (by cases z), h⟩
    have a2 := alt_half r _ a1 rfl
    have a3 : Alt (TK.sg g :: (tks true r ++ (.cl :: ks))) := ⟨fun z => (by cases z), a2⟩
    exact ⟨fun z => (by cases z), alt_half l _ a3 rfl⟩
theorem alt_form (t : FT) (ks : List TK) (h : Alt ks) (h2 : headNm ks = false) : Alt (tks false t ++ ks) := by
  cases t with
  | leaf co n => exact ⟨fun _ => h2, h⟩
  | node g l r =>
    have e : tks false (.node g l r) ++ ks = tks true l ++ (.sg g :: (tks true r ++ ks)) := by
      show (tks true l ++ (.sg g :: tks true r)) ++ ks = _
      simp only [List.append_assoc, List.cons_append]
    rw [e]
    exact alt_half l _ ⟨fun z => (by cases z), alt_half r ks h h2⟩ rfl
theorem alt_more : ∀ ts : List FT, Alt (moreTks ts) ∧ headNm (moreTks ts) = false
  | [] => ⟨trivial, rfl⟩
  | t :: ts => by
    obtain ⟨h1, h2⟩ := alt_more ts
    have e : moreTks (t :: ts) = TK.cm :: (tks false t ++ moreTks ts) := by
      unfold moreTks
      rw [List.map_cons, List.flatten_cons]
      rfl
    rw [e]
    exact ⟨⟨fun z => (by cases z), alt_form t _ h1 h2⟩, rfl⟩
theorem alt_row (ts : List FT) : Alt (rowTks ts) := by
  cases ts with
  | nil => trivial
  | cons t ts => exact alt_form t _ (alt_more ts).1 (alt_more ts).2
def flush (ws : List (List Nat)) (u : List Nat) : List (List Nat) := if u = [] then ws else ws ++ [u]
theorem wstep32 (ws : List (List Nat)) (u : List Nat) : TL.wstep (ws, u) 32 = (flush ws u, []) := by
  have h : Unicode.isSpace 32 = true := by decide +kernel
  unfold TL.wstep flush
  rw [if_pos h]
  by_cases e : u = []
  · rw [if_pos e, if_pos e, e]
  · rw [if_neg e, if_neg e]
theorem wspc (ws : List (List Nat)) : ∀ (k : Nat) (u : List Nat), (spc k).foldl TL.wstep (ws, u) = if k = 0 then (ws, u) else (flush ws u, [])
  | 0, u => rfl
  | k + 1, u => by
    show (spc k).foldl TL.wstep (TL.wstep (ws, u) 32) = _
    rw [wstep32, if_neg (by omega)]
    have : ∀ (j : Nat) (x : List (List Nat)), (spc j).foldl TL.wstep (x, []) = (x, []) := fun j => by
      induction j with
      | zero => intro x; rfl
      | succ j ih =>
        intro x
        show (spc j).foldl TL.wstep (TL.wstep (x, []) 32) = _
        rw [wstep32]
        exact ih x
    exact this k _
theorem spaced_spc (k : Nat) : Rpl.spaced signsC (spc k) = spc k := by
  unfold Rpl.spaced
  induction k with
  | zero => rfl
  | succ k ih =>
    show (if (32 : Nat) ∈ signsC then _ else [32]) ++ List.flatMap _ (spc k) = _
    rw [if_neg (by decide), ih]
    rfl
theorem spaced_app (a b : List Nat) : Rpl.spaced signsC (a ++ b) = Rpl.spaced signsC a ++ Rpl.spaced signsC b := by
  unfold Rpl.spaced
  rw [List.flatMap_append]
theorem spaced_id : ∀ l : List Nat, (∀ c ∈ l, c ∉ signsC) → Rpl.spaced signsC l = l
  | [], _ => rfl
  | c :: l, h => by
    have ih := spaced_id l fun d hd => h d (List.mem_cons_of_mem _ hd)
    unfold Rpl.spaced at ih ⊢
    rw [List.flatMap_cons, ih, if_neg (h c (List.mem_cons_self ..))]
    rfl
/-- signs of names -/
theorem ld_plain {c : Nat} (h : isLD c = true) : c ∉ signsC ∧ Unicode.isSpace c = false := by
  have key : ∀ c ∈ zLetters.cps.toList ++ zDigits.cps.toList, c ∉ signsC ∧ Unicode.isSpace c = false := by decide +kernel
  refine key c ?_
  unfold isLD at h
  rw [Bool.or_eq_true] at h
  rcases h with h | h
  · exact List.mem_append_left _ (of_decide_eq_true h)
  · exact List.mem_append_right _ (of_decide_eq_true h)
theorem leafS_plain {co : Bool} {n : List Nat} (h : isName (Z n) = true) : leafS co n ≠ [] ∧ ∀ c ∈ leafS co n, c ∉ signsC ∧ Unicode.isSpace c = false := by
  cases n with
  | nil => exact absurd h (by decide)
  | cons x n =>
    refine ⟨fun e => (by cases co <;> cases e), fun c hc => ?_⟩
    have hn2 : (decide (1 ≤ (Z (x :: n)).length ∧ (Z (x :: n)).length ≤ 12) && (isL x && (x :: n).all isLD)) = true := h
    rw [Bool.and_eq_true, Bool.and_eq_true] at hn2
    unfold leafS at hc
    rcases List.mem_append.mp hc with m | m
    · exact ld_plain (List.all_eq_true.mp hn2.2.2 c m)
    · cases co with
      | false => cases m
      | true =>
        rw [List.mem_singleton.mp m]
        decide +kernel
theorem wsign (ws : List (List Nat)) (u : List Nat) {c : Nat} (h : c ∈ signsC) : (Rpl.spaced signsC [c]).foldl TL.wstep (ws, u) = (flush ws u ++ [[c]], []) := by
  have e : Rpl.spaced signsC [c] = [32, c, 32] := by
    unfold Rpl.spaced
    rw [List.flatMap_cons, if_pos h]
    rfl
  have hs : Unicode.isSpace c = false := by
    have key : ∀ c ∈ signsC, Unicode.isSpace c = false := by decide +kernel
    exact key c h
  rw [e]
  show TL.wstep (TL.wstep (TL.wstep (ws, u) 32) c) 32 = _
  rw [wstep32 ws u]
  have e2 : TL.wstep (flush ws u, []) c = (flush ws u, [c]) := if_neg (by rw [hs]; exact Bool.false_ne_true)
  rw [e2, wstep32]
  rfl
theorem TK.sign {k : TK} (h : isNm k = false) : ∃ c, k.txt = [c] ∧ c ∈ signsC := by
  cases k with
  | op => exact ⟨40, rfl, by decide⟩
  | cl => exact ⟨41, rfl, by decide⟩
  | cm => exact ⟨44, rfl, by decide⟩
  | sg s => exact ⟨s.code, rfl, by cases s <;> decide⟩
  | nm => cases h
theorem words_row : ∀ (ks : List TK) {cs : List Nat} (ws : List (List Nat)) (u : List Nat), Gp (ks.map TK.txt) cs → (∀ k ∈ ks, k.Ok) → Alt ks → (u = [] ∨ headNm ks = false) → TL.wfin ((Rpl.spaced signsC cs).foldl TL.wstep (ws, u)) = flush ws u ++ ks.map TK.txt
  | [], cs, ws, u, g, _, _, _ => by
    cases g with
    | nil k =>
      rw [spaced_spc, wspc]
      by_cases h : k = 0
      · rw [if_pos h]
        unfold TL.wfin flush
        by_cases e : u = []
        · rw [if_pos e]
          exact (List.append_nil _).symm
        · rw [if_neg e]
          exact (List.append_nil _).symm
      · rw [if_neg h]
        exact (List.append_nil _).symm
  | k :: ks, cs, ws, u, g, ok, al, hu => by
    cases g with
    | @cons j _ _ cs g =>
      rw [spaced_app, spaced_app, spaced_spc, List.foldl_append, List.foldl_append, wspc]
      have ok2 : ∀ k ∈ ks, k.Ok := fun x hx => ok x (List.mem_cons_of_mem _ hx)
      cases hk : isNm k with
      | false =>
        obtain ⟨c, ec, hc⟩ := TK.sign hk
        rw [ec]
        have e : (Rpl.spaced signsC [c]).foldl TL.wstep (if j = 0 then (ws, u) else (flush ws u, [])) = (flush ws u ++ [[c]], []) := by
          by_cases h : j = 0
          · rw [if_pos h, wsign ws u hc]
          · rw [if_neg h, wsign _ _ hc]
            rfl
        rw [e, words_row ks _ _ g ok2 al.2 (.inl rfl), List.map_cons, ec]
        show flush ws u ++ [[c]] ++ _ = _
        rw [List.append_assoc]
        rfl
      | true =>
        cases k with
        | nm co n =>
          obtain ⟨p1, p2⟩ := leafS_plain (co := co) (ok (.nm co n) (List.mem_cons_self ..))
          have hu0 : u = [] := hu.elim id fun z => (by cases z)
          subst hu0
          have e0 : (if j = 0 then (ws, ([] : List Nat)) else (flush ws [], [])) = (ws, []) := by split <;> rfl
          rw [e0]
          show TL.wfin ((Rpl.spaced signsC cs).foldl TL.wstep ((Rpl.spaced signsC (leafS co n)).foldl TL.wstep (ws, []))) = _
          rw [spaced_id _ fun c hc => (p2 c hc).1, TL.wfold_word _ _ _ fun c hc => (p2 c hc).2, List.nil_append, words_row ks _ _ g ok2 al.2 (.inr (al.1 rfl))]
          have ef : flush ws (leafS co n) = ws ++ [leafS co n] := if_neg p1
          rw [ef, List.append_assoc]
          rfl
        | _ => cases hk
theorem words_text {ts : List FT} {cs : List Nat} (h : ∀ t ∈ ts, t.Ok) (g : Gp (rowToks ts) cs) : Txt.words (Rpl.ZZ (Rpl.spaced signsC cs)) = (rowToks ts).map Z := by
  refine TL.map_tl_inj ?_
  rw [TL.words_tl]
  have e := words_row (rowTks ts) [] [] (by rw [rowTks_txt]; exact g) (rowTks_ok ts h) (alt_row ts) (.inl rfl)
  rw [rowTks_txt] at e
  show TL.wfin ((Rpl.spaced signsC cs).foldl TL.wstep ([], [])) = ((rowToks ts).map Z).map TL.tl
  rw [e, List.map_map]
  show rowToks ts = (rowToks ts).map _
  exact (List.map_id' _).symm
end My

set_option Elab.async false
set_option linter.all false
set_option maxRecDepth 100000
namespace My
open PySem L2
/-! ### the levels in the heap -/
def LvlV (K : PySem.W.Frag) (H : Hp) (a : Addr) (items : List It6) : Prop := ∃ vs, H a = some (.lst vs) ∧ Paired (ItemV K H) vs items
theorem LvlV.kt {K : PySem.W.Frag} {H H' : Hp} {a : Addr} {items : List It6} (k : KT H H') (e : ∀ o, H a = some o → H' a = some o) (h : LvlV K H a items) : LvlV K H' a items := by
  obtain ⟨vs, h1, h2⟩ := h
  exact ⟨vs, e _ h1, paired_imp (fun _ _ h => h.kt k) h2⟩
theorem paired_mem {α β : Type} {r q : α → β → Prop} : ∀ {xs : List α} {ys : List β}, (∀ x ∈ xs, ∀ y, r x y → q x y) → Paired r xs ys → Paired q xs ys
  | _, _, _, .nil => .nil
  | _, _, h, .cons h1 h2 => .cons (h _ (List.mem_cons_self ..) _ h1) (paired_mem (fun x hx => h x (List.mem_cons_of_mem _ hx)) h2)
/-- the levels' addresses are as -/
structure Sta (K : PySem.W.Frag) (H0 H : Hp) (L O : Addr) (out : List FT) (lv : List (List It6)) (n : Nat) (as : List Addr) (ovs : List V) : Prop where
  hL : H L = some (.lst (as.map V.ref))
  hO : H O = some (.lst ovs)
  po : Paired (fun v t => PartV K H t v) ovs out
  pp : Paired (LvlV K H) as lv
  nd : as.Nodup
  nL : L ∉ as
  nO : O ∉ as
  LO : L ≠ O
  fL : H0 L = none
  fO : H0 O = none
  fr : ∀ x ∈ as, H0 x = none
  sm : Same H0 H
  b1 : as.length ≤ n + 1
  b2 : out.length ≤ n
  b4 : ∀ l ∈ lv, l.length ≤ n
theorem paired_split {α β : Type} {r : α → β → Prop} : ∀ {xs : List α} {ys : List β} {x : α} {y : β}, xs.length = ys.length → Paired r (xs ++ [x]) (ys ++ [y]) → Paired r xs ys ∧ r x y := by
  intro xs
  induction xs with
  | nil =>
    intro ys x y hl q
    cases ys with
    | nil => cases q with | cons q1 q2 => exact ⟨.nil, q1⟩
    | cons => simp at hl
  | cons z xs ih =>
    intro ys x y hl q
    cases ys with
    | nil => simp at hl
    | cons w ys =>
      cases q with | cons q1 q2 =>
      obtain ⟨r1, r2⟩ := ih (by simpa using hl) q2
      exact ⟨.cons q1 r1, r2⟩
section
variable {K : PySem.W.Frag} {H0 H H' : Hp} {L O a : Addr} {out : List FT} {lv : List (List It6)} {l : List It6} {n : Nat} {as : List Addr} {ovs : List V}
theorem Sta.same (h : Sta K H0 H L O out lv n as ovs) (k : Same H H') : Sta K H0 H' L O out lv n as ovs :=
  ⟨k _ _ h.hL, k _ _ h.hO, paired_imp (fun _ _ q => q.kt (Same.kt k)) h.po, paired_imp (fun _ _ q => q.kt (Same.kt k) fun o e => k _ _ e) h.pp, h.nd, h.nL, h.nO, h.LO, h.fL, h.fO, h.fr, h.sm.trans k, h.b1, h.b2, h.b4⟩
theorem Sta.mono {m : Nat} (h : Sta K H0 H L O out lv n as ovs) (le : n ≤ m) : Sta K H0 H L O out lv m as ovs :=
  ⟨h.hL, h.hO, h.po, h.pp, h.nd, h.nL, h.nO, h.LO, h.fL, h.fO, h.fr, h.sm, by have := h.b1; omega, Nat.le_trans h.b2 le, fun l m => Nat.le_trans (h.b4 l m) le⟩
theorem Sta.last (h : Sta K H0 H L O out (lv ++ [l]) n as ovs) : ∃ bs b, as = bs ++ [b] ∧ Paired (LvlV K H) bs lv ∧ LvlV K H b l := by
  have hl := paired_len h.pp
  have ne : as ≠ [] := fun z => by rw [z] at hl; simp at hl
  refine ⟨as.dropLast, as.getLast ne, (List.dropLast_concat_getLast ne).symm, ?_⟩
  have hp := h.pp
  rw [← List.dropLast_concat_getLast ne] at hp
  refine paired_split ?_ hp
  rw [List.length_append] at hl
  rw [List.length_dropLast]
  simp at hl
  omega
/-- the list of the levels is changed -/
theorem Sta.lvls {as' : List Addr} {lv' : List (List It6)} {m : Nat} (h : Sta K H0 H L O out lv n as ovs) (hp : Paired (LvlV K H) as' lv') (nd : as'.Nodup) (nL : L ∉ as') (nO : O ∉ as') (fr : ∀ x ∈ as', H0 x = none) (b1 : as'.length ≤ m + 1) (b4 : ∀ l ∈ lv', l.length ≤ m) (le : n ≤ m) :
    Sta K H0 (upd H L (.lst (as'.map V.ref))) L O out lv' m as' ovs := by
  have kt := KT.of_lst (ys := as'.map V.ref) h.hL
  have ne : ∀ x ∈ as', x ≠ L := fun x hx z => nL (z ▸ hx)
  exact ⟨upd_same, by rw [upd_ne (Ne.symm h.LO)]; exact h.hO, paired_imp (fun _ _ q => q.kt kt) h.po, paired_mem (fun x hx y q => q.kt kt fun o e => by rw [upd_ne (ne x hx)]; exact e) hp, nd, nL, nO, h.LO, h.fL, h.fO, fr, same_at h.sm h.fL, b1, Nat.le_trans h.b2 le, b4⟩
theorem Sta.pop (h : Sta K H0 H L O out (lv ++ [l]) n (as ++ [a]) ovs) (hp : Paired (LvlV K H) as lv) : Sta K H0 (upd H L (.lst (as.map V.ref))) L O out lv n as ovs := by
  have nd := h.nd
  rw [List.nodup_append] at nd
  refine h.lvls hp nd.1 (fun m => h.nL (List.mem_append_left _ m)) (fun m => h.nO (List.mem_append_left _ m)) (fun x m => h.fr x (List.mem_append_left _ m)) ?_ (fun l m => h.b4 l (List.mem_append_left _ m)) (Nat.le_refl _)
  have := h.b1
  rw [List.length_append] at this
  omega
theorem Sta.push (h : Sta K H0 H L O out lv n as ovs) {b : Addr} (nb : H b = none) : Sta K H0 (upd (upd H b (.lst [])) L (.lst ((as ++ [b]).map V.ref))) L O out (lv ++ [[]]) (n + 1) (as ++ [b]) ovs := by
  have h1 := h.same (same_new nb (.lst []))
  have eb : upd H b (.lst []) b = some (.lst []) := upd_same
  have bL : b ≠ L := fun z => by rw [z, h.hL] at nb; cases nb
  have bO : b ≠ O := fun z => by rw [z, h.hO] at nb; cases nb
  have lvl : ∀ x ∈ as, x ≠ b := fun x hx z => by
    obtain ⟨i, hi⟩ := List.getElem?_of_mem hx
    obtain ⟨y, _, vs, e, _⟩ := paired_take h.pp hi
    rw [z, nb] at e
    cases e
  have fb : H0 b = none := h.sm.free nb
  generalize upd H b (.lst []) = H1 at *
  refine h1.lvls (paired_app h1.pp (.cons ⟨[], eb, .nil⟩ .nil)) ?_ ?_ ?_ ?_ ?_ ?_ (Nat.le_succ n)
  · rw [List.nodup_append]
    exact ⟨h.nd, by simp, fun x hx y hy => by rw [List.mem_singleton.mp hy]; exact lvl x hx⟩
  · intro m
    rcases List.mem_append.mp m with m | m
    · exact h.nL m
    · exact bL (List.mem_singleton.mp m).symm
  · intro m
    rcases List.mem_append.mp m with m | m
    · exact h.nO m
    · exact bO (List.mem_singleton.mp m).symm
  · intro x m
    rcases List.mem_append.mp m with m | m
    · exact h.fr x m
    · rw [List.mem_singleton.mp m]
      exact fb
  · have := h.b1
    rw [List.length_append]
    show as.length + 1 ≤ n + 1 + 1
    omega
  · intro l m
    rcases List.mem_append.mp m with m | m
    · exact Nat.le_succ_of_le (h.b4 l m)
    · rw [List.mem_singleton.mp m]
      exact Nat.zero_le _
/-- an item on the top level -/
theorem Sta.add (h : Sta K H0 H L O out (lv ++ [l]) n (as ++ [a]) ovs) (hp : Paired (LvlV K H) as lv) {vs : List V} {v : V} {it : It6} (e : H a = some (.lst vs)) (hq : Paired (ItemV K H) vs l) (hv : ItemV K H v it) :
    Sta K H0 (upd H a (.lst (vs ++ [v]))) L O out (lv ++ [l ++ [it]]) (n + 1) (as ++ [a]) ovs := by
  have kt := KT.of_lst (ys := vs ++ [v]) e
  have aL : L ≠ a := fun z => h.nL (by rw [z]; simp)
  have aO : O ≠ a := fun z => h.nO (by rw [z]; simp)
  have aas : ∀ x ∈ as, x ≠ a := fun x hx z => by
    have := h.nd
    rw [List.nodup_append] at this
    exact this.2.2 x hx a (by simp) z
  refine ⟨by rw [upd_ne aL]; exact h.hL, by rw [upd_ne aO]; exact h.hO, paired_imp (fun _ _ q => q.kt kt) h.po, paired_app (paired_mem (fun x hx y q => q.kt kt fun o e => by rw [upd_ne (aas x hx)]; exact e) hp) (.cons ⟨_, upd_same, paired_app (paired_imp (fun _ _ q => q.kt kt) hq) (.cons (hv.kt kt) .nil)⟩ .nil),
    h.nd, h.nL, h.nO, h.LO, h.fL, h.fO, h.fr, same_at h.sm (h.fr a (by simp)), Nat.le_succ_of_le h.b1, Nat.le_succ_of_le h.b2, fun x m => ?_⟩
  rcases List.mem_append.mp m with m | m
  · exact Nat.le_succ_of_le (h.b4 x (List.mem_append_left _ m))
  · have := h.b4 l (by simp)
    rw [List.mem_singleton.mp m, List.length_append]
    show l.length + 1 ≤ n + 1
    omega
/-- an end more -/
theorem Sta.outs (h : Sta K H0 H L O out lv n as ovs) {t : FT} {v : V} (hv : PartV K H t v) : Sta K H0 (upd H O (.lst (ovs ++ [v]))) L O (out ++ [t]) lv (n + 1) as (ovs ++ [v]) := by
  have kt := KT.of_lst (ys := ovs ++ [v]) h.hO
  have ne : ∀ x ∈ as, x ≠ O := fun x hx z => h.nO (z ▸ hx)
  refine ⟨by rw [upd_ne h.LO]; exact h.hL, upd_same, paired_app (paired_imp (fun _ _ q => q.kt kt) h.po) (.cons (hv.kt kt) .nil), paired_mem (fun x hx y q => q.kt kt fun o e => by rw [upd_ne (ne x hx)]; exact e) h.pp, h.nd, h.nL, h.nO, h.LO, h.fL, h.fO, h.fr, same_at h.sm h.fO, Nat.le_succ_of_le h.b1, ?_, fun l m => Nat.le_succ_of_le (h.b4 l m)⟩
  have := h.b2
  rw [List.length_append]
  show out.length + 1 ≤ n + 1
  omega
end
end My

set_option Elab.async false
set_option linter.all false
set_option maxRecDepth 100000
namespace My
open PySem L2
abbrev s_law_read : Stmt := top 49
abbrev N_law_read : List Str := ["_law_text", "_law_sign", "_law_words", "_law_levels", "_law_out", "_law_token", "_law_part"]
abbrev P_law_read : List Str := ["_law_text"]
theorem sc_law_read : FnScope N_law_read P_law_read (defScope s_law_read) := ⟨rfl, rfl, rfl, by decide +kernel, rfl, by decide +kernel, by decide +kernel⟩
def wordsR : List (Key × V) := [(.inr "*", .str "both"), (.inr "|", .str "between"), (.inr "&", .str "offered"), (.inr "+", .str "chosen")]
def spRead (K : PySem.W.Frag) : Sp := fun vs H Q _ => ∃ (cs : List Nat) (ts : List FT), vs = [.str (Z cs)] ∧ Gp (rowToks ts) cs ∧ 1 ≤ ts.length ∧ (∀ t ∈ ts, t.Ok) ∧ (rowToks ts).length ≤ 6000 ∧ 12 * cs.length + 100 ≤ sizeLine ∧
  ∀ H' p vs', Same H H' → H' p = some (.lst vs') → Paired (fun v t => PartV K H' t v) vs' ts → Q (.ref p) H'
theorem wordsR_get (s : Sg) : valV (mergeK [] wordsR) (.inr (Z [s.code])) = some (.str s.word) := by cases s <;> rfl
theorem rst_cl {s s' : RS} (h : rst s .cl = some s') : ∃ t pp l, fold6 s.top = some t ∧ s.pre = pp ++ [l] ∧ s' = ⟨s.out, pp, l ++ [.pt t]⟩ := by
  unfold rst at h
  cases e1 : fold6 s.top with
  | none => simp [e1] at h
  | some t =>
    cases e2 : s.pre.getLast? with
    | none => simp [e1, e2] at h
    | some l =>
      simp [e1, e2] at h
      have ne : s.pre ≠ [] := fun z => by rw [z] at e2; cases e2
      have e3 : s.pre.getLast ne = l := by
        rw [List.getLast?_eq_getLast ne] at e2
        exact Option.some.inj e2
      exact ⟨t, s.pre.dropLast, l, rfl, by rw [← e3]; exact (List.dropLast_concat_getLast ne).symm, h.symm⟩
theorem rst_cm {s s' : RS} (h : rst s .cm = some s') : ∃ t, fold6 s.top = some t ∧ s' = ⟨s.out ++ [t], s.pre, []⟩ := by
  unfold rst at h
  cases e1 : fold6 s.top with
  | none => simp [e1] at h
  | some t =>
    simp [e1] at h
    exact ⟨t, rfl, h.symm⟩
theorem nm_ne {co : Bool} {n : List Nat} (h : isName (Z n) = true) {c : Nat} (hc : c ∈ signsC) : ¬ V.str (Z (leafS co n)) = V.str (Z [c]) := fun e => by
  have e1 : leafS co n = [c] := congrArg (fun z : Str => z.cps.toList) (V.str.inj e)
  have := (leafS_plain (co := co) h).2 c (by rw [e1]; simp)
  exact this.1 hc
theorem wordsR_none {co : Bool} {n : List Nat} (h : isName (Z n) = true) : valV (mergeK [] wordsR) (.inr (Z (leafS co n))) = none := by
  have em : mergeK [] wordsR = wordsR := rfl
  rw [em]
  unfold valV
  have : wordsR.find? (fun kv => decide (kv.1 = (Sum.inr (Z (leafS co n)) : Key))) = none := by
    rw [List.find?_eq_none]
    intro kv m e
    have e := of_decide_eq_true e
    have k : ∀ c, c ∈ signsC → kv.1 = (Sum.inr (Z [c]) : Key) → False := fun c hc z => nm_ne (co := co) h hc (by
      rw [z] at e
      rw [Sum.inr.inj e])
    unfold wordsR at m
    simp only [List.mem_cons, List.not_mem_nil, or_false] at m
    rcases m with rfl | rfl | rfl | rfl
    · exact k 42 (by decide) rfl
    · exact k 124 (by decide) rfl
    · exact k 38 (by decide) rfl
    · exact k 43 (by decide) rfl
  rw [this]
  rfl
theorem cut_tilde (n : List Nat) : cutS (Z (n ++ [126])) none (some (-1)) = Z n := by
  unfold cutS
  have e1 : HT.sIx (Z (n ++ [126])).length 0 none = 0 := rfl
  have e2 : HT.sIx (Z (n ++ [126])).length (Z (n ++ [126])).length (some (-1)) = n.length := by
    rw [Z_len, List.length_append]
    unfold HT.sIx
    simp
    omega
  rw [e1, e2]
  show (⟨(((n ++ [126]).drop 0).take (n.length - 0)).toArray⟩ : Str) = Z n
  simp
theorem toks_pos (h : Bool) (t : FT) : 1 ≤ (toks h t).length := by
  cases t with
  | leaf co n => cases h <;> exact Nat.le_refl _
  | node s l r =>
    cases h with
    | true =>
      show 1 ≤ ([40] :: (toks true l ++ ([s.code] :: toks true r) ++ [[41]])).length
      simp
    | false =>
      show 1 ≤ (toks true l ++ ([s.code] :: toks true r)).length
      simp
      omega
theorem row_len (ts : List FT) : ts.length ≤ (rowToks ts).length := by
  have more : ∀ ts : List FT, ts.length ≤ (moreToks ts).length := fun ts => by
    induction ts with
    | nil => exact Nat.zero_le _
    | cons t ts ih =>
      unfold moreToks at ih ⊢
      rw [List.map_cons, List.flatten_cons, List.length_append, List.length_cons, List.length_cons]
      omega
  cases ts with
  | nil => exact Nat.zero_le _
  | cons t ts =>
    show ts.length + 1 ≤ (toks false t ++ moreToks ts).length
    rw [List.length_append]
    have := more ts
    have := toks_pos false t
    omega
theorem map_last (bs : List Addr) (b : Addr) : ((bs ++ [b]).map V.ref)[((bs ++ [b]).map V.ref).length - 1]? = some (.ref b) ∧ ((bs ++ [b]).map V.ref).dropLast = bs.map V.ref := by
  rw [List.map_append]
  constructor
  · simp
  · exact List.dropLast_concat
theorem map_at (bs : List Addr) (b : Addr) : atI ((bs ++ [b]).map V.ref) (-1) = some (.ref b) := by
  rw [List.map_append]
  exact atI_last _ _
section
variable {P : Program} {w : World} {K : PySem.W.Frag} {mg : Str → Option Value} {base : Heap} {f : Addr} {fd : FuncData}
theorem ok_law_read (T : Txt K mg) (F : Fun K "_law_read" "_law_read" s_law_read f fd) (C_law_folded : Cal P w K mg base "_law_folded" 1 P_law_folded (spFolded K)) : FnOk P w K mg base CX0 2 f fd P_law_read (spRead K) := by
  refine F.ok sc_law_read (fun vs H Q E h => ?_) (fun cdv A outer s H vs Q E hr h => ?_)
  · obtain ⟨cs, ts, rfl, _⟩ := h
    rfl
  obtain ⟨cs, ts, rfl, hg, h1, hok, hn, hl, q⟩ := h
  refine ⟨_, (pss_cons (Rpl.ps_repl (i := 0) (k := 1) PassesOwn.never rfl sc_law_read.nd rfl rfl (by decide) rfl rfl (by decide +kernel) (by decide +kernel) (by decide +kernel) (by decide) (by decide) (by decide) rfl rfl rfl rfl)
  (pss_cons (ps_par3 (i := 2) (j := 3) (l := 4) (by rfl) sc_law_read.nd rfl rfl rfl (by decide) (by decide) (by decide) rfl rfl rfl (pa_cons (pe_disp (pps_cons pe_str pe_str (pps_cons pe_str pe_str (pps_cons pe_str pe_str (pps_cons pe_str pe_str pps_nil)))) (by rfl) (by rfl) (fun z => by cases z) (by decide)) (pa_cons (pe_lst (pa_cons (pe_lst pa_nil) pa_nil)) (pa_cons (pe_lst pa_nil) pa_nil))) (by rfl))
  (pss_cons (ps_for PassesOwn.never rfl (pi_list (pe_words (pv 0))) (pg_name (i := 5) sc_law_read.nd rfl (Or.inl rfl))
    (pss_one (ps_if (pt_cmpR op_eq (pv 5) pe_str (nomark _))
      (pss_one (ps_expr (pe_bm PySem.F.plainAttrs_list PySem.F.slot_list_append PySem.F.type_list_append mt_append (pv 3) (pa_cons (pe_lst pa_nil) pa_nil))))
      (pss_one (ps_if (pt_cmpR op_eq (pv 5) pe_str (nomark _))
        (pss_cons (ps_set (i := 6) sc_law_read.nd rfl (Or.inl rfl) (pe_callC C_law_folded hr (pa_cons (pe_bm0 PySem.F.plainAttrs_list PySem.F.slot_list_pop PySem.F.type_list_pop mt_pop (pv 3)) pa_nil)))
        (pss_one (ps_expr (pe_bm PySem.F.plainAttrs_list PySem.F.slot_list_append PySem.F.type_list_append mt_append (pe_ix ix_list (pv 3) (pe_un un_neg pe_int) (fun _ _ => rfl)) (pa_cons (pv 6) pa_nil)))))
        (pss_one (ps_if (pt_cmpR op_eq (pv 5) pe_str (nomark _))
          (pss_cons (ps_expr (pe_bm PySem.F.plainAttrs_list PySem.F.slot_list_append PySem.F.type_list_append mt_append (pv 4) (pa_cons (pe_callC C_law_folded hr (pa_cons (pe_bm0 PySem.F.plainAttrs_list PySem.F.slot_list_pop PySem.F.type_list_pop mt_pop (pv 3)) pa_nil)) pa_nil)))
          (pss_one (ps_expr (pe_bm PySem.F.plainAttrs_list PySem.F.slot_list_append PySem.F.type_list_append mt_append (pv 3) (pa_cons (pe_lst pa_nil) pa_nil)))))
          (pss_one (ps_if (pt_cmp (pc_din (hu_of hr) (pv 5) (pv 2)))
            (pss_one (ps_expr (pe_bm PySem.F.plainAttrs_list PySem.F.slot_list_append PySem.F.type_list_append mt_append (pe_ix ix_list (pv 3) (pe_un un_neg pe_int) (fun _ _ => rfl)) (pa_cons (pe_dget (hu_of hr) (pv 2) (pv 5) (fun _ _ => rfl)) pa_nil))))
            (pss_one (ps_if (pt_cmpR op_eq (pe_ix ix_str (pv 5) (pe_un un_neg pe_int) (fun _ _ => rfl)) pe_str (nomark _))
              (pss_one (ps_expr (pe_bm PySem.F.plainAttrs_list PySem.F.slot_list_append PySem.F.type_list_append mt_append (pe_ix ix_list (pv 3) (pe_un un_neg pe_int) (fun _ _ => rfl)) (pa_cons (pe_tupN (pa_cons (pe_tupN (pa_cons pe_str (pa_cons (pe_slice sl_str (pv 5) po_none (po_some (pe_un un_neg pe_int))) pa_nil))) (pa_cons pe_int pa_nil))) pa_nil))))
              (pss_one (ps_expr (pe_bm PySem.F.plainAttrs_list PySem.F.slot_list_append PySem.F.type_list_append mt_append (pe_ix ix_list (pv 3) (pe_un un_neg pe_int) (fun _ _ => rfl)) (pa_cons (pe_tupN (pa_cons (pe_tupN (pa_cons pe_str (pa_cons (pv 5) pa_nil))) (pa_cons pe_int pa_nil))) pa_nil)))))))))))))))
  (pss_one (ps_ret (pe_op op_catLN (pv 4) (pe_lstN (pa_cons (pe_callC C_law_folded hr (pa_cons (pe_bm0 PySem.F.plainAttrs_list PySem.F.slot_list_pop PySem.F.type_list_pop mt_pop (pv 3)) pa_nil)) pa_nil)))))))), ?_⟩
  have hb : sizeLine ≤ 16777216 := by decide
  refine ⟨cs, rfl, by omega, ?_⟩
  intro W nW
  refine ⟨upd_same, wordsR, rfl, by decide, ?_⟩
  have s1 : Same H (upd (upd H W (.dK [])) W (.dK (mergeK [] wordsR))) := same_disp nW
  have eW : upd (upd H W (.dK [])) W (.dK (mergeK [] wordsR)) W = some (.dK (mergeK [] wordsR)) := upd_same
  generalize upd (upd H W (.dK [])) W (.dK (mergeK [] wordsR)) = H1 at *
  refine ⟨Nat.zero_le _, fun A nA => ⟨(by show 1 ≤ sizeLine; decide), fun L nL => ⟨Nat.zero_le _, fun O nO => ⟨_, _, _, rfl, ?_⟩⟩⟩⟩
  have s2 := same_new nA (.lst [])
  have s3 := same_new nL (.lst [V.ref A])
  have s4 := same_new nO (.lst [])
  have eA : upd (upd (upd H1 A (.lst [])) L (.lst [V.ref A])) O (.lst []) A = some (.lst []) := s4 _ _ (s3 _ _ upd_same)
  have eL : upd (upd (upd H1 A (.lst [])) L (.lst [V.ref A])) O (.lst []) L = some (.lst [V.ref A]) := s4 _ _ upd_same
  have eO : upd (upd (upd H1 A (.lst [])) L (.lst [V.ref A])) O (.lst []) O = some (.lst []) := upd_same
  have fA : H A = none := s1.free nA
  have fL : H L = none := (s1.trans s2).free nL
  have fO : H O = none := ((s1.trans s2).trans s3).free nO
  have AL : L ≠ A := fun z => by
    subst z
    rw [upd_same] at nL
    cases nL
  have OA : O ≠ A := fun z => by
    subst z
    rw [s3 _ _ upd_same] at nO
    cases nO
  have LO : L ≠ O := fun z => by
    subst z
    rw [upd_same] at nO
    cases nO
  have sA := ((s1.trans s2).trans s3).trans s4
  have eW4 := s4 _ _ (s3 _ _ (s2 _ _ eW))
  generalize upd (upd (upd H1 A (.lst [])) L (.lst [V.ref A])) O (.lst []) = H4 at *
  have st0 : Sta K H H4 L O [] [[]] 0 [A] [] := ⟨eL, eO, .nil, .cons ⟨[], eA, .nil⟩ .nil, by simp, by simp [AL], by simp [OA], LO, fL, fO, by simp [fA], sA, by simp, by simp, by simp⟩
  clear eA eL eO AL OA LO s2 s3 s4 nL nO nA eW
  have hsl := Rpl.spaced_len signsC cs
  refine ⟨_, rfl, ⟨_, rfl⟩, Rpl.ZZ (Rpl.spaced signsC cs), rfl, rfl, by rw [Rpl.ZZ_len]; omega, fun p np => ⟨p, rfl, ⟨_, SqL.of upd_same⟩, ?_⟩⟩
  rw [words_text hok hg]
  have s5 := same_new np (.lst (((rowToks ts).map Z).map V.str))
  have ep : upd H4 p (.lst (((rowToks ts).map Z).map V.str)) p = some (.lst (((rowToks ts).map Z).map V.str)) := upd_same
  have pL : p ≠ L := fun z => by rw [z, st0.hL] at np; cases np
  have pO : p ≠ O := fun z => by rw [z, st0.hO] at np; cases np
  have pA : p ∉ [A] := fun m => by
    have hp := st0.pp
    cases hp with | cons h1 _ =>
    obtain ⟨vs, e, _⟩ := h1
    rw [List.mem_singleton.mp m, e] at np
    cases np
  have st5 := st0.same s5
  have eW5 := s5 _ _ eW4
  generalize upd H4 p (.lst (((rowToks ts).map Z).map V.str)) = H5 at *
  clear s5 np eW4 st0 sA fA
  obtain ⟨u, vl, r1, r2, r3, r4⟩ := rrun_row h1
  have eks : ((rowToks ts).map Z).map V.str = (rowTks ts).map fun k => V.str (Z k.txt) := by
    rw [← rowTks_txt, List.map_map, List.map_map]
    rfl
  rw [eks] at ep
  have ksn : (rowTks ts).length ≤ 6000 := by
    have := congrArg List.length (rowTks_txt ts)
    rw [List.length_map] at this
    omega
  have kok := rowTks_ok ts hok
  generalize rowTks ts = ks at *
  refine for_it (walk_list (xs := ks.map fun k => V.str (Z k.txt))) (fun i σ H' => ∃ (s : RS) (as : List Addr) (ovs : List V) (o5 o6 : Option V), σ = [some (.str (Rpl.ZZ (Rpl.spaced signsC cs))), none, some (.ref W), some (.ref L), some (.ref O), o5, o6] ∧ Sta K H H' L O s.out (s.pre ++ [s.top]) (2 * i) as ovs ∧ H' p = some (.lst (ks.map fun k => V.str (Z k.txt))) ∧ p ∉ as ∧ H' W = some (.dK (mergeK [] wordsR)) ∧ rrun s (ks.drop i) = some u)
    ⟨⟨[], [], []⟩, [A], [], none, none, rfl, st5, ep, pA, eW5, r1⟩ (fun i σ H' _ ⟨_, _, _, _, _, _, _, h, _⟩ => SqL.of h) (fun i x σ H6 H7 hi pv y => ?_) (fun σ H' pv => ?_)
  · obtain ⟨rfl, hx⟩ := y
    obtain ⟨s, as, ovs, o5, o6, rfl, st, hp, pas, hW, hru⟩ := pv
    rw [List.length_map] at hi
    obtain ⟨k, hk, rfl⟩ : ∃ k, ks[i]? = some k ∧ x = .str (Z k.txt) := by
      rw [List.getElem?_map] at hx
      cases e : ks[i]? with
      | none => rw [e] at hx; cases hx
      | some k =>
        rw [e] at hx
        exact ⟨k, rfl, (Option.some.inj hx).symm⟩
    have hdrop : ks.drop i = k :: ks.drop (i + 1) := by
      rw [List.drop_eq_getElem_cons hi]
      congr 1
      have := List.getElem?_eq_getElem hi
      rw [hk] at this
      exact (Option.some.inj this).symm
    rw [hdrop] at hru
    obtain ⟨s', hs', hru⟩ : ∃ s', rst s k = some s' ∧ rrun s' (ks.drop (i + 1)) = some u := by
      have hru : (match rst s k with | some t => rrun t (ks.drop (i + 1)) | none => none) = some u := hru
      cases e : rst s k with
      | none => rw [e] at hru; cases hru
      | some s' =>
        rw [e] at hru
        exact ⟨s', rfl, hru⟩
    have fin : ∀ (as' : List Addr) (ovs' : List V) (H' : Hp) (o6 : Option V), Sta K H H' L O s'.out (s'.pre ++ [s'.top]) (2 * (i + 1)) as' ovs' → H' p = some (.lst (ks.map fun k => V.str (Z k.txt))) → p ∉ as' → H' W = some (.dK (mergeK [] wordsR)) →
        ∃ (s : RS) (as : List Addr) (ovs : List V) (o5' o6' : Option V), [some (V.str (Rpl.ZZ (Rpl.spaced signsC cs))), none, some (.ref W), some (.ref L), some (.ref O), some (.str (Z k.txt)), o6] = [some (V.str (Rpl.ZZ (Rpl.spaced signsC cs))), none, some (.ref W), some (.ref L), some (.ref O), o5', o6'] ∧ Sta K H H' L O s.out (s.pre ++ [s.top]) (2 * (i + 1)) as ovs ∧ H' p = some (.lst (ks.map fun k => V.str (Z k.txt))) ∧ p ∉ as ∧ H' W = some (.dK (mergeK [] wordsR)) ∧ rrun s (ks.drop (i + 1)) = some u :=
      fun as' ovs' H' o6 g1 g2 g3 g4 => ⟨s', as', ovs', _, o6, rfl, g1, g2, g3, g4, hru⟩
    have okk := kok k (List.mem_of_getElem? hk)
    have i900 : i < 6000 := by omega
    have WL : W ≠ L := fun z => by rw [z, st.hL] at hW; cases hW
    have WO : W ≠ O := fun z => by rw [z, st.hO] at hW; cases hW
    obtain ⟨bs, b, rfl, hbs, ⟨vs, eb, hvs⟩⟩ := st.last
    have Wb : W ≠ b := fun z => by rw [z, eb] at hW; cases hW
    have pb : p ≠ b := fun z => pas (by rw [z]; simp)
    have lvs := paired_len hvs
    have b4t := st.b4 s.top (by simp)
    refine ⟨_, rfl, rfl, _, rfl, ?_⟩
    cases k with
    | op =>
      cases hs'
      refine ite2 (fun _ => ?_) (fun c => absurd (by decide +kernel) c)
      refine ⟨_, rfl, .inl ⟨rfl, _, SqL.of st.hL⟩, Nat.zero_le _, fun c nc => ?_⟩
      have h1 := same_new nc (.lst [])
      refine ⟨L, _, _, rfl, rfl, h1 _ _ st.hL, ?_, ?_⟩
      · rw [List.length_map]
        have := st.b1
        have : sizeLine > 100000 := by decide
        omega
      have e1 : (bs ++ [b]).map V.ref ++ [.ref c] = (bs ++ [b] ++ [c]).map V.ref := by
        rw [List.map_append (l₂ := [c])]
        rfl
      rw [e1]
      have cp : p ≠ c := fun z => by rw [z, nc] at hp; cases hp
      refine fin (bs ++ [b] ++ [c]) ovs _ _ ((st.push nc).mono (by omega)) ?_ ?_ ?_
      · rw [upd_ne pL, upd_ne cp]
        exact hp
      · intro m
        rcases List.mem_append.mp m with m | m
        · exact pas m
        · exact cp (List.mem_singleton.mp m)
      · rw [upd_ne WL]
        exact h1 _ _ hW
    | cl =>
      refine ite2 (fun c => absurd c (by decide +kernel)) (fun _ => ?_)
      refine ⟨_, rfl, rfl, _, rfl, ?_⟩
      refine ite2 (fun _ => ?_) (fun c => absurd (by decide +kernel) c)
      obtain ⟨t, pp, l, ft, epre, rfl⟩ := rst_cl hs'
      obtain ⟨m1, m2⟩ := map_last bs b
      refine ⟨_, rfl, .inl ⟨rfl, _, SqL.of st.hL⟩, L, _, .ref b, rfl, rfl, st.hL, m1, ?_⟩
      rw [m2]
      have stp := st.pop hbs
      have bL : b ≠ L := fun z => st.nL (by rw [z]; simp)
      have kt := KT.of_lst (ys := bs.map V.ref) st.hL
      refine ⟨b, vs, s.top, t, rfl, SqL.of (by rw [upd_ne bL]; exact eb), paired_imp (fun _ _ q => q.kt kt) hvs, ft, fun H8 v s8 hv => ?_⟩
      have st8 := stp.same s8
      rw [epre] at st8
      obtain ⟨cs2, a2, e2, hcs, ⟨vs2, ea2, hvs2⟩⟩ := st8.last
      subst e2
      have l2 := paired_len hvs2
      have b4l := st8.b4 l (by simp)
      refine ⟨_, rfl, 1, rfl, L, _, _, .ref a2, rfl, rfl, SqL.of st8.hL, map_at cs2 a2, .inl ⟨rfl, _, SqL.of ea2⟩, _, rfl, a2, vs2, v, rfl, rfl, ea2, ?_, ?_⟩
      · have : sizeLine > 100000 := by decide
        omega
      have pa2 : p ≠ a2 := fun z => pas (by rw [z]; simp)
      have Wa2 : W ≠ a2 := fun z => by
        have := s8 _ _ (show upd H7 L (.lst ((cs2 ++ [a2]).map V.ref)) W = _ by rw [upd_ne WL]; exact hW)
        rw [z, ea2] at this
        cases this
      refine fin (cs2 ++ [a2]) ovs _ _ ((st8.add hcs ea2 hvs2 (it := .pt t) hv).mono (by omega)) ?_ (fun m => pas (List.mem_append_left _ m)) ?_
      · rw [upd_ne pa2]
        exact s8 _ _ (by rw [upd_ne pL]; exact hp)
      · rw [upd_ne Wa2]
        exact s8 _ _ (by rw [upd_ne WL]; exact hW)
    | cm =>
      refine ite2 (fun c => absurd c (by decide +kernel)) (fun _ => ?_)
      refine ⟨_, rfl, rfl, _, rfl, ?_⟩
      refine ite2 (fun c => absurd c (by decide +kernel)) (fun _ => ?_)
      refine ⟨_, rfl, rfl, _, rfl, ?_⟩
      refine ite2 (fun _ => ?_) (fun c => absurd (by decide +kernel) c)
      obtain ⟨t, ft, rfl⟩ := rst_cm hs'
      obtain ⟨m1, m2⟩ := map_last bs b
      refine ⟨_, rfl, .inl ⟨rfl, _, SqL.of st.hO⟩, _, rfl, .inl ⟨rfl, _, SqL.of st.hL⟩, L, _, .ref b, rfl, rfl, st.hL, m1, ?_⟩
      rw [m2]
      have stp := st.pop hbs
      have bL : b ≠ L := fun z => st.nL (by rw [z]; simp)
      have kt := KT.of_lst (ys := bs.map V.ref) st.hL
      refine ⟨b, vs, s.top, t, rfl, SqL.of (by rw [upd_ne bL]; exact eb), paired_imp (fun _ _ q => q.kt kt) hvs, ft, fun H8 v s8 hv => ?_⟩
      have st8 := stp.same s8
      have hp8 : H8 p = some (.lst (ks.map fun k => V.str (Z k.txt))) := s8 _ _ (by rw [upd_ne pL]; exact hp)
      have hW8 : H8 W = some (.dK (mergeK [] wordsR)) := s8 _ _ (by rw [upd_ne WL]; exact hW)
      have lov := paired_len st8.po
      have b2 := st8.b2
      refine ⟨O, ovs, v, rfl, rfl, st8.hO, ?_, ?_⟩
      · have : sizeLine > 100000 := by decide
        omega
      have st9 := st8.outs hv
      have hp9 : upd H8 O (.lst (ovs ++ [v])) p = some (.lst (ks.map fun k => V.str (Z k.txt))) := by rw [upd_ne pO]; exact hp8
      have hW9 : upd H8 O (.lst (ovs ++ [v])) W = some (.dK (mergeK [] wordsR)) := by rw [upd_ne WO]; exact hW8
      generalize upd H8 O (.lst (ovs ++ [v])) = H9 at *
      refine ⟨_, rfl, .inl ⟨rfl, _, SqL.of st9.hL⟩, Nat.zero_le _, fun c nc => ?_⟩
      have h1 := same_new nc (.lst [])
      refine ⟨L, _, _, rfl, rfl, h1 _ _ st9.hL, ?_, ?_⟩
      · rw [List.length_map]
        have := st8.b1
        have : sizeLine > 100000 := by decide
        omega
      have e1 : bs.map V.ref ++ [.ref c] = (bs ++ [c]).map V.ref := by
        rw [List.map_append]
        rfl
      rw [e1]
      have cp : p ≠ c := fun z => by rw [z, nc] at hp9; cases hp9
      refine fin (bs ++ [c]) _ _ _ ((st9.push nc).mono (by omega)) ?_ ?_ ?_
      · rw [upd_ne pL, upd_ne cp]
        exact hp9
      · intro m
        rcases List.mem_append.mp m with m | m
        · exact pas (List.mem_append_left _ m)
        · exact cp (List.mem_singleton.mp m)
      · rw [upd_ne WL]
        exact h1 _ _ hW9
    | sg g =>
      cases hs'
      refine ite2 (fun c => absurd c (by cases g <;> decide +kernel)) (fun _ => ?_)
      refine ⟨_, rfl, rfl, _, rfl, ?_⟩
      refine ite2 (fun c => absurd c (by cases g <;> decide +kernel)) (fun _ => ?_)
      refine ⟨_, rfl, rfl, _, rfl, ?_⟩
      refine ite2 (fun c => absurd c (by cases g <;> decide +kernel)) (fun _ => ?_)
      refine ⟨_, rfl, _, rfl, W, _, rfl, DGet.k (k := Sum.inr (Z [g.code])) hW, _, rfl, ?_⟩
      rw [wordsR_get]
      refine iteT ⟨_, rfl, 1, rfl, L, _, _, .ref b, rfl, rfl, SqL.of st.hL, map_at bs b, .inl ⟨rfl, _, SqL.of eb⟩, _, rfl, _, rfl, W, .str g.word, rfl, .inl ⟨_, .inr (Z [g.code]), .inl hW, rfl, (wordsR_get g).symm⟩, b, vs, .str g.word, rfl, rfl, eb, ?_, ?_⟩
      · have : sizeLine > 100000 := by decide
        omega
      refine fin (bs ++ [b]) ovs _ _ ((st.add hbs eb hvs (it := .wd g) rfl).mono (by omega)) ?_ pas ?_
      · rw [upd_ne pb]
        exact hp
      · rw [upd_ne Wb]
        exact hW
    | nm co n =>
      cases hs'
      have okn : isName (Z n) = true := okk
      refine ite2 (fun c => absurd (of_decide_eq_true c) (nm_ne (c := 40) okn (by decide))) (fun _ => ?_)
      refine ⟨_, rfl, rfl, _, rfl, ?_⟩
      refine ite2 (fun c => absurd (of_decide_eq_true c) (nm_ne (c := 41) okn (by decide))) (fun _ => ?_)
      refine ⟨_, rfl, rfl, _, rfl, ?_⟩
      refine ite2 (fun c => absurd (of_decide_eq_true c) (nm_ne (c := 44) okn (by decide))) (fun _ => ?_)
      refine ⟨_, rfl, _, rfl, W, _, rfl, DGet.k (k := Sum.inr (Z (leafS co n))) hW, _, rfl, ?_⟩
      rw [wordsR_none okn]
      refine iteF ?_
      have n12 : n.length ≤ 12 ∧ 1 ≤ n.length := by
        have hn2 : (decide (1 ≤ (Z n).length ∧ (Z n).length ≤ 12) && ((Z n).cps.toList.head?.any isL && (Z n).cps.toList.all isLD)) = true := okn
        rw [Z_len, Bool.and_eq_true, decide_eq_true_eq] at hn2
        exact ⟨hn2.1.2, hn2.1.1⟩
      have fin2 : ∀ (H9 : Hp) (p4 p5 : Addr), Same H7 H9 → SqT K H9 p4 [.str (leafZ co), .str (Z n)] → SqT K H9 p5 [.ref p4, .int 0] →
          Sta K H (upd H9 b (.lst (vs ++ [.ref p5]))) L O s.out (s.pre ++ [s.top ++ [.pt (.leaf co n)]]) (2 * (i + 1)) (bs ++ [b]) ovs ∧ upd H9 b (.lst (vs ++ [.ref p5])) p = some (.lst (ks.map fun k => V.str (Z k.txt))) ∧ upd H9 b (.lst (vs ++ [.ref p5])) W = some (.dK (mergeK [] wordsR)) := fun H9 p4 p5 s9 e4 e5 => by
        have st9 := st.same s9
        refine ⟨(st9.add (paired_imp (fun _ _ q => q.kt (Same.kt s9) fun o e => s9 _ _ e) hbs) (s9 _ _ eb) (paired_imp (fun _ _ q => q.kt (Same.kt s9)) hvs) (it := .pt (.leaf co n)) ⟨p5, .ref p4, rfl, e5, p4, rfl, e4⟩).mono (by omega), ?_, ?_⟩
        · rw [upd_ne pb]
          exact s9 _ _ hp
        · rw [upd_ne Wb]
          exact s9 _ _ hW
      have big : sizeLine > 100000 := by decide
      cases co with
      | true =>
        refine ⟨_, rfl, 1, rfl, Z (n ++ [126]), _, 126, rfl, rfl, by rw [Z_len, List.length_append]; simp; omega, atI_last n 126, rfl, _, rfl, ?_⟩
        refine ite2 (fun _ => ?_) (fun c => absurd (by decide +kernel) c)
        refine ⟨_, rfl, 1, rfl, L, _, _, .ref b, rfl, rfl, SqL.of st.hL, map_at bs b, .inl ⟨rfl, _, SqL.of eb⟩, _, rfl, 1, rfl, _, rfl, Z (n ++ [126]), rfl, by rw [Z_len, List.length_append]; simp; omega, le1k, fun p4 H8 s8 e8 => ⟨le1k, fun p5 H9 s9 e9 => ?_⟩⟩
        have e8 : SqT K H8 p4 [.str (leafZ true), .str (cutS (Z (n ++ [126])) none (some (-1)))] := e8
        rw [cut_tilde] at e8
        obtain ⟨g1, g2, g3⟩ := fin2 H9 p4 p5 (s8.trans s9) ((Same.kt s9).seq e8) e9
        exact ⟨b, vs, .ref p5, rfl, rfl, s9 _ _ (s8 _ _ eb), by omega, fin (bs ++ [b]) ovs _ _ g1 g2 pas g3⟩
      | false =>
        obtain ⟨m, x, rfl⟩ : ∃ m x, n = m ++ [x] := by
          rcases List.eq_nil_or_concat n with e | ⟨m, x, e⟩
          · rw [e] at n12
            simp at n12
          · exact ⟨m, x, by rw [e]; simp⟩
        have e0 : leafS false (m ++ [x]) = m ++ [x] := List.append_nil _
        have x126 : x ≠ 126 := fun z => by
          have := (leafS_plain (co := false) okn).2
          have hn2 : (decide (1 ≤ (Z (m ++ [x])).length ∧ (Z (m ++ [x])).length ≤ 12) && ((Z (m ++ [x])).cps.toList.head?.any isL && (m ++ [x]).all isLD)) = true := okn
          rw [Bool.and_eq_true, Bool.and_eq_true] at hn2
          have := List.all_eq_true.mp hn2.2.2 x (by simp)
          rw [z] at this
          exact absurd this (by decide +kernel)
        have ez : Z (leafS false (m ++ [x])) = Z (m ++ [x]) := by rw [e0]
        refine ⟨_, rfl, 1, rfl, Z (leafS false (m ++ [x])), _, x, rfl, rfl, by rw [ez, Z_len]; omega, by rw [ez]; exact atI_last m x, rfl, _, rfl, ?_⟩
        refine ite2 (fun c => absurd (of_decide_eq_true ((sign_dec x 126).symm.trans c)) x126) (fun _ => ?_)
        refine ⟨_, rfl, 1, rfl, L, _, _, .ref b, rfl, rfl, SqL.of st.hL, map_at bs b, .inl ⟨rfl, _, SqL.of eb⟩, _, rfl, le1k, fun p4 H8 s8 e8 => ⟨le1k, fun p5 H9 s9 e9 => ?_⟩⟩
        have e8 : SqT K H8 p4 [.str (leafZ false), .str (Z (leafS false (m ++ [x])))] := e8
        rw [ez] at e8
        obtain ⟨g1, g2, g3⟩ := fin2 H9 p4 p5 (s8.trans s9) ((Same.kt s9).seq e8) e9
        exact ⟨b, vs, .ref p5, rfl, rfl, s9 _ _ (s8 _ _ eb), by omega, fin (bs ++ [b]) ovs _ _ g1 g2 pas g3⟩
  · obtain ⟨s, as, ovs, o5, o6, rfl, st, hp, pas, hW, hru⟩ := pv
    rw [List.length_map, List.drop_length] at hru
    have : s = u := Option.some.inj hru
    subst this
    rw [List.length_map] at st
    obtain ⟨bs, b, rfl, hbs, ⟨vs, eb, hvs⟩⟩ := st.last
    obtain ⟨m1, m2⟩ := map_last bs b
    refine ⟨_, rfl, _, rfl, .inl ⟨rfl, _, SqL.of st.hL⟩, L, _, .ref b, rfl, rfl, st.hL, m1, ?_⟩
    rw [m2]
    have stp := st.pop hbs
    have bL : b ≠ L := fun z => st.nL (by rw [z]; simp)
    have kt := KT.of_lst (ys := bs.map V.ref) st.hL
    refine ⟨b, vs, s.top, vl, rfl, SqL.of (by rw [upd_ne bL]; exact eb), paired_imp (fun _ _ q => q.kt kt) hvs, r3, fun H8 v s8 hv => ?_⟩
    have st8 := stp.same s8
    refine ⟨le1k, fun p9 H9 s9 e9 => ⟨O, p9, ovs, [v], rfl, rfl, s9 _ _ st8.hO, e9, ?_, fun p10 H10 s10 e10 => ?_⟩⟩
    · have lov := paired_len st8.po
      have lts : ts.length = s.out.length + 1 := by
        have := congrArg List.length r4
        rw [List.length_append] at this
        simp at this
        omega
      show ovs.length + 1 ≤ 10000
      have := row_len ts
      omega
    · refine q H10 p10 _ ((st8.sm.trans s9).trans s10) e10 ?_
      rw [← r4]
      have k := Same.kt (s9.trans s10)
      exact paired_app (paired_imp (fun _ _ h => h.kt k) st8.po) (.cons (hv.kt k) .nil)
end
end My

set_option Elab.async false
set_option linter.all false
set_option maxRecDepth 100000
namespace My
open PySem L2
abbrev s_law_read_due : Stmt := top 50
abbrev N_law_read_due : List Str := ["_law_text", "_law_is_row", "_law_at", "_law_is_whole", "_law_forms", "_law_ends", "_law_form", "_law_tall"]
abbrev P_law_read_due : List Str := ["_law_text", "_law_is_row"]
theorem sc_law_read_due : FnScope N_law_read_due P_law_read_due (defScope s_law_read_due) := ⟨rfl, rfl, rfl, by decide +kernel, rfl, by decide +kernel, by decide +kernel⟩
/-- what is due of a row -/
def spReadDue (K : PySem.W.Frag) : Sp := fun vs H Q _ => ∃ (cs : List Nat) (ts : List FT), vs = [.str (Z cs), .bl true] ∧ Gp (rowToks ts) cs ∧ 1 ≤ ts.length ∧ (∀ t ∈ ts, t.Ok) ∧ (rowToks ts).length ≤ 6000 ∧ 12 * cs.length + 100 ≤ sizeLine ∧ lvsL ts ≤ 10000 ∧
  (∀ H' p, Same H H' → (∃ t ∈ ts, 12 < t.dep) → SqT K H' p [.str "deep", .int 12] → Q (.ref p) H') ∧ (∀ H' p, Same H H' → (∀ t ∈ ts, t.dep ≤ 12) → 40 < lvsL ts → SqT K H' p [.str "many", .int 40] → Q (.ref p) H') ∧
  (∀ H' p v, Same H H' → (∀ t ∈ ts, t.dep ≤ 12) → lvsL ts ≤ 40 → SqT K H' p [.str "told", v] → Q (.ref p) H')
theorem lvs_one : ∀ t : FT, (lvs t.data).length = t.lvs
  | .leaf co n => by
    show (lvs (.tuple [.str (leafZ co), .str (Z n)])).length = 1
    rw [lvs2]
    rfl
  | .node s l r => by
    show (lvs (.tuple [.str s.word, l.data, r.data])).length = l.lvs + r.lvs
    rw [lvs3, List.length_append, lvs_one l, lvs_one r]
theorem lvs_data : ∀ ts : List FT, ((ts.map FT.data).flatMap lvs).length = lvsL ts
  | [] => rfl
  | t :: ts => by
    have ih := lvs_data ts
    unfold lvsL at ih ⊢
    rw [List.map_cons, List.flatMap_cons, List.length_append, ih, lvs_one, List.map_cons, List.sum_cons]
theorem dp_of_fm {K : PySem.W.Frag} {H : Hp} {xs : List V} {ts : List FT} (h : Paired (fun v t => Fm K H t v) xs ts) : DpAll K H xs (ts.map FT.data) := by
  induction h with
  | nil => exact .nil
  | cons h _ ih => exact .cons (FT.of_fm _ h) ih
section
variable {P : Program} {w : World} {K : PySem.W.Frag} {mg : Str → Option Value} {base : Heap} {f : Addr} {fd : FuncData}
theorem ok_law_read_due (T : Txt K mg) (F : Fun K "_law_read_due" "_law_read_due" s_law_read_due f fd) (C_law_longest : Cal P w K mg base "_law_longest" 1 P_law_longest (spLongest K)) (C_law_read : Cal P w K mg base "_law_read" 2 P_law_read (spRead K)) (C_law_leaf_many : Cal P w K mg base "_law_leaf_many" 14 P_law_leaf_many (spLeafMany K))
    (hD : ∀ t : FT, t.Ok → t.dep ≤ 12 → isForm 12 t.data = true) : FnOk P w K mg base CX0 15 f fd P_law_read_due (spReadDue K) := by
  refine F.ok sc_law_read_due (fun vs H Q E h => ?_) (fun cdv A outer s H vs Q E hr h => ?_)
  · obtain ⟨cs, ts, rfl, _⟩ := h
    rfl
  obtain ⟨cs, ts, rfl, hg, h1, hok, hn, hl, h1000, q1, q2, q3⟩ := h
  refine ⟨_, (pss_cons (ps_asg (pe_callC C_law_longest hr (pa_cons (pv 0) (pa_cons (pv 1) pa_nil))) (pg_tup rfl (pgs_cons (pg_name (i := 2) sc_law_read_due.nd rfl (Or.inl rfl)) (pgs_cons (pg_name (i := 3) sc_law_read_due.nd rfl (Or.inl rfl)) pgs_nil))))
  (pss_cons (ps_if (pt_not (pt_truth (pv 3) (by intro _; rfl)))
    (pss_one (ps_ret (pe_tupN (pa_cons pe_str (pa_cons (pv 2) pa_nil)))))
    pss_nil)
  (pss_cons (ps_set (i := 4) sc_law_read_due.nd rfl (Or.inl rfl) (pe_callC C_law_read hr (pa_cons (pv 0) pa_nil)))
  (pss_cons (ps_if (pt_cmpR op_gt (pe_callB (cr_max rfl) rfl T.max (by decide +kernel) (pa_cons (pe_lc (own := [("_law_form", 6), ("_law_tall", 7)]) (g := gTup K 2 (gCons (gName 6) (gCons (gName 7) gNil))) (te := tVar 7) rfl sc_law_read_due.nd (pi_list (pv 4)) (blkOk_by (own := [("_law_form", 6), ("_law_tall", 7)]) (N := N_law_read_due) (sc := defScope s_law_read_due) (by decide +kernel)) (fun _ _ _ _ _ => (pg_tup rfl (pgs_cons (pg_name (i := 6) sc_law_read_due.nd rfl (Or.inl rfl)) (pgs_cons (pg_name (i := 7) sc_law_read_due.nd rfl (Or.inl rfl)) pgs_nil)))) (fun _ _ _ _ _ => pts_nil) (fun _ _ _ _ _ => (pv 7))) pa_nil)) pe_int (nomark _))
    (pss_one (ps_ret (pe_tupN (pa_cons pe_str (pa_cons pe_int pa_nil)))))
    pss_nil)
  (pss_cons (ps_setLc (i := 5) (own := [("_law_form", 6), ("_law_tall", 7)]) (g := gTup K 2 (gCons (gName 6) (gCons (gName 7) gNil))) (te := tVar 6) rfl sc_law_read_due.nd rfl rfl (sw_true rfl rfl rfl (by decide +kernel)) (pi_list (pv 4)) (blkOk_by (own := [("_law_form", 6), ("_law_tall", 7)]) (N := N_law_read_due) (sc := defScope s_law_read_due) (by decide +kernel)) (fun _ _ _ _ _ => (pg_tup rfl (pgs_cons (pg_name (i := 6) sc_law_read_due.nd rfl (Or.inl rfl)) (pgs_cons (pg_name (i := 7) sc_law_read_due.nd rfl (Or.inl rfl)) pgs_nil)))) (fun _ _ _ _ _ => pts_nil) (fun _ _ _ _ _ => (pv 6)))
  (pss_cons (ps_if (PW.pt (pw_and (pt_truth (pv 1) (by intro _; rfl)) (pw_and1 (pt_cmpR op_gt (pe_callC C_law_leaf_many hr (pa_cons (pv 5) pa_nil)) pe_int (nomark _)))))
    (pss_one (ps_ret (pe_tupN (pa_cons pe_str (pa_cons pe_int pa_nil)))))
    pss_nil)
  (pss_one (ps_ret (pe_tupN (pa_cons pe_str (pa_cons (pe_ifExp (pt_truth (pv 1) (by intro _; rfl)) (pv 5) (pe_ix ix_list (pv 5) pe_int (fun _ _ => rfl))) pa_nil))))))))))), ?_⟩
  have hb : sizeLine > 100000 := by decide
  refine ⟨_, rfl, _, rfl, cs, true, rfl, by omega, fun H1 p1 s1 e1 => ?_⟩
  rw [longest_row h1 hok hg] at e1
  refine ⟨p1, _, rfl, e1, rfl, _, _, rfl, _, _, rfl, rfl, ?_⟩
  refine ⟨_, rfl, true, rfl, iteF ?_⟩
  refine ⟨_, rfl, cs, ts, rfl, hg, h1, hok, hn, hl, fun H2 p2 vs s2 e2 hv => ?_⟩
  have lv := paired_len hv
  have lts : ts.length ≤ 6000 := Nat.le_trans (row_len ts) hn
  refine ⟨_, rfl, p2, rfl, ⟨vs, SqL.of e2⟩, fun D nD => ?_⟩
  refine lc_it (walk_list (xs := vs)) (fun i H' => Same H2 H' ∧ H' D = some (.lst (((ts.take i).map fun t => (t.dep : Int)).map V.int))) ⟨same_new nD _, upd_same⟩ (fun i H' _ p => SqL.of (p.1 _ _ e2)) (fun i y H3 H4 hi p yy => ?_) (fun H3 p => ?_)
  · obtain ⟨rfl, hy⟩ := yy
    obtain ⟨s3, eD⟩ := p
    obtain ⟨t, ht, pq, f0, rfl, hs, hf⟩ := paired_take hv hy
    refine ⟨pq, _, rfl, (Same.kt s3).seq hs, rfl, _, _, rfl, _, _, rfl, rfl, rfl, ?_⟩
    refine ⟨_, rfl, _, eD, small10k (by rw [List.length_map, List.length_map, List.length_take]; omega), same_at s3 nD, ?_⟩
    rw [upd_same, take_next ht, List.map_append, List.map_append]
    rfl
  obtain ⟨s3, eD⟩ := p
  rw [List.take_of_length_le (by omega)] at eD
  refine ⟨D, _, rfl, SqL.of eD, by rw [List.length_map]; omega, fun m hm hle => ?_⟩
  refine ⟨_, _, rfl, rfl, _, rfl, ?_⟩
  have s03 : Same H H3 := (s1.trans s2).trans s3
  obtain ⟨tm, htm, rfl⟩ := List.mem_map.mp hm
  by_cases c : 12 < tm.dep
  · rw [decide_eq_true (by omega)]
    exact iteT ⟨le1k, fun p H4 s4 e4 => q1 H4 p (s03.trans s4) ⟨tm, htm, c⟩ e4⟩
  rw [decide_eq_false (by omega)]
  have all12 : ∀ t ∈ ts, t.dep ≤ 12 := fun t ht => by
    have := hle (t.dep : Int) (List.mem_map.mpr ⟨t, ht, rfl⟩)
    omega
  refine iteF ⟨_, rfl, p2, rfl, ⟨vs, SqL.of (s3 _ _ e2)⟩, fun D2 nD2 => ?_⟩
  refine lc_it (walk_list (xs := vs)) (fun i H' => Same H3 H' ∧ ∃ xs, H' D2 = some (.lst xs) ∧ Paired (fun v t => Fm K H' t v) xs (ts.take i)) ⟨same_new nD2 _, [], upd_same, .nil⟩ (fun i H' _ p => SqL.of (p.1 _ _ (s3 _ _ e2))) (fun i y H5 H6 hi p yy => ?_) (fun H5 p => ?_)
  · obtain ⟨rfl, hy⟩ := yy
    obtain ⟨s5, xs, eD2, hx⟩ := p
    obtain ⟨t, ht, pq, f0, rfl, hs, hf⟩ := paired_take hv hy
    have k5 := Same.kt (s3.trans s5)
    have lx := paired_len hx
    rw [List.length_take] at lx
    have gl := KT.of_lst (ys := xs ++ [f0]) eD2
    refine ⟨pq, _, rfl, k5.seq hs, rfl, _, _, rfl, _, _, rfl, rfl, rfl, ?_⟩
    refine ⟨_, rfl, _, eD2, small10k (by omega), same_at s5 nD2, xs ++ [f0], upd_same, ?_⟩
    rw [take_next ht]
    exact paired_app (paired_imp (fun _ _ h => gl.fm _ h) hx) (.cons (gl.fm _ (k5.fm _ hf)) .nil)
  obtain ⟨s5, xs, eD2, hx⟩ := p
  rw [List.take_of_length_le (by omega)] at hx
  have s05 := s03.trans s5
  have dp : DpAll K H5 xs (ts.map FT.data) := dp_of_fm hx
  refine ⟨_, rfl, true, rfl, ?_⟩
  refine iteT ⟨_, rfl, D2, xs, ts.map FT.data, rfl, SqL.of eD2, dp, ?_, by rw [List.length_map]; omega, by rw [lvs_data]; exact h1000, fun H7 s7 => ?_⟩
  · rw [List.all_eq_true]
    intro D hD'
    obtain ⟨t, ht, rfl⟩ := List.mem_map.mp hD'
    exact hD t (hok t ht) (all12 t ht)
  rw [lvs_data]
  refine ⟨_, _, rfl, rfl, _, rfl, ?_⟩
  by_cases c2 : 40 < lvsL ts
  · rw [decide_eq_true (by omega)]
    exact iteT ⟨le1k, fun p H8 s8 e8 => q2 H8 p ((s05.trans s7).trans s8) all12 c2 e8⟩
  rw [decide_eq_false (by omega)]
  refine iteF ⟨_, rfl, true, rfl, iteT ⟨_, rfl, le1k, fun p H8 s8 e8 => q3 H8 p _ ((s05.trans s7).trans s8) all12 (by omega) e8⟩⟩
end
end My

set_option Elab.async false
set_option linter.all false
set_option maxRecDepth 100000
namespace My
open PySem L2
/-! ### rows as texts -/
theorem Gp.sp {ts : List (List Nat)} {cs : List Nat} (g : Gp ts cs) : Gp ts (32 :: cs) := by
  cases g with
  | nil k => exact .nil (k + 1)
  | @cons k t ts cs g => exact .cons (k + 1) g
theorem gp_wrt : ∀ (t : FT) (h : Bool) {ts : List (List Nat)} {cs : List Nat}, Gp ts cs → Gp (toks h t ++ ts) (wrt h t ++ cs)
  | .leaf co n, h, ts, cs, g => by
    have := Gp.cons 0 (t := leafS co n) g
    cases h <;> exact this
  | .node s l r, h, ts, cs, g => by
    have key : ∀ {ts : List (List Nat)} {cs : List Nat}, Gp ts cs → Gp ((toks true l ++ ([s.code] :: toks true r)) ++ ts) ((wrt true l ++ (32 :: s.code :: 32 :: wrt true r)) ++ cs) := fun {ts cs} g => by
      have g1 := (gp_wrt r true g).sp
      have g2 := Gp.cons 1 (t := [s.code]) g1
      have g3 := gp_wrt l true g2
      have e1 : (toks true l ++ ([s.code] :: toks true r)) ++ ts = toks true l ++ ([s.code] :: (toks true r ++ ts)) := by simp only [List.append_assoc, List.cons_append]
      have e2 : (wrt true l ++ (32 :: s.code :: 32 :: wrt true r)) ++ cs = wrt true l ++ (spc 1 ++ ([s.code] ++ (32 :: (wrt true r ++ cs)))) := by
        simp only [List.append_assoc, List.cons_append, List.nil_append, List.replicate_succ, List.replicate_zero]
      rw [e1, e2]
      exact g3
    cases h with
    | false => exact key g
    | true =>
      have g1 := Gp.cons 0 (t := [41]) g
      have g2 := Gp.cons 0 (t := [40]) (key g1)
      have e1 : toks true (.node s l r) ++ ts = [40] :: ((toks true l ++ ([s.code] :: toks true r)) ++ ([41] :: ts)) := by
        show ([40] :: (toks true l ++ ([s.code] :: toks true r) ++ [[41]])) ++ ts = _
        simp only [List.append_assoc, List.cons_append, List.nil_append]
      have e2 : wrt true (.node s l r) ++ cs = spc 0 ++ ([40] ++ ((wrt true l ++ (32 :: s.code :: 32 :: wrt true r)) ++ (spc 0 ++ ([41] ++ cs)))) := by
        show (40 :: (wrt true l ++ (32 :: s.code :: 32 :: wrt true r) ++ [41])) ++ cs = _
        simp only [List.append_assoc, List.cons_append, List.nil_append, List.replicate_zero]
      rw [e1, e2]
      exact g2
theorem more_cons (x : FT) (ts : List FT) : moreToks (x :: ts) = [44] :: (toks false x ++ moreToks ts) := by
  unfold moreToks
  rw [List.map_cons, List.flatten_cons]
  rfl
theorem gp_rowS : ∀ (ts : List FT) (t : FT), Gp (rowToks (t :: ts)) (rowS (t :: ts))
  | [], t => by
    have := gp_wrt t false (Gp.nil 0)
    have e : rowS [t] = wrt false t ++ spc 0 := (List.append_nil _).symm
    rw [e]
    exact this
  | x :: ts, t => by
    have g1 := (gp_rowS ts x).sp
    have g2 := Gp.cons 0 (t := [44]) g1
    have g3 := gp_wrt t false g2
    have e : rowToks (t :: x :: ts) = toks false t ++ ([44] :: rowToks (x :: ts)) := by
      show toks false t ++ moreToks (x :: ts) = _
      rw [more_cons]
      rfl
    rw [e]
    exact g3
theorem gp_txR (t : FT) {ts : List (List Nat)} {cs : List Nat} (h : t.Ok) (g : Gp (toks false t ++ ([44] :: ts)) cs) : ∃ R, TxR (44 :: R) t cs ∧ Gp ts R := by
  cases t with
  | leaf co n =>
    cases g with
    | cons k g =>
      cases g with
      | @cons k2 _ _ R g2 => exact ⟨R, ⟨k, k2, leafS co n, 44 :: R, [], .leaf co n, rfl, .leaf co n h, .nil, .inl ⟨rfl, co, n, rfl⟩, rfl⟩, g2⟩
  | node s l r =>
    have e : toks false (.node s l r) ++ ([44] :: ts) = toks true l ++ ([s.code] :: (toks true r ++ ([44] :: ts))) := by
      show (toks true l ++ ([s.code] :: toks true r)) ++ ([44] :: ts) = _
      simp only [List.append_assoc, List.cons_append]
    rw [e] at g
    obtain ⟨a, tl, c1, rfl, hl, g1⟩ := gp_half l h.1 g
    cases g1 with
    | @cons b _ _ c2 g2 =>
      obtain ⟨c, tr, c3, rfl, hr, g3⟩ := gp_half r h.2 g2
      cases g3 with
      | @cons d _ _ R g4 => exact ⟨R, ⟨a, b, tl, _, [.lf s r], l, rfl, hl, .lf s l c d hr (.rt1 s l), .inr ⟨s, r, rfl⟩, rfl⟩, g4⟩
theorem gp_rwx : ∀ (ts : List FT) (t : FT) {cs : List Nat}, (∀ u ∈ t :: ts, u.Ok) → Gp (rowToks (t :: ts)) cs → RwX (t :: ts) cs
  | [], t, cs, h, g => .one (gp_tx t (h t (List.mem_cons_self ..)) (by
      have g : Gp (toks false t ++ []) cs := g
      rw [List.append_nil] at g
      exact g))
  | x :: ts, t, cs, h, g => by
    have e : rowToks (t :: x :: ts) = toks false t ++ ([44] :: rowToks (x :: ts)) := by
      show toks false t ++ moreToks (x :: ts) = _
      rw [more_cons]
      rfl
    rw [e] at g
    obtain ⟨R, h1, g2⟩ := gp_txR t (h t (List.mem_cons_self ..)) g
    exact .cons h1 (gp_rwx ts x (fun u hu => h u (List.mem_cons_of_mem _ hu)) g2)
theorem rwx_of {ts : List FT} {cs : List Nat} (h1 : 1 ≤ ts.length) (h : ∀ u ∈ ts, u.Ok) (g : Gp (rowToks ts) cs) : RwX ts cs := by
  cases ts with
  | nil => simp at h1
  | cons t ts => exact gp_rwx ts t h g
/-! ### how long -/
theorem toks_le : ∀ t : FT, (toks true t).length + 3 ≤ 4 * t.lvs
  | .leaf co n => Nat.le_refl _
  | .node s l r => by
    have hl := toks_le l
    have hr := toks_le r
    have e : toks true (.node s l r) = [40] :: (toks true l ++ ([s.code] :: toks true r) ++ [[41]]) := rfl
    have e2 : (FT.node s l r).lvs = l.lvs + r.lvs := rfl
    rw [e, e2]
    simp only [List.length_append, List.length_cons, List.length_nil]
    omega
theorem wrt_le : ∀ t : FT, t.Ok → (wrt true t).length + 5 ≤ 18 * t.lvs
  | .leaf co n, h => by
    have hn2 : (decide (1 ≤ (Z n).length ∧ (Z n).length ≤ 12) && ((Z n).cps.toList.head?.any isL && (Z n).cps.toList.all isLD)) = true := h
    rw [Z_len, Bool.and_eq_true, decide_eq_true_eq] at hn2
    have e : (wrt true (.leaf co n)).length ≤ n.length + 1 := by
      show (leafS co n).length ≤ n.length + 1
      unfold leafS
      rw [List.length_append]
      cases co <;> simp
    have e2 : (FT.leaf co n).lvs = 1 := rfl
    rw [e2]
    omega
  | .node s l r, h => by
    have hl := wrt_le l h.1
    have hr := wrt_le r h.2
    have e : wrt true (.node s l r) = 40 :: (wrt true l ++ (32 :: s.code :: 32 :: wrt true r) ++ [41]) := rfl
    have e2 : (FT.node s l r).lvs = l.lvs + r.lvs := rfl
    rw [e, e2]
    simp only [List.length_append, List.length_cons, List.length_nil]
    omega
theorem row_le : ∀ ts : List FT, (rowToks ts).length ≤ 4 * lvsL ts ∧ (moreToks ts).length ≤ 4 * lvsL ts
  | [] => ⟨Nat.zero_le _, Nat.zero_le _⟩
  | t :: ts => by
    obtain ⟨_, h2⟩ := row_le ts
    have ht := toks_le t
    have hs := toks_short false t
    have e : lvsL (t :: ts) = t.lvs + lvsL ts := by
      unfold lvsL
      rw [List.map_cons, List.sum_cons]
    have e1 : rowToks (t :: ts) = toks false t ++ moreToks ts := rfl
    rw [e, e1, more_cons, List.length_append, List.length_cons, List.length_append]
    omega
theorem row_flat (ts : List FT) (h : ∀ t ∈ ts, t.Ok) : (rowToks ts).flatten.length ≤ 19 * lvsL ts ∧ (moreToks ts).flatten.length ≤ 19 * lvsL ts := by
  induction ts with
  | nil => exact ⟨Nat.zero_le _, Nat.zero_le _⟩
  | cons t ts ih =>
    obtain ⟨_, h2⟩ := ih fun u hu => h u (List.mem_cons_of_mem _ hu)
    have ht := wrt_le t (h t (List.mem_cons_self ..))
    have hs := wrt_short false t
    have hf := toks_flat t false
    have e : lvsL (t :: ts) = t.lvs + lvsL ts := by
      unfold lvsL
      rw [List.map_cons, List.sum_cons]
    have e1 : rowToks (t :: ts) = toks false t ++ moreToks ts := rfl
    rw [e, e1, more_cons, List.flatten_append, List.length_append, List.flatten_cons, List.flatten_append, List.length_append, List.length_append]
    have : ([44] : List Nat).length = 1 := rfl
    omega
theorem rowN_le (ts : List FT) (h : ∀ t ∈ ts, t.Ok) : rowN ts ≤ 20 * lvsL ts := by
  induction ts with
  | nil => exact Nat.zero_le _
  | cons t ts ih =>
    have ih := ih fun u hu => h u (List.mem_cons_of_mem _ hu)
    have ht := wrt_le t (h t (List.mem_cons_self ..))
    have hs := wrt_short false t
    unfold rowN lvsL at ih ⊢
    simp only [List.map_cons, List.sum_cons, List.length_cons]
    omega
theorem rowS_le : ∀ ts : List FT, (rowS ts).length ≤ rowN ts
  | [] => Nat.zero_le _
  | [t] => by
    show (wrt false t).length ≤ ([t].map fun t => (wrt false t).length).sum + 2 * 1
    simp
  | t :: x :: ts => by
    have ih := rowS_le (x :: ts)
    have e : rowS (t :: x :: ts) = wrt false t ++ (commaS ++ rowS (x :: ts)) := rfl
    have e2 : rowN (t :: x :: ts) = (wrt false t).length + 2 + rowN (x :: ts) := by
      unfold rowN
      simp only [List.map_cons, List.sum_cons, List.length_cons]
      omega
    rw [e, e2, List.length_append, List.length_append]
    have : commaS.length = 2 := rfl
    omega
theorem lvs_pos : ∀ t : FT, 1 ≤ t.lvs
  | .leaf _ _ => Nat.le_refl _
  | .node _ l r => by
    have := lvs_pos l
    show 1 ≤ l.lvs + r.lvs
    omega
theorem lvsL_mem {ts : List FT} {t : FT} (h : t ∈ ts) : t.lvs ≤ lvsL ts := by
  induction ts with
  | nil => cases h
  | cons x ts ih =>
    unfold lvsL at ih ⊢
    rw [List.map_cons, List.sum_cons]
    rcases List.mem_cons.mp h with rfl | h
    · omega
    · have := ih h
      omega
theorem len_lvsL : ∀ ts : List FT, ts.length ≤ lvsL ts
  | [] => Nat.zero_le _
  | t :: ts => by
    have ih := len_lvsL ts
    have := lvs_pos t
    unfold lvsL at ih ⊢
    rw [List.map_cons, List.sum_cons, List.length_cons]
    omega
end My

set_option Elab.async false
set_option linter.all false
set_option maxRecDepth 100000
namespace My
open PySem L2
/-- what is due of a string -/
inductive Due5 where
  | text (n : Nat)
  | deep
  | many
  | told (ts : List FT)
def dueOf (row : Bool) (ts : List FT) : Due5 := if ts.any (fun t => decide (12 < t.dep)) = true then .deep else if row = true ∧ 40 < lvsL ts then .many else .told ts
def formD (n : Nat) : Out5 → Due5
  | .stop r => .text (n - r.length)
  | .go _ r => .text (n - r.length)
  | .done t r => if r = [] then dueOf false [t] else .text (n - r.length)
def rowD (n : Nat) : OutR → Due5
  | .stop r => .text (n - r.length)
  | .done ts r => if r = [] then dueOf true ts else .text (n - r.length)
def due5 : Bool → List Nat → Due5
  | false, cs => formD cs.length (formP cs)
  | true, cs => rowD cs.length (rowP (cs.length + 1) cs)
theorem due_form {cs : List Nat} {o : Out5} (e : formP cs = o) : due5 false cs = formD cs.length o := by
  show formD cs.length (formP cs) = _
  rw [e]
theorem due_row {cs : List Nat} {o : OutR} (e : rowP (cs.length + 1) cs = o) : due5 true cs = rowD cs.length o := by
  show rowD cs.length (rowP (cs.length + 1) cs) = _
  rw [e]
theorem formD_ok {n : Nat} {t : FT} : formD n (.done t []) = dueOf false [t] := by
  unfold formD
  exact if_pos rfl
theorem rowD_ok {n : Nat} {ts : List FT} : rowD n (.done ts []) = dueOf true ts := by
  unfold rowD
  exact if_pos rfl
theorem formD_no {n : Nat} {t : FT} {r : List Nat} (h : r ≠ []) : formD n (.done t r) = .text (n - r.length) := by
  first | (unfold formD; exact if_neg h) | (unfold rowD; exact if_neg h)
theorem rowD_no {n : Nat} {ts : List FT} {r : List Nat} (h : r ≠ []) : rowD n (.done ts r) = .text (n - r.length) := by
  first | (unfold formD; exact if_neg h) | (unfold rowD; exact if_neg h)
theorem used_len {cs used rest : List Nat} (e : cs = used ++ rest) : cs.length - rest.length = used.length := by
  rw [e, List.length_append]
  omega
theorem row_one (t : FT) : rowToks [t] = toks false t := by
  show toks false t ++ moreToks [] = _
  have : moreToks [] = [] := rfl
  rw [this, List.append_nil]
/-- the law's reader says the same -/
theorem long5 (row : Bool) (cs : List Nat) : (∃ n, due5 row cs = .text n ∧ longest row cs = (n, false)) ∨
    (∃ ts, due5 row cs = dueOf row ts ∧ longest row cs = (cs.length, true) ∧ ts ≠ [] ∧ (∀ t ∈ ts, t.Ok) ∧ Gp (rowToks ts) cs ∧ (row = false → ∃ t, ts = [t])) := by
  cases row with
  | false =>
    have g := long_form cs
    cases e : formP cs with
    | stop rest =>
      rw [e] at g
      obtain ⟨used, e1, e2⟩ := g
      exact .inl ⟨_, due_form e, by rw [used_len e1]; exact e2⟩
    | go st r => rw [e] at g; exact g.elim
    | done t rest =>
      rw [e] at g
      obtain ⟨used, e1, e2, ok, gp⟩ := g
      cases rest with
      | nil =>
        rw [List.append_nil] at e1
        subst e1
        refine .inr ⟨[t], (due_form e).trans formD_ok, e2, by simp, fun u m => ?_, ?_, fun _ => ⟨t, rfl⟩⟩
        · rw [List.mem_singleton.1 m]; exact ok
        · rw [row_one]; exact gp
      | cons c r => exact .inl ⟨_, (due_form e).trans (formD_no (by simp)), by rw [used_len e1]; exact e2⟩
  | true =>
    have g := long_row (cs.length + 1) cs (Nat.lt_succ_self _)
    cases e : rowP (cs.length + 1) cs with
    | stop rest =>
      rw [e] at g
      obtain ⟨used, e1, e2⟩ := g
      exact .inl ⟨_, due_row e, by rw [used_len e1]; exact e2⟩
    | done ts rest =>
      rw [e] at g
      obtain ⟨used, e1, e2, h0, ok, gp⟩ := g
      cases rest with
      | nil =>
        rw [List.append_nil] at e1
        subst e1
        exact .inr ⟨ts, (due_row e).trans rowD_ok, e2, h0, ok, gp, fun z => by cases z⟩
      | cons c r => exact .inl ⟨_, (due_row e).trans (rowD_no (by simp)), by rw [used_len e1]; exact e2⟩
/-- what is told -/
def Told5 (K : PySem.W.Frag) (row : Bool) (H : Hp) (v : V) (ts : List FT) : Prop := (row = true → ∃ b xs, v = .ref b ∧ SqL K H b xs ∧ Paired (fun v t => Fm K H t v) xs ts) ∧ (row = false → ∃ t, ts = [t] ∧ Fm K H t v)
def Ret5 (K : PySem.W.Frag) (CN CD CM : Addr) (row : Bool) (H : Hp) (Q : VK) (E : XK) : Due5 → Prop
  | .text n => badE CN "at" (.int (n : Nat)) H E
  | .deep => badE CD "most" (.int 12) H E
  | .many => badE CM "most" (.int 40) H E
  | .told ts => (∀ t ∈ ts, t.dep ≤ 12) → (row = true → lvsL ts ≤ 40) → ∀ H' v, Same H H' → Told5 K row H' v ts → Q v H'
def spRead5 (K : PySem.W.Frag) (CN CD CM : Addr) (row : Bool) : Sp := fun vs H Q E => ∃ cs, vs = [.str (Z cs)] ∧ cs.length + 12 ≤ sizeLine ∧ cs.length ≤ 10000 ∧ Ret5 K CN CD CM row H Q E (due5 row cs)
theorem dueOf_deep {row : Bool} {ts : List FT} (h : ∃ t ∈ ts, 12 < t.dep) : dueOf row ts = .deep := by
  unfold dueOf
  obtain ⟨t, m, h⟩ := h
  rw [if_pos (List.any_eq_true.2 ⟨t, m, decide_eq_true h⟩)]
theorem dueOf_flat {row : Bool} {ts : List FT} (h : ∀ t ∈ ts, t.dep ≤ 12) : dueOf row ts = if row = true ∧ 40 < lvsL ts then .many else .told ts := by
  unfold dueOf
  rw [if_neg fun z => by
    obtain ⟨t, m, h2⟩ := List.any_eq_true.1 z
    have := h t m
    have := of_decide_eq_true h2
    omega]
theorem code_len (s : Sg) : 1 ≤ [s.code].length := Nat.le_refl 1
theorem leafS_len {co : Bool} {n : List Nat} (h : (FT.leaf co n).Ok) : 1 ≤ (leafS co n).length := by
  have h : isName (Z n) = true := h
  have := (leafS_plain (co := co) h).1
  cases e : leafS co n with
  | nil => exact absurd e this
  | cons a b => exact Nat.succ_le_succ (Nat.zero_le _)
theorem toks_ne : ∀ (t : FT) (h : Bool), t.Ok → ∀ k ∈ toks h t, 1 ≤ k.length
  | .leaf co n, h, ok, k, m => by
    have e : toks h (.leaf co n) = [leafS co n] := by cases h <;> rfl
    rw [e] at m
    rw [List.mem_singleton.1 m]
    exact leafS_len ok
  | .node s l r, h, ok, k, m => by
    have i1 := toks_ne l true ok.1 k
    have i2 := toks_ne r true ok.2 k
    cases h with
    | false =>
      have m : k ∈ toks true l ++ ([s.code] :: toks true r) := m
      rcases List.mem_append.1 m with m | m
      · exact i1 m
      · rcases List.mem_cons.1 m with e | m
        · rw [e]; exact Nat.le_refl 1
        · exact i2 m
    | true =>
      have m : k ∈ [40] :: (toks true l ++ ([s.code] :: toks true r) ++ [[41]]) := m
      rcases List.mem_cons.1 m with e | m
      · rw [e]; exact Nat.le_refl 1
      · rcases List.mem_append.1 m with m | m
        · rcases List.mem_append.1 m with m | m
          · exact i1 m
          · rcases List.mem_cons.1 m with e | m
            · rw [e]; exact Nat.le_refl 1
            · exact i2 m
        · rw [List.mem_singleton.1 m]; exact Nat.le_refl 1
theorem row_ne (ts : List FT) (ok : ∀ t ∈ ts, t.Ok) : ∀ k ∈ rowToks ts, 1 ≤ k.length := by
  cases ts with
  | nil => intro k m; cases m
  | cons t ts =>
    intro k m
    have m : k ∈ toks false t ++ moreToks ts := m
    rcases List.mem_append.1 m with m | m
    · exact toks_ne t false (ok t (List.mem_cons_self ..)) k m
    · unfold moreToks at m
      obtain ⟨l, hl, hk⟩ := List.mem_flatten.1 m
      obtain ⟨u, hu, rfl⟩ := List.mem_map.1 hl
      rcases List.mem_cons.1 hk with e | hk
      · rw [e]; exact Nat.le_refl 1
      · exact toks_ne u false (ok u (List.mem_cons_of_mem _ hu)) k hk
theorem gp_len {T : List (List Nat)} {cs : List Nat} (h : Gp T cs) : (∀ k ∈ T, 1 ≤ k.length) → T.length ≤ cs.length := by
  induction h with
  | nil k => intro _; exact Nat.zero_le _
  | cons k g ih =>
    intro hk
    have h1 := ih fun x m => hk x (List.mem_cons_of_mem _ m)
    have h2 := hk _ (List.mem_cons_self ..)
    rw [List.length_cons, List.length_append, List.length_append]
    omega
theorem gp_row_len {ts : List FT} {cs : List Nat} (h : Gp (rowToks ts) cs) (ok : ∀ t ∈ ts, t.Ok) : (rowToks ts).length ≤ cs.length := gp_len h (row_ne ts ok)
theorem lvs_toks : ∀ (t : FT) (h : Bool), t.lvs ≤ (toks h t).length
  | .leaf co n, h => by cases h <;> exact Nat.le_refl 1
  | .node s l r, h => by
    have i1 := lvs_toks l true
    have i2 := lvs_toks r true
    have e : (FT.node s l r).lvs = l.lvs + r.lvs := rfl
    rw [e]
    cases h with
    | false =>
      show _ ≤ (toks true l ++ ([s.code] :: toks true r)).length
      rw [List.length_append, List.length_cons]
      omega
    | true =>
      show _ ≤ ([40] :: (toks true l ++ ([s.code] :: toks true r) ++ [[41]])).length
      rw [List.length_cons, List.length_append, List.length_append, List.length_cons]
      omega
theorem lvsL_toks (ts : List FT) : lvsL ts ≤ (rowToks ts).length := by
  have more : ∀ ts : List FT, lvsL ts ≤ (moreToks ts).length := fun ts => by
    induction ts with
    | nil => exact Nat.zero_le _
    | cons t ts ih =>
      have := lvs_toks t false
      unfold moreToks lvsL at ih ⊢
      rw [List.map_cons, List.map_cons, List.flatten_cons, List.length_append, List.length_cons, List.sum_cons]
      omega
  cases ts with
  | nil => exact Nat.zero_le _
  | cons t ts =>
    have h1 := more ts
    have h2 := lvs_toks t false
    show _ ≤ (toks false t ++ moreToks ts).length
    unfold lvsL at h1 ⊢
    rw [List.length_append, List.map_cons, List.sum_cons]
    omega
abbrev sread_form : Stmt := top 28
abbrev Pread_form : List Str := ["text"]
theorem scread_form : FnScope Nread_form Pread_form (defScope sread_form) := ⟨rfl, rfl, rfl, by decide +kernel, rfl, by decide +kernel, by decide +kernel⟩
section
variable {P : Program} {w : World} {K : PySem.W.Frag} {mg : Str → Option Value} {base : Heap} {f : Addr} {fd : FuncData} {CR CW CN fI : Addr}
theorem okread_formX {CB CD CM : Addr} {R : RdTxt K CR} (R2 : RdTxt2 K mg CR fI) {fdI : FuncData} (GI : FnOk P w K mg base CX0 1 fI fdI NRd0 (spRd0 CR)) (bI : Binds K fdI NRd0 []) (Cct : CalX P w K mg base "check_text" 4 Ncheck_text (spCheckText K CB))
    (Ctf : CalX P w K mg base "take_form" 7 Ptake_form (spTakeFormX K CR CW CN)) (M3 : MthX P w K mg base CR "finish" 3 NRd2 (spFinishX CR CN)) (Cto : CalX P w K mg base "told_form" 4 Ntold_form (spToldX K CW CD)) (F : Fun K "read_form" "read_form" sread_form f fd) :
    FnOk P w K mg base (L2.CX P w) 9 f fd Pread_form (spRead5 K CN CD CM false) := by
  refine F.okX scread_form (fun vs H Q E h => ?_) (fun cdv A outer s H vs Q E hr h => ?_)
  · obtain ⟨v, rfl, _⟩ := h
    rfl
  obtain ⟨cs, rfl, hl, _, q⟩ := h
  refine ⟨_, (pss_cons (ps_expr (pe_callS Cct.ok (hr.mono (by decide)) rfl Cct.m Cct.kp Cct.b (fun σ => passAt (takes_of rfl rfl rfl rfl) σ) (pa_cons (pv 0) pa_nil)))
  (pss_cons (ps_set (i := 1) scread_form.nd rfl (Or.inl rfl) (pe_make R2.made GI (hr.mono (by decide)) rfl R2.g bI .nil pass0 (pa_cons (pv 0) pa_nil)))
  (pss_cons (ps_set (i := 2) scread_form.nd rfl (Or.inl rfl) (pe_callS Ctf.ok (hr.mono (by decide)) rfl Ctf.m Ctf.kp Ctf.b (fun σ => passAt (takes_of rfl rfl rfl rfl) σ) (pa_cons (pv 1) pa_nil)))
  (pss_cons (ps_expr (pe_methX0 M3 (pv 1) R.cl (hr.mono (by decide)) (fun σ => passAt (takes_of rfl rfl rfl rfl) σ)))
  (pss_one (ps_ret (pe_callS Cto.ok (hr.mono (by decide)) rfl Cto.m Cto.kp Cto.b (fun σ => passAt (takes_of rfl rfl rfl rfl) σ) (pa_cons (pv 2) pa_nil)))))))), ?_⟩
  refine ⟨_, rfl, _, rfl, .inl ⟨.str _, .str _, fun _ => ?_, fun z => by cases z⟩⟩
  refine ⟨_, rfl, fun x dx nx nd ne => ⟨x, dx, _, rfl, upd_same, fun H1 m1 h1 => ⟨rfl, ?_⟩⟩⟩
  have s1 : Same H H1 := same_mv (same_make nx nd ne) nx m1
  refine ⟨_, rfl, x, dx, [], cs, rfl, h1, by rw [List.nil_append]; omega, fun t rest pre' e1 e2 H2 v k2 h2 w2 => ?_, fun rest pre' e1 e2 H2 d k2 nd2 => ?_⟩
  · have s2 : Same H H2 := fun b o e => k2 b o (ne_of_none e nx) (s1 b o e)
    have e2 : pre' ++ rest = cs := e2
    have hlen : pre'.length + rest.length ≤ sizeLine := by
      have := congrArg List.length e2
      rw [List.length_append] at this
      omega
    have ed : due5 false cs = if rest = [] then dueOf false [t] else .text (cs.length - rest.length) := due_form e1
    rw [ed] at q
    refine ⟨_, rfl, x, dx, _, rfl, h2, rF_no, x, dx, pre', rest, rfl, h2, hlen, fun er => ?_, fun er d H' s' nd' => ?_⟩
    · subst er
      rw [if_pos rfl] at q
      refine ⟨_, rfl, v, t, rfl, w2, fun hd u hu => ?_, fun hd => ?_⟩
      · rw [dueOf_flat (fun u m => by rw [List.mem_singleton.1 m]; exact hd), if_neg (fun z => by cases z.1)] at q
        exact q (fun u m => by rw [List.mem_singleton.1 m]; exact hd) (fun z => by cases z) H2 u s2 ⟨fun z => (by cases z), fun _ => ⟨t, rfl, hu⟩⟩
      · rw [dueOf_deep ⟨t, List.mem_singleton.2 rfl, hd⟩] at q
        exact q.same s2
    · rw [if_neg er, used_len e2.symm] at q
      exact q d H' (s2.trans s') nd'
  · have s2 : Same H H2 := fun b o e => k2 b o (ne_of_none e nx) (s1 b o e)
    have ed : due5 false cs = .text (cs.length - rest.length) := due_form e1
    rw [ed, used_len (used := pre') (rest := rest) (show cs = pre' ++ rest from e2.symm)] at q
    exact q d H2 s2 nd2
/-- ends likewise -/
theorem read_ends5 {CD CM : Addr} {fR : Addr} {fdR : FuncData} {k : Nat} (h : FnOk P w K mg base (L2.CX P w) k fR fdR Pread_ends (spReadEndsX K CN CD CM)) : FnOk P w K mg base (L2.CX P w) k fR fdR Pread_ends (spRead5 K CN CD CM true) := by
  refine h.imp (fun vs H Q E z => ?_)
  obtain ⟨cs, rfl, hl, hk, q⟩ := z
  refine ⟨cs, rfl, hl, fun ts e => ?_, fun ts used rest e er e2 => ?_, fun used rest e e2 => ?_⟩
  · have ed : due5 true cs = dueOf true ts := (due_row e).trans rowD_ok
    rw [ed] at q
    have g := long_row (cs.length + 1) cs (Nat.lt_succ_self _)
    rw [e] at g
    obtain ⟨used, e1, _, _, ok, gp⟩ := g
    rw [List.append_nil] at e1
    subst e1
    have l1 := gp_row_len gp ok
    have l2 := row_len ts
    refine ⟨by omega, fun a1 a2 H' b xs s eb nb hp => ?_, fun a => ?_, fun a1 a2 => ?_⟩
    · rw [dueOf_flat a1, if_neg (fun z => by omega)] at q
      exact q a1 (fun _ => a2) H' _ s ⟨fun _ => ⟨b, xs, rfl, SqL.of eb, hp⟩, fun z => by cases z⟩
    · rw [dueOf_deep a] at q
      exact q
    · rw [dueOf_flat a1, if_pos ⟨rfl, a2⟩] at q
      exact q
  · have ed : due5 true cs = .text (cs.length - rest.length) := (due_row e).trans (rowD_no er)
    rw [ed, used_len e2] at q
    exact q
  · have ed : due5 true cs = .text (cs.length - rest.length) := due_row e
    rw [ed, used_len e2] at q
    exact q
end
end My

set_option Elab.async false
set_option linter.all false
set_option maxRecDepth 100000
namespace My
open PySem L2
def Out5V (K : PySem.W.Frag) (row : Bool) (H : Hp) (p : Addr) : Due5 → Prop
  | .text n => SqT K H p [.str "text", .int (n : Nat)]
  | .deep => SqT K H p [.str "deep", .int 12]
  | .many => SqT K H p [.str "many", .int 40]
  | .told ts => (∀ t ∈ ts, t.dep ≤ 12) ∧ (row = true → lvsL ts ≤ 40) ∧ ∃ v, SqT K H p [.str "told", v] ∧ Told5 K row H v ts
/-- what is due of any string -/
def spReadDue5 (K : PySem.W.Frag) : Sp := fun vs H Q _ => ∃ (cs : List Nat) (row : Bool), vs = [.str (Z cs), .bl row] ∧ cs.length ≤ 5500 ∧ ∀ H' p, Same H H' → Out5V K row H' p (due5 row cs) → Q (.ref p) H'
section
variable {P : Program} {w : World} {K : PySem.W.Frag} {mg : Str → Option Value} {base : Heap} {f : Addr} {fd : FuncData}
theorem ok_law_read_due5 (T : Txt K mg) (F : Fun K "_law_read_due" "_law_read_due" s_law_read_due f fd) (C_law_longest : Cal P w K mg base "_law_longest" 1 P_law_longest (spLongest K)) (C_law_read : Cal P w K mg base "_law_read" 2 P_law_read (spRead K)) (C_law_leaf_many : Cal P w K mg base "_law_leaf_many" 14 P_law_leaf_many (spLeafMany K))
    (hD : ∀ t : FT, t.Ok → t.dep ≤ 12 → isForm 12 t.data = true) : FnOk P w K mg base CX0 15 f fd P_law_read_due (spReadDue5 K) := by
  refine F.ok sc_law_read_due (fun vs H Q E h => ?_) (fun cdv A outer s H vs Q E hr h => ?_)
  · obtain ⟨cs, row, rfl, _⟩ := h
    rfl
  obtain ⟨cs, row, rfl, hcl, q⟩ := h
  refine ⟨_, (pss_cons (ps_asg (pe_callC C_law_longest hr (pa_cons (pv 0) (pa_cons (pv 1) pa_nil))) (pg_tup rfl (pgs_cons (pg_name (i := 2) sc_law_read_due.nd rfl (Or.inl rfl)) (pgs_cons (pg_name (i := 3) sc_law_read_due.nd rfl (Or.inl rfl)) pgs_nil))))
  (pss_cons (ps_if (pt_not (pt_truth (pv 3) (by intro _; rfl)))
    (pss_one (ps_ret (pe_tupN (pa_cons pe_str (pa_cons (pv 2) pa_nil)))))
    pss_nil)
  (pss_cons (ps_set (i := 4) sc_law_read_due.nd rfl (Or.inl rfl) (pe_callC C_law_read hr (pa_cons (pv 0) pa_nil)))
  (pss_cons (ps_if (pt_cmpR op_gt (pe_callB (cr_max rfl) rfl T.max (by decide +kernel) (pa_cons (pe_lc (own := [("_law_form", 6), ("_law_tall", 7)]) (g := gTup K 2 (gCons (gName 6) (gCons (gName 7) gNil))) (te := tVar 7) rfl sc_law_read_due.nd (pi_list (pv 4)) (blkOk_by (own := [("_law_form", 6), ("_law_tall", 7)]) (N := N_law_read_due) (sc := defScope s_law_read_due) (by decide +kernel)) (fun _ _ _ _ _ => (pg_tup rfl (pgs_cons (pg_name (i := 6) sc_law_read_due.nd rfl (Or.inl rfl)) (pgs_cons (pg_name (i := 7) sc_law_read_due.nd rfl (Or.inl rfl)) pgs_nil)))) (fun _ _ _ _ _ => pts_nil) (fun _ _ _ _ _ => (pv 7))) pa_nil)) pe_int (nomark _))
    (pss_one (ps_ret (pe_tupN (pa_cons pe_str (pa_cons pe_int pa_nil)))))
    pss_nil)
  (pss_cons (ps_setLc (i := 5) (own := [("_law_form", 6), ("_law_tall", 7)]) (g := gTup K 2 (gCons (gName 6) (gCons (gName 7) gNil))) (te := tVar 6) rfl sc_law_read_due.nd rfl rfl (sw_true rfl rfl rfl (by decide +kernel)) (pi_list (pv 4)) (blkOk_by (own := [("_law_form", 6), ("_law_tall", 7)]) (N := N_law_read_due) (sc := defScope s_law_read_due) (by decide +kernel)) (fun _ _ _ _ _ => (pg_tup rfl (pgs_cons (pg_name (i := 6) sc_law_read_due.nd rfl (Or.inl rfl)) (pgs_cons (pg_name (i := 7) sc_law_read_due.nd rfl (Or.inl rfl)) pgs_nil)))) (fun _ _ _ _ _ => pts_nil) (fun _ _ _ _ _ => (pv 6)))
  (pss_cons (ps_if (PW.pt (pw_and (pt_truth (pv 1) (by intro _; rfl)) (pw_and1 (pt_cmpR op_gt (pe_callC C_law_leaf_many hr (pa_cons (pv 5) pa_nil)) pe_int (nomark _)))))
    (pss_one (ps_ret (pe_tupN (pa_cons pe_str (pa_cons pe_int pa_nil)))))
    pss_nil)
  (pss_one (ps_ret (pe_tupN (pa_cons pe_str (pa_cons (pe_ifExp (pt_truth (pv 1) (by intro _; rfl)) (pv 5) (pe_ix ix_list (pv 5) pe_int (fun _ _ => rfl))) pa_nil))))))))))), ?_⟩
  have hb : sizeLine > 100000 := by decide
  have hb : 12 * 6000 + 100 ≤ sizeLine := by decide
  refine ⟨_, rfl, _, rfl, cs, row, rfl, by omega, fun H1 p1 s1 e1 => ?_⟩
  rcases long5 row cs with ⟨n, d1, l1⟩ | ⟨ts, d1, l1, h0, hok, hg, hone⟩
  · rw [l1] at e1
    refine ⟨p1, _, rfl, e1, rfl, _, _, rfl, _, _, rfl, rfl, ?_⟩
    refine ⟨_, rfl, false, rfl, iteT ⟨_, rfl, le1k, fun p H2 s2 e2 => q H2 p (s1.trans s2) ?_⟩⟩
    rw [d1]
    exact e2
  rw [l1] at e1
  have htk := gp_row_len hg hok
  have hlv := lvsL_toks ts
  have h1 : 1 ≤ ts.length := by
    cases ts with
    | nil => exact absurd rfl h0
    | cons a b => simp
  refine ⟨p1, _, rfl, e1, rfl, _, _, rfl, _, _, rfl, rfl, ?_⟩
  refine ⟨_, rfl, true, rfl, iteF ?_⟩
  refine ⟨_, rfl, cs, ts, rfl, hg, h1, hok, by omega, by omega, fun H2 p2 vs s2 e2 hv => ?_⟩
  have lv := paired_len hv
  have lts : ts.length ≤ 6000 := Nat.le_trans (row_len ts) (by omega)
  refine ⟨_, rfl, p2, rfl, ⟨vs, SqL.of e2⟩, fun D nD => ?_⟩
  refine lc_it (walk_list (xs := vs)) (fun i H' => Same H2 H' ∧ H' D = some (.lst (((ts.take i).map fun t => (t.dep : Int)).map V.int))) ⟨same_new nD _, upd_same⟩ (fun i H' _ p => SqL.of (p.1 _ _ e2)) (fun i y H3 H4 hi p yy => ?_) (fun H3 p => ?_)
  · obtain ⟨rfl, hy⟩ := yy
    obtain ⟨s3, eD⟩ := p
    obtain ⟨t, ht, pq, f0, rfl, hs, hf⟩ := paired_take hv hy
    refine ⟨pq, _, rfl, (Same.kt s3).seq hs, rfl, _, _, rfl, _, _, rfl, rfl, rfl, ?_⟩
    refine ⟨_, rfl, _, eD, small10k (by rw [List.length_map, List.length_map, List.length_take]; omega), same_at s3 nD, ?_⟩
    rw [upd_same, take_next ht, List.map_append, List.map_append]
    rfl
  obtain ⟨s3, eD⟩ := p
  rw [List.take_of_length_le (by omega)] at eD
  refine ⟨D, _, rfl, SqL.of eD, by rw [List.length_map]; omega, fun m hm hle => ?_⟩
  refine ⟨_, _, rfl, rfl, _, rfl, ?_⟩
  have s03 : Same H H3 := (s1.trans s2).trans s3
  obtain ⟨tm, htm, rfl⟩ := List.mem_map.mp hm
  by_cases c : 12 < tm.dep
  · rw [decide_eq_true (by omega)]
    refine iteT ⟨le1k, fun p H4 s4 e4 => q H4 p (s03.trans s4) ?_⟩
    rw [d1, dueOf_deep ⟨tm, htm, c⟩]
    exact e4
  rw [decide_eq_false (by omega)]
  have all12 : ∀ t ∈ ts, t.dep ≤ 12 := fun t ht => by
    have := hle (t.dep : Int) (List.mem_map.mpr ⟨t, ht, rfl⟩)
    omega
  rw [dueOf_flat all12] at d1
  refine iteF ⟨_, rfl, p2, rfl, ⟨vs, SqL.of (s3 _ _ e2)⟩, fun D2 nD2 => ?_⟩
  refine lc_it (walk_list (xs := vs)) (fun i H' => Same H3 H' ∧ ∃ xs, H' D2 = some (.lst xs) ∧ Paired (fun v t => Fm K H' t v) xs (ts.take i)) ⟨same_new nD2 _, [], upd_same, .nil⟩ (fun i H' _ p => SqL.of (p.1 _ _ (s3 _ _ e2))) (fun i y H5 H6 hi p yy => ?_) (fun H5 p => ?_)
  · obtain ⟨rfl, hy⟩ := yy
    obtain ⟨s5, xs, eD2, hx⟩ := p
    obtain ⟨t, ht, pq, f0, rfl, hs, hf⟩ := paired_take hv hy
    have k5 := Same.kt (s3.trans s5)
    have lx := paired_len hx
    rw [List.length_take] at lx
    have gl := KT.of_lst (ys := xs ++ [f0]) eD2
    refine ⟨pq, _, rfl, k5.seq hs, rfl, _, _, rfl, _, _, rfl, rfl, rfl, ?_⟩
    refine ⟨_, rfl, _, eD2, small10k (by omega), same_at s5 nD2, xs ++ [f0], upd_same, ?_⟩
    rw [take_next ht]
    exact paired_app (paired_imp (fun _ _ h => gl.fm _ h) hx) (.cons (gl.fm _ (k5.fm _ hf)) .nil)
  obtain ⟨s5, xs, eD2, hx⟩ := p
  rw [List.take_of_length_le (by omega)] at hx
  have s05 := s03.trans s5
  have dp : DpAll K H5 xs (ts.map FT.data) := dp_of_fm hx
  refine ⟨_, rfl, row, rfl, ?_⟩
  cases row with
  | false =>
    obtain ⟨t, rfl⟩ := hone rfl
    obtain ⟨x, rfl⟩ : ∃ x, xs = [x] := by
      cases hx with
      | cons a b => cases b; exact ⟨_, rfl⟩
    have hf : Fm K H5 t x := by
      cases hx with
      | cons a b => exact a
    refine iteF ⟨_, rfl, false, rfl, iteF ⟨_, rfl, D2, _, 0, x, rfl, rfl, SqL.of eD2, rfl, le1k, fun p H8 s8 e8 => q H8 p (s05.trans s8) ?_⟩⟩
    rw [d1, if_neg (fun z => by cases z.1)]
    exact ⟨all12, fun z => (by cases z), x, e8, fun z => (by cases z), fun _ => ⟨t, rfl, (Same.kt s8).fm _ hf⟩⟩
  | true =>
  refine iteT ⟨_, rfl, D2, xs, ts.map FT.data, rfl, SqL.of eD2, dp, ?_, by rw [List.length_map]; omega, by rw [lvs_data]; omega, fun H7 s7 => ?_⟩
  · rw [List.all_eq_true]
    intro D hD'
    obtain ⟨t, ht, rfl⟩ := List.mem_map.mp hD'
    exact hD t (hok t ht) (all12 t ht)
  rw [lvs_data]
  refine ⟨_, _, rfl, rfl, _, rfl, ?_⟩
  by_cases c2 : 40 < lvsL ts
  · rw [decide_eq_true (by omega)]
    refine iteT ⟨le1k, fun p H8 s8 e8 => q H8 p ((s05.trans s7).trans s8) ?_⟩
    rw [d1, if_pos ⟨rfl, c2⟩]
    exact e8
  rw [decide_eq_false (by omega)]
  refine iteF ⟨_, rfl, true, rfl, iteT ⟨_, rfl, le1k, fun p H8 s8 e8 => q H8 p ((s05.trans s7).trans s8) ?_⟩⟩
  rw [d1, if_neg (fun z => c2 z.2)]
  exact ⟨all12, fun _ => by omega, _, e8, fun _ => ⟨D2, xs, rfl, SqL.of (s8 _ _ (s7 _ _ eD2)), paired_imp (fun _ _ h => (Same.kt (s7.trans s8)).fm _ h) hx⟩, fun z => by cases z⟩
end
end My

set_option Elab.async false
set_option linter.all false
set_option maxRecDepth 100000
namespace My
open PySem L2
theorem ft_isForm : ∀ (t : FT) {k : Nat}, t.Ok → t.dep ≤ k → isForm k t.data = true
  | .leaf co n, k, h, _ => by
    show isForm k (.tuple [.str (leafZ co), .str (Z n)]) = true
    rw [isForm_m2, Bool.and_eq_true]
    exact ⟨by cases co <;> decide +kernel, h⟩
  | .node s l r, k, h, hk => by
    have hk' : 1 + max l.dep r.dep ≤ k := hk
    obtain ⟨j, rfl⟩ : ∃ j, k = j + 1 := ⟨k - 1, by omega⟩
    show isForm (j + 1) (.tuple [.str s.word, l.data, r.data]) = true
    rw [isForm_m3, Bool.and_eq_true, Bool.and_eq_true]
    exact ⟨by cases s <;> decide +kernel, ft_isForm l h.1 (by omega), ft_isForm r h.2 (by omega)⟩
abbrev N_law_ends_right : List Str := ["_law_pen", "_law_ends", "_law_kept", "_law_text", "_law_tokens_here", "_law_spaced_here", "_law_told", "_law_form"]
abbrev P_law_ends_right : List Str := ["_law_pen", "_law_ends"]
/-- ends as forms -/
def Ends6 (ts : List FT) : Prop := 1 ≤ ts.length ∧ (∀ t ∈ ts, t.dep ≤ 12 ∧ t.Ok) ∧ lvsL ts ≤ 40
theorem ends_data {ts : List FT} (h : Ends6 ts) {D : PyData} (hD : D = .list (ts.map FT.data) ∨ D = .tuple (ts.map FT.data)) : isEnds D = true ∧ shortD D = true ∧ widD D = true ∧ D.depth ≤ 40 := by
  obtain ⟨h1, h2, h3⟩ := h
  have hl := len_lvsL ts
  have hf : ∀ d ∈ ts.map FT.data, isForm 12 d = true := fun d hd => by
    obtain ⟨t, ht, rfl⟩ := List.mem_map.mp hd
    exact ft_isForm t (h2 t ht).2 (h2 t ht).1
  have ok : ∀ d ∈ ts.map FT.data, shortD d = true ∧ widD d = true ∧ d.depth ≤ 30 := fun d hd => form_ok (hf d hd) (by decide)
  refine ⟨isEnds_good hD (by rw [List.length_map]; exact h1) (by rw [List.length_map]; omega) (List.all_eq_true.mpr hf) (by rw [lvs_data]; exact h3), ?_⟩
  have a1 := shortAll_of fun d hd => (ok d hd).1
  have a2 := widAll_of fun d hd => (ok d hd).2.1
  have a3 := depthAll_of fun d hd => (ok d hd).2.2
  have hlen : (ts.map FT.data).length ≤ 40 := by
    rw [List.length_map]
    omega
  generalize ts.map FT.data = ds at *
  rcases hD with rfl | rfl
  · refine ⟨by unfold shortD; exact a1, by unfold widD; simp only [Bool.and_eq_true, decide_eq_true_eq]; exact ⟨by omega, a2⟩, ?_⟩
    rw [PyData.depth]
    omega
  · refine ⟨by unfold shortD; exact a1, by unfold widD; simp only [Bool.and_eq_true, decide_eq_true_eq]; exact ⟨by omega, a2⟩, ?_⟩
    rw [PyData.depth]
    omega
theorem paired_two {K : PySem.W.Frag} {H : Hp} : ∀ {xs ys : List V} {ts : List FT}, (∀ t ∈ ts, t.dep ≤ 12) → Paired (fun v t => Fm K H t v) xs ts → Paired (fun v t => Fm K H t v) ys ts → Paired (Tw K H 15) xs ys
  | _, _, _, _, .nil, .nil => .nil
  | _, _, _, h, .cons a1 a2, .cons b1 b2 => .cons (tw_fm _ 15 (by have := h _ (List.mem_cons_self ..); omega) a1 b1) (paired_two (fun t ht => h t (List.mem_cons_of_mem _ ht)) a2 b2)
def spEndsRight (K : PySem.W.Frag) : Sp := fun vs H Q _ => ∃ (d L a : Addr) (ns : List Int) (n : Nat) (xs : List V) (ts : List FT), vs = [.ref d, .ref a] ∧ Pen K H d L ns n ∧ n < 2 ^ 38 ∧ H a = some (.lst xs) ∧ Paired (fun v t => Fm K H t v) xs ts ∧ Ends6 ts ∧
  ∀ H', Keep d H H' → Pen K H' d L ns (n + 1000) → Q (.bl true) H'
section
variable {P : Program} {w : World} {K : PySem.W.Frag} {mg : Str → Option Value} {base : Heap} {f : Addr} {fd : FuncData}
end
end My

set_option Elab.async false
set_option linter.all false
set_option maxRecDepth 100000
namespace My
open PySem L2
theorem due_split {K : PySem.W.Frag} {mg : Str → Option Value} (T : ErrT K mg) {row : Bool} {D : Due5} : 
    (∃ (C : Addr) (fld word : Str) (x : V), (∀ H p, Out5V K row H p D → SqT K H p [.str word, x]) ∧ ErrW T C fld word ∧ word ≠ Str.ofString "told" ∧ flatv x = true ∧ ∀ H Q E, badE C fld x H E → Ret5 K T.N T.D T.M row H Q E D) ∨ ∃ ts, D = .told ts := by
  cases D with
  | text n => exact .inl ⟨T.N, "at", "text", .int (n : Nat), fun H p h => h, .inr (.inl ⟨rfl, rfl, rfl⟩), by decide +kernel, rfl, fun H Q E h => h⟩
  | deep => exact .inl ⟨T.D, "most", "deep", .int 12, fun H p h => h, .inr (.inr (.inl ⟨rfl, rfl, rfl⟩)), by decide +kernel, rfl, fun H Q E h => h⟩
  | many => exact .inl ⟨T.M, "most", "many", .int 40, fun H p h => h, .inr (.inr (.inr ⟨rfl, rfl, rfl⟩)), by decide +kernel, rfl, fun H Q E h => h⟩
  | told ts => exact .inr ⟨ts, rfl⟩
theorem Out5V.x {K : PySem.W.Frag} {row : Bool} {H H' : Hp} {p : Addr} (k : LamX.ExtN H H') : ∀ {D : Due5}, Out5V K row H p D → Out5V K row H' p D
  | .text n, h => seqT_x k h
  | .deep, h => seqT_x k h
  | .many, h => seqT_x k h
  | .told ts, ⟨a, b, v, e, g1, g2⟩ => ⟨a, b, v, seqT_x k e, fun z => by
      obtain ⟨bb, xs, e1, e2, e3⟩ := g1 z
      exact ⟨bb, xs, e1, seqL_x k e2, paired_imp (fun _ _ h => (kt_x k).fm _ h) e3⟩, fun z => by
      obtain ⟨t, e1, e2⟩ := g2 z
      exact ⟨t, e1, (kt_x k).fm _ e2⟩⟩
abbrev s_law_read_right : Stmt := top 51
abbrev N_law_read_right : List Str := ["_law_text", "_law_one", "_law_all_ends"]
abbrev P_law_read_right : List Str := ["_law_text"]
theorem sc_law_read_right : FnScope N_law_read_right P_law_read_right (defScope s_law_read_right) := ⟨rfl, rfl, rfl, by decide +kernel, rfl, by decide +kernel, by decide +kernel⟩
abbrev lamQ5 : Str := "_law_read_right.<locals>.<lambda>"
def spReadRight (K : PySem.W.Frag) (Tb : List (Addr × Str)) : Sp := fun vs H Q _ => ∃ cs : List Nat, vs = [.str (Z cs)] ∧ cs.length ≤ 5500 ∧ LamX.Tabs Tb H ∧ ∀ H', LamX.ExtN H H' → LamX.Tabs Tb H' → Q (.bl true) H'
section
variable {P : Program} {w : World} {K : PySem.W.Frag} {mg : Str → Option Value} {base : Heap} {f : Addr} {fd : FuncData}
theorem ok_law_read_right {c Pt : Addr} {Tb : List (Addr × Str)} {T : ErrT K mg} (TB : LamX.TabB base mg c Pt) (hin : (Pt, lamQ5) ∈ Tb) (hone : ∀ p ∈ Tb, p.1 = Pt → p.2 = lamQ5) (F : FunC K "_law_read_right" "_law_read_right" s_law_read_right f fd (.ref c))
    (C_law_read_due : Cal P w K mg base "_law_read_due" 15 P_law_read_due (spReadDue5 K)) (C_law_same : Cal P w K mg base "_law_same" 17 P_law_same (spSame K 16)) (C_law_faults : Cal P w K mg base "_law_faults" 31 P_law_faults (spFaults P w K mg base T 13 16))
    (Cread_form : CalX P w K mg base "read_form" 9 Pread_form (spRead5 K T.N T.D T.M false)) (Cread_ends : CalX P w K mg base "read_ends" 9 Pread_ends (spRead5 K T.N T.D T.M true)) :
    FnOk P w K mg base CX0 36 f fd P_law_read_right (spReadRight K Tb) := by
  refine F.ok sc_law_read_right (fun vs H Q E h => ?_) (fun A outer s H vs Q E hr h => ?_)
  · obtain ⟨cs, rfl, _⟩ := h
    rfl
  obtain ⟨cs, rfl, hl, tabs, q⟩ := h
  refine ⟨_, (pss_cons (ps_par (i := 1) (j := 2) (by rfl) sc_law_read_right.nd rfl rfl (by decide) rfl rfl (pa_cons (pe_callC C_law_read_due hr (pa_cons (pv 0) (pa_cons pe_bl pa_nil))) (pa_cons (pe_callC C_law_read_due hr (pa_cons (pv 0) (pa_cons pe_bl pa_nil))) pa_nil)) (by rfl))
  (pss_cons (ps_if (pt_cmpR op_eq (pe_ix ix_tup (pv 1) pe_int (fun _ _ => rfl)) pe_str (nomark _))
    (pss_one (ps_if (pt_not (pt_val (pe_callC C_law_same hr (pa_cons (Told.pe_callV Cread_form hr (pa_cons (pv 0) pa_nil)) (pa_cons (pe_ix ix_tup (pv 1) pe_int (fun _ _ => rfl)) pa_nil)))))
      (pss_one (ps_ret pe_bl))
      pss_nil))
    (pss_one (ps_if (pt_not (pt_val (Clo.pe_callT C_law_faults.ok (hr.mono (by decide)) rfl C_law_faults.m C_law_faults.kp C_law_faults.b (fun _ => rfl) (pa_cons
        (Clo.pe_lam (k := 12) (t := fun E => tCallS (spRead5 K T.N T.D T.M false) (WE fun cls d _ H => E cls d H) (tCons (tVar 0) tNil)) TB rfl hin hone (show LamX.LamS (defScope s_law_read_right) _ from LamX.lamS_by (by decide +kernel)) rfl (fun _ _ _ _ _ => rfl)
          (fun A outer s H E f c' hr' => pe_callS Cread_form.ok (hr'.mono (by decide)) rfl Cread_form.m Cread_form.kp Cread_form.b (fun σ => passAt (takes_of rfl rfl rfl rfl) σ) (pa_cons (pv 0) pa_nil)))
        (pa_cons (pv 1) pa_nil)))))
      (pss_one (ps_ret pe_bl))
      pss_nil)))
  (pss_cons (ps_if (pt_cmpR op_eq (pe_ix ix_tup (pv 2) pe_int (fun _ _ => rfl)) pe_str (nomark _))
    (pss_one (ps_ret (pe_callC C_law_same hr (pa_cons (Told.pe_callV Cread_ends hr (pa_cons (pv 0) pa_nil)) (pa_cons (pe_ix ix_tup (pv 2) pe_int (fun _ _ => rfl)) pa_nil)))))
    pss_nil)
  (pss_one (ps_ret (Clo.pe_callT C_law_faults.ok (hr.mono (by decide)) rfl C_law_faults.m C_law_faults.kp C_law_faults.b (fun _ => rfl) (pa_cons
        (Clo.pe_lam (k := 12) (t := fun E => tCallS (spRead5 K T.N T.D T.M true) (WE fun cls d _ H => E cls d H) (tCons (tVar 0) tNil)) TB rfl hin hone (show LamX.LamS (defScope s_law_read_right) _ from LamX.lamS_by (by decide +kernel)) rfl (fun _ _ _ _ _ => rfl)
          (fun A outer s H E f c' hr' => pe_callS Cread_ends.ok (hr'.mono (by decide)) rfl Cread_ends.m Cread_ends.kp Cread_ends.b (fun σ => passAt (takes_of rfl rfl rfl rfl) σ) (pa_cons (pv 0) pa_nil)))
        (pa_cons (pv 2) pa_nil)))))))), ?_⟩
  have hbig : 100000 ≤ sizeLine := by decide
  refine ⟨_, rfl, cs, false, rfl, hl, fun H1 p1 s1 o1 => ?_⟩
  refine ⟨_, rfl, cs, true, rfl, hl, fun H2 p2 s2 o2 => ?_⟩
  refine ⟨_, _, rfl, ?_⟩
  have tabs2 : LamX.Tabs Tb H2 := (tabs.ext s1).ext s2
  have x02 : LamX.ExtN H H2 := LamX.ExtN.of (s1.trans s2)
  rcases due_split (K := K) T (row := false) (D := due5 false cs) with ⟨C1, fld1, word1, y1, h1, ew1, nw1, fy1, r1⟩ | ⟨ts1, d1⟩
  case' inl =>
    have e1 := h1 _ _ o1
    refine ⟨_, rfl, p1, _, 0, _, rfl, rfl, (Same.kt s2).seq e1, rfl, rfl, _, rfl, ?_⟩
    refine ite2 (fun c => absurd (V.str.inj (of_decide_eq_true c)) nw1) (fun _ => ?_)
    refine ⟨tabs2, fun f1 fo1 c1 H9 x9 t9 n9 p9 q9 o9 a9 => ⟨_, rfl, ?_⟩⟩
    have tp9 : SqT K H9 p1 [.str word1, y1] := seqT_x x9 ((Same.kt s2).seq e1)
    intro C KC hC
    have out_ : ∀ {b : Addr} {o : HO}, H9 b = some o → C b = none := fun {b o} e => Clo.out_of e hC
    refine ⟨.ref f1, .ref p1, rfl, f1, fo1, _, rfl, o9, by rw [Clo.plus_out (out_ p9)]; exact p9, Clo.Act.mono (a9 C KC) (by decide), fun Q' E' i1 i2 => ⟨by rw [Clo.plus_out (out_ p9)]; exact p9, by rw [Clo.plus_out (out_ q9)]; exact q9, fun c o e => Clo.plus_in e, ?_⟩⟩
    rw [minus_plus hC]
    refine ⟨_, rfl, cs, rfl, by omega, by omega, r1 _ _ _ (fun d' H10 s10 nd' non => ?_)⟩
    have hu : Clo.plus C (upd H10 d' (.xd [(fld1, y1)])) d' = some (.xd [(fld1, y1)]) := by
      rw [Clo.plus_out (Clo.out_of upd_same non)]
      exact upd_same
    refine i2 _ _ _ ⟨C1, d', fld1, word1, y1, rfl, rfl, ew1, hu, fun pp npp => ?_⟩
    have sG : Same H9 (Clo.plus C (upd H10 d' (.xd [(fld1, y1)]))) := fun b o e => by
      have e1 := s10 _ _ e
      rw [Clo.plus_out (out_ e), upd_ne (ne_of_none e1 nd')]
      exact e1
    have s2' : Same H9 (upd (Clo.plus C (upd H10 d' (.xd [(fld1, y1)]))) pp (.tup [.str word1, y1])) := Same.trans sG (same_new npp _)
    have tw1 : Tw K (upd (Clo.plus C (upd H10 d' (.xd [(fld1, y1)]))) pp (.tup [.str word1, y1])) 16 (.ref pp) (.ref p1) :=
      .inr (.inr (.inl ⟨pp, p1, [.str word1, y1], [.str word1, y1], rfl, rfl, SqT.of upd_same, (Same.kt s2').seq tp9, le1k, .cons (.inl ⟨rfl, rfl⟩) (.cons (.inl ⟨rfl, fy1⟩) .nil)⟩))
    have kp : ∀ H11, Same (upd (Clo.plus C (upd H10 d' (.xd [(fld1, y1)]))) pp (.tup [.str word1, y1])) H11 → ∀ c o, C c = some o → H11 c = some (Clo.Pin c o) := fun H11 s11 c o e => by
      refine s11 _ _ ?_
      have e1 : Clo.plus C (upd H10 d' (.xd [(fld1, y1)])) c = some (Clo.Pin c o) := Clo.plus_in e
      rw [upd_ne (ne_of_none e1 npp)]
      exact e1
    refine ⟨tw1, fun H11 s11 => ⟨kp H11 s11, ?_⟩⟩
    have sM : Same H9 (Clo.minus C H11) := fun b o e => by
      rw [Clo.minus_out (out_ e)]
      exact s11 _ _ (s2' _ _ e)
    have o20 : Out5V K true (Clo.minus C H11) p2 (due5 true cs) := (o2.x x9).x (LamX.ExtN.of sM)
    have t20 := t9.ext sM
    have x20 : LamX.ExtN H (Clo.minus C H11) := (x02.trans x9).trans (LamX.ExtN.of sM)
    refine ⟨true, rfl, iteF ?_⟩
    clear kp tw1 s2' sG hu i1 i2 s11 sM
    generalize Clo.minus C H11 = H20 at *
  case' inr =>
    rw [d1] at o1
    obtain ⟨a1, b1, v1, e1, g1⟩ := o1
    refine ⟨_, rfl, p1, _, 0, _, rfl, rfl, (Same.kt s2).seq e1, rfl, rfl, _, rfl, ?_⟩
    refine ite2 (fun _ => ?_) (fun c => absurd (by decide +kernel) c)
    refine ⟨_, rfl, cs, rfl, by omega, by omega, ?_⟩
    rw [d1]
    intro _ _ H20 v s20 told
    obtain ⟨_, g1⟩ := g1
    obtain ⟨t, rfl, hf1⟩ := g1 rfl
    obtain ⟨_, told⟩ := told
    obtain ⟨t', e', hf2⟩ := told rfl
    obtain rfl : t = t' := by injection e'
    refine ⟨_, rfl, p1, _, 1, _, rfl, rfl, (Same.kt (s2.trans s20)).seq e1, rfl, v, v1, rfl, tw_fm t 16 (by have := a1 t (List.mem_singleton.2 rfl); omega) hf2 ((Same.kt (s2.trans s20)).fm _ hf1), fun H21 s21 => ⟨_, rfl, iteF ?_⟩⟩
    have o20 : Out5V K true H21 p2 (due5 true cs) := (o2.x (LamX.ExtN.of (s20.trans s21)))
    have t20 := (tabs2.ext s20).ext s21
    have x20 : LamX.ExtN H H21 := x02.trans (LamX.ExtN.of (s20.trans s21))
    clear told
    generalize H21 = H20 at *
  all_goals
    rcases due_split (K := K) T (row := true) (D := due5 true cs) with ⟨C2, fld2, word2, y2, h2, ew2, nw2, fy2, r2⟩ | ⟨ts2, d2⟩
    · have e2 := h2 _ _ o20
      refine ⟨_, rfl, p2, _, 0, _, rfl, rfl, e2, rfl, rfl, _, rfl, ?_⟩
      refine ite2 (fun c => absurd (V.str.inj (of_decide_eq_true c)) nw2) (fun _ => ?_)
      refine ⟨t20, fun f1 fo1 c1 H9 x9 t9 n9 p9 q9 o9 a9 => ⟨_, rfl, ?_⟩⟩
      have tp9 : SqT K H9 p2 [.str word2, y2] := seqT_x x9 e2
      intro C KC hC
      have out_ : ∀ {b : Addr} {o : HO}, H9 b = some o → C b = none := fun {b o} e => Clo.out_of e hC
      refine ⟨.ref f1, .ref p2, rfl, f1, fo1, _, rfl, o9, by rw [Clo.plus_out (out_ p9)]; exact p9, Clo.Act.mono (a9 C KC) (by decide), fun Q' E' i1 i2 => ⟨by rw [Clo.plus_out (out_ p9)]; exact p9, by rw [Clo.plus_out (out_ q9)]; exact q9, fun c o e => Clo.plus_in e, ?_⟩⟩
      rw [minus_plus hC]
      refine ⟨_, rfl, cs, rfl, by omega, by omega, r2 _ _ _ (fun d' H10 s10 nd' non => ?_)⟩
      have hu : Clo.plus C (upd H10 d' (.xd [(fld2, y2)])) d' = some (.xd [(fld2, y2)]) := by
        rw [Clo.plus_out (Clo.out_of upd_same non)]
        exact upd_same
      refine i2 _ _ _ ⟨C2, d', fld2, word2, y2, rfl, rfl, ew2, hu, fun pp npp => ?_⟩
      have sG : Same H9 (Clo.plus C (upd H10 d' (.xd [(fld2, y2)]))) := fun b o e => by
        have e1 := s10 _ _ e
        rw [Clo.plus_out (out_ e), upd_ne (ne_of_none e1 nd')]
        exact e1
      have s2' : Same H9 (upd (Clo.plus C (upd H10 d' (.xd [(fld2, y2)]))) pp (.tup [.str word2, y2])) := Same.trans sG (same_new npp _)
      refine ⟨.inr (.inr (.inl ⟨pp, p2, [.str word2, y2], [.str word2, y2], rfl, rfl, SqT.of upd_same, (Same.kt s2').seq tp9, le1k, .cons (.inl ⟨rfl, rfl⟩) (.cons (.inl ⟨rfl, fy2⟩) .nil)⟩)), fun H11 s11 => ⟨fun c o e => ?_, ?_⟩⟩
      · refine s11 _ _ ?_
        have e1 : Clo.plus C (upd H10 d' (.xd [(fld2, y2)])) c = some (Clo.Pin c o) := Clo.plus_in e
        rw [upd_ne (ne_of_none e1 npp)]
        exact e1
      · have sM : Same H9 (Clo.minus C H11) := fun b o e => by
          rw [Clo.minus_out (out_ e)]
          exact s11 _ _ (s2' _ _ e)
        exact q _ ((x20.trans x9).trans (LamX.ExtN.of sM)) (t9.ext sM)
    · rw [d2] at o20
      obtain ⟨a2, b2, v2, e2, g2⟩ := o20
      refine ⟨_, rfl, p2, _, 0, _, rfl, rfl, e2, rfl, rfl, _, rfl, ?_⟩
      refine ite2 (fun _ => ?_) (fun c => absurd (by decide +kernel) c)
      refine ⟨_, rfl, cs, rfl, by omega, by omega, ?_⟩
      rw [d2]
      intro _ _ H21 v s21 told
      obtain ⟨b, xs, rfl, hb, hp⟩ := told.1 rfl
      obtain ⟨b', ys, rfl, hb', hp'⟩ := g2.1 rfl
      have l40 := b2 rfl
      have ll := len_lvsL ts2
      have hlen := paired_len hp
      refine ⟨_, rfl, p2, _, 1, _, rfl, rfl, (Same.kt s21).seq e2, rfl, .ref b, .ref b', rfl, .inr (.inr (.inr ⟨b, b', xs, ys, rfl, rfl, hb, s21.seq hb', by omega, paired_two a2 hp (paired_imp (fun _ _ h => (Same.kt s21).fm _ h) hp')⟩)), fun H22 s22 => ?_⟩
      exact q _ (x20.trans (LamX.ExtN.of (s21.trans s22))) ((t20.ext s21).ext s22)
end
end My

set_option Elab.async false
set_option linter.all false
set_option maxRecDepth 100000
namespace My
open PySem L2
abbrev s_law_spoilt : Stmt := top 52
abbrev N_law_spoilt : List Str := ["_law_pen", "_law_text", "_law_signs", "_law_at", "_law_sign", "_law_way"]
abbrev P_law_spoilt : List Str := ["_law_pen", "_law_text"]
theorem sc_law_spoilt : FnScope N_law_spoilt P_law_spoilt (defScope s_law_spoilt) := ⟨rfl, rfl, rfl, by decide +kernel, rfl, by decide +kernel, by decide +kernel⟩
abbrev s_law_loose : Stmt := top 53
abbrev N_law_loose : List Str := ["_law_pen", "_law_words", "_law_k"]
abbrev P_law_loose : List Str := ["_law_pen"]
theorem sc_law_loose : FnScope N_law_loose P_law_loose (defScope s_law_loose) := ⟨rfl, rfl, rfl, by decide +kernel, rfl, by decide +kernel, by decide +kernel⟩
abbrev s_law_brackets : Stmt := top 54
abbrev N_law_brackets : List Str := ["_law_pen", "_law_many", "_law_mark", "_law_text"]
abbrev P_law_brackets : List Str := ["_law_pen"]
theorem sc_law_brackets : FnScope N_law_brackets P_law_brackets (defScope s_law_brackets) := ⟨rfl, rfl, rfl, by decide +kernel, rfl, by decide +kernel, by decide +kernel⟩
theorem Z_of (z : Str) : Z z.cps.toList = z := by
  obtain ⟨a⟩ := z
  show (⟨a.toList.toArray⟩ : Str) = ⟨a⟩
  rw [Array.toArray_toList]
theorem cut_size (z : Str) (lo hi : Option Int) : (cutS z lo hi).length ≤ HT.sIx z.length z.length hi - HT.sIx z.length 0 lo ∧ (cutS z lo hi).length ≤ z.length - HT.sIx z.length 0 lo := by
  unfold cutS
  show (((z.cps.toList.drop _).take _).toArray).size ≤ _ ∧ (((z.cps.toList.drop _).take _).toArray).size ≤ _
  rw [List.size_toArray, List.length_take, List.length_drop]
  have : z.cps.toList.length = z.length := Array.length_toList
  omega
theorem six_some {n d : Nat} {a : Int} (h : 0 ≤ a) : HT.sIx n d (some a) = min a.toNat n := by
  show (if a < 0 then (a + (n : Int)).toNat else min a.toNat n) = _
  rw [if_neg (by omega)]
theorem cut_hi (z : Str) {a : Int} (h : 0 ≤ a) : (cutS z none (some a)).length ≤ a.toNat := by
  have := (cut_size z none (some a)).1
  rw [six_some h] at this
  omega
theorem cut_lo (z : Str) {a : Int} (h : 0 ≤ a) : (cutS z (some a) none).length ≤ z.length - a.toNat := by
  have := (cut_size z (some a) none).2
  rw [six_some h] at this
  omega
theorem cut_mid (z : Str) {a b : Int} (h : 0 ≤ a) (h2 : 0 ≤ b) : (cutS z (some a) (some b)).length ≤ b.toNat - a.toNat := by
  have := (cut_size z (some a) (some b)).1
  rw [six_some h, six_some h2] at this
  omega
def spSpoilt (K : PySem.W.Frag) : Sp := fun vs H Q _ => ∃ (d L : Addr) (ns : List Int) (n : Nat) (z : Str), vs = [.ref d, .str z] ∧ Pen K H d L ns n ∧ n < 2 ^ 39 ∧ z.length ≤ 5000 ∧
  ∀ z' H', z'.length ≤ z.length + 20 → Keep d H H' → Pen K H' d L ns (n + 10) → Q (.str z') H'
def spLoose (K : PySem.W.Frag) : Sp := fun vs H Q _ => ∃ (d L : Addr) (ns : List Int) (n : Nat), vs = [.ref d] ∧ Pen K H d L ns n ∧ n < 2 ^ 39 ∧
  ∀ z' H', z'.length ≤ 100 → Keep d H H' → Pen K H' d L ns (n + 20) → Q (.str z') H'
def spBrackets (K : PySem.W.Frag) : Sp := fun vs H Q _ => ∃ (d L : Addr) (ns : List Int) (n : Nat), vs = [.ref d] ∧ Pen K H d L ns n ∧ n < 2 ^ 39 ∧
  ∀ z' H', z'.length ≤ 5000 → Keep d H H' → Pen K H' d L ns (n + 10) → Q (.str z') H'
section
variable {P : Program} {w : World} {K : PySem.W.Frag} {mg : Str → Option Value} {base : Heap} {f : Addr} {fd : FuncData}
theorem ok_law_spoilt (T : Txt K mg) (F : Fun K "_law_spoilt" "_law_spoilt" s_law_spoilt f fd) (C_law_draw : Cal P w K mg base "_law_draw" 1 P_law_draw (spDraw K)) (C_law_pick : Cal P w K mg base "_law_pick" 2 P_law_pick (spPick K)) :
    FnOk P w K mg base CX0 3 f fd P_law_spoilt (spSpoilt K) := by
  refine F.ok sc_law_spoilt (fun vs H Q E h => ?_) (fun cdv A outer s H vs Q E hr h => ?_)
  · obtain ⟨d, L, ns, n, z, rfl, _⟩ := h
    rfl
  obtain ⟨d, L, ns, n, z, rfl, p, hn, hz, q⟩ := h
  refine ⟨_, (pss_cons (ps_set (i := 2) sc_law_spoilt.nd rfl (Or.inl rfl) pe_str)
  (pss_cons (ps_par3 (i := 3) (j := 4) (l := 5) (by rfl) sc_law_spoilt.nd rfl rfl rfl (by decide) (by decide) (by decide) rfl rfl rfl (pa_cons (pe_callC C_law_draw hr (pa_cons (pv 0) (pa_cons (pe_op op_add (pe_callB call_len rfl T.len (by decide +kernel) (pa_cons (pv 1) pa_nil)) pe_int) pa_nil))) (pa_cons (pe_callC C_law_pick hr (pa_cons (pv 0) (pa_cons (pv 2) pa_nil))) (pa_cons (pe_callC C_law_draw hr (pa_cons (pv 0) (pa_cons pe_int pa_nil))) pa_nil))) (by rfl))
  (pss_cons (ps_if (pt_cmpR op_lt (pv 5) pe_int (nomark _))
    (pss_one (ps_ret (pe_op op_add_str (pe_op op_add_str (pe_slice sl_str (pv 1) po_none (po_some (pv 3))) (pv 4)) (pe_slice sl_str (pv 1) (po_some (pv 3)) po_none))))
    pss_nil)
  (pss_cons (ps_if (pt_cmpR op_lt (pv 5) pe_int (nomark _))
    (pss_one (ps_ret (pe_op op_add_str (pe_slice sl_str (pv 1) po_none (po_some (pv 3))) (pe_slice sl_str (pv 1) (po_some (pe_op op_add (pv 3) pe_int)) po_none))))
    pss_nil)
  (pss_cons (ps_if (pt_cmpR op_eq (pv 5) pe_int (nomark _))
    (pss_one (ps_ret (pe_slice sl_str (pv 1) po_none (po_some (pv 3)))))
    pss_nil)
  (pss_cons (ps_if (pt_cmpR op_eq (pv 5) pe_int (nomark _))
    (pss_one (ps_ret (pe_op op_add_str (pe_op op_add_str (pe_slice sl_str (pv 1) po_none (po_some (pv 3))) (pe_slice sl_str pe_str po_none (po_some (pe_op op_add pe_int (pe_callC C_law_draw hr (pa_cons (pv 0) (pa_cons pe_int pa_nil))))))) (pe_slice sl_str (pv 1) (po_some (pv 3)) po_none))))
    pss_nil)
  (pss_cons (ps_if (pt_cmpR op_eq (pv 5) pe_int (nomark _))
    (pss_one (ps_ret (pe_op op_add_str (pe_op op_add_str (pe_slice sl_str (pv 1) po_none (po_some (pv 3))) (pe_slice sl_str (pv 1) (po_some (pv 3)) (po_some (pe_op op_add (pv 3) pe_int)))) (pe_slice sl_str (pv 1) (po_some (pv 3)) po_none))))
    pss_nil)
  (pss_one (ps_ret (pe_op op_add_str (pe_op op_add_str (pe_slice sl_str (pv 1) po_none (po_some (pv 3))) (pv 4)) (pe_slice sl_str (pv 1) (po_some (pe_op op_add (pv 3) pe_int)) po_none))))))))))), ?_⟩
  have big : 100000 ≤ sizeLine := by decide
  have hz' : z.length ≤ sizeLine := by omega
  refine ⟨_, rfl, _, rfl, _, _, rfl, ⟨hz', rfl⟩, _, _, rfl, rfl, d, L, ns, n, _, rfl, p, by omega, by omega, by omega, fun at_ H1 a0 a1 k1 p1 => ?_⟩
  refine ⟨_, rfl, _, rfl, d, L, ns, n + 1, _, rfl, p1, by omega, .inr ⟨_, rfl, by decide +kernel, by decide +kernel, fun c H2 hc k2 p2 => ?_⟩⟩
  refine ⟨_, rfl, d, L, ns, n + 2, 8, rfl, p2, by omega, by decide, by decide, fun way H3 w0 w1 k3 p3 => ?_⟩
  have l1 : (⟨#[c]⟩ : Str).length = 1 := rfl
  refine ⟨_, _, _, rfl, ?_⟩
  have kk := (k1.trans k2).trans k3
  have b1 := cut_hi z a0
  have b2 := cut_lo z a0
  have b3 := cut_lo z (a := at_ + 1) (by omega)
  have b4 := cut_mid z (a := at_) (b := at_ + 3) a0 (by omega)
  have b5 := cut_len z none (some at_)
  refine ⟨_, rfl, _, _, rfl, rfl, _, rfl, ?_⟩
  refine ite2 (fun c1 => ?_) (fun c1 => ?_)
  · refine ⟨_, rfl, _, rfl, _, rfl, z, rfl, hz', _, rfl, _, _, rfl, rfl, by omega, _, rfl, _, rfl, _, rfl, z, rfl, hz', _, _, rfl, rfl, by rw [cat_len]; omega, ?_⟩
    refine q _ _ ?_ kk (p3.mono (by omega))
    rw [cat_len, cat_len]
    omega
  refine ⟨_, rfl, _, _, rfl, rfl, _, rfl, ?_⟩
  refine ite2 (fun c2 => ?_) (fun c2 => ?_)
  · refine ⟨_, rfl, _, rfl, _, rfl, z, rfl, hz', _, rfl, _, rfl, _, _, rfl, rfl, _, rfl, z, rfl, hz', _, _, rfl, rfl, by omega, ?_⟩
    refine q _ _ ?_ kk (p3.mono (by omega))
    rw [cat_len]
    omega
  refine ⟨_, rfl, rfl, _, rfl, ?_⟩
  refine ite2 (fun c3 => ?_) (fun c3 => ?_)
  · refine ⟨_, rfl, _, rfl, _, rfl, z, rfl, hz', ?_⟩
    exact q _ _ (by omega) kk (p3.mono (by omega))
  refine ⟨_, rfl, rfl, _, rfl, ?_⟩
  refine ite2 (fun c4 => ?_) (fun c4 => ?_)
  · refine ⟨_, rfl, _, rfl, _, rfl, z, rfl, hz', _, rfl, d, L, ns, n + 3, 4, rfl, p3, by omega, by decide, by decide, fun r H4 r0 r1 k4 p4 => ?_⟩
    have b6 := cut_hi (Str.ofString "abcdefghijklmno") (a := 11 + r) (by omega)
    refine ⟨_, _, rfl, rfl, _, rfl, _, rfl, by decide, _, _, rfl, rfl, by omega, _, rfl, _, rfl, _, rfl, z, rfl, hz', _, _, rfl, rfl, by rw [cat_len]; omega, ?_⟩
    refine q _ _ ?_ (kk.trans k4) (p4.mono (by omega))
    rw [cat_len, cat_len]
    omega
  refine ⟨_, rfl, rfl, _, rfl, ?_⟩
  refine ite2 (fun c5 => ?_) (fun c5 => ?_)
  · refine ⟨_, rfl, _, rfl, _, rfl, z, rfl, hz', _, rfl, _, rfl, _, rfl, _, rfl, _, _, rfl, rfl, _, rfl, z, rfl, hz', _, _, rfl, rfl, by omega, _, rfl, _, rfl, _, rfl, z, rfl, hz', _, _, rfl, rfl, by rw [cat_len]; omega, ?_⟩
    refine q _ _ ?_ kk (p3.mono (by omega))
    rw [cat_len, cat_len]
    omega
  · refine ⟨_, rfl, _, rfl, _, rfl, z, rfl, hz', _, rfl, _, _, rfl, rfl, by omega, _, rfl, _, rfl, _, _, rfl, rfl, _, rfl, z, rfl, hz', _, _, rfl, rfl, by rw [cat_len]; omega, ?_⟩
    refine q _ _ ?_ kk (p3.mono (by omega))
    rw [cat_len, cat_len]
    omega
def looseW : List Str := ["a", "b~", "(", ")", "*", "+", "|", "&", ",", " ", "c1", "a * b", "(a & b)", "1"]
theorem loose_len : ∀ z ∈ looseW, z.length ≤ 7 := by decide +kernel
theorem flat_le (c : Nat) : ∀ ts : List (List Nat), (∀ t ∈ ts, t.length ≤ c) → ts.flatten.length ≤ c * ts.length
  | [], _ => Nat.zero_le _
  | t :: ts, h => by
    have h1 := h t (List.mem_cons_self ..)
    have h2 := flat_le c ts fun u m => h u (List.mem_cons_of_mem _ m)
    rw [List.flatten_cons, List.length_append, List.length_cons, Nat.mul_succ]
    omega
theorem ok_law_loose (T : Txt K mg) (F : Fun K "_law_loose" "_law_loose" s_law_loose f fd) (C_law_draw : Cal P w K mg base "_law_draw" 1 P_law_draw (spDraw K)) (C_law_pick : Cal P w K mg base "_law_pick" 2 P_law_pick (spPick K)) :
    FnOk P w K mg base CX0 3 f fd P_law_loose (spLoose K) := by
  refine F.ok sc_law_loose (fun vs H Q E h => ?_) (fun cdv A outer s H vs Q E hr h => ?_)
  · obtain ⟨d, L, ns, n, rfl, _⟩ := h
    rfl
  obtain ⟨d, L, ns, n, rfl, p, hn, q⟩ := h
  refine ⟨_, (pss_cons (ps_set (i := 1) sc_law_loose.nd rfl (Or.inr rfl) (pe_lst (pa_cons pe_str (pa_cons pe_str (pa_cons pe_str (pa_cons pe_str (pa_cons pe_str (pa_cons pe_str (pa_cons pe_str (pa_cons pe_str (pa_cons pe_str (pa_cons pe_str (pa_cons pe_str (pa_cons pe_str (pa_cons pe_str (pa_cons pe_str pa_nil))))))))))))))))
  (pss_one (ps_ret (pe_join pe_str (pe_lc (own := [("_law_k", 2)]) (g := (gName 2)) rfl sc_law_loose.nd (pi_range1 rfl T.range (pa_cons (pe_op op_add pe_int (pe_callC C_law_draw hr (pa_cons (pv 0) (pa_cons pe_int pa_nil)))) pa_nil)) (blkOk_by (own := [("_law_k", 2)]) (N := N_law_loose) (sc := defScope s_law_loose) (by decide +kernel)) (fun _ _ _ _ _ => (pg_name (i := 2) sc_law_loose.nd rfl (Or.inl rfl))) (fun _ _ _ _ _ => pts_nil) (fun _ _ _ _ _ => (pe_callC C_law_pick hr (pa_cons (pv 0) (pa_cons (pv 1) pa_nil))))))))), ?_⟩
  have big : 100000 ≤ sizeLine := by decide
  refine ⟨by show 14 ≤ sizeLine; decide, fun W nW => ?_⟩
  refine ⟨⟨_, rfl⟩, ?_⟩
  have sW := same_new nW (.lst (looseW.map V.str))
  have pW := p.same sW
  have eW : upd H W (.lst (looseW.map V.str)) W = some (.lst (looseW.map V.str)) := upd_same
  have nWd : W ≠ d := by
    obtain ⟨kvs, ed⟩ := p.isDk
    exact (ne_of_none ed nW).symm
  refine ⟨_, rfl, d, L, ns, n, 12, rfl, pW, by omega, by decide, by decide, fun r H1 r0 r1 k1 p1 => ?_⟩
  have eW1 := k1 W _ nWd eW
  have k01 : Keep d H H1 := (Same.toKeep sW).trans k1
  clear eW pW k1
  refine ⟨_, _, rfl, rfl, 1 + r, rfl, by omega, by omega, fun D nD => lc_range (lo := 0) (n := (1 + r).toNat)
    (fun i H' => Keep d H1 H' ∧ Pen K H' d L ns (n + 1 + i) ∧ ∃ ts : List (List Nat), ts.length = i ∧ (∀ t ∈ ts, t.length ≤ 7) ∧ H' D = some (.lst ((ts.map Z).map V.str))) ?_ (fun i H2 hi ⟨k2, p2, ts, hts, hle, e⟩ => ?_) (fun H2 ⟨k2, p2, ts, hts, hle, e⟩ => ?_)⟩
  · exact ⟨Same.toKeep (same_new nD _), p1.fresh (Keep.refl _ _) p1.cells p1.isDk nD, [], rfl, by simp, upd_same⟩
  · have nDd : D ≠ d := by
      obtain ⟨kvs, ed⟩ := p1.isDk
      exact (ne_of_none ed nD).symm
    refine ⟨rfl, _, rfl, _, rfl, d, L, ns, n + 1 + i, _, rfl, p2, by omega, .inl ⟨W, _, rfl, SqL.of (k2 W _ nWd eW1), by simp [looseW], by show 14 ≤ 1000; decide, fun x H3 hx k3 p3 => ?_⟩⟩
    obtain ⟨z, hz, rfl⟩ := List.mem_map.1 hx
    refine ⟨_, k3 D _ nDd e, small1000 (by rw [List.length_map, List.length_map]; omega), keep_fresh (k2.trans k3) nD, (p3.fresh (k2.trans k3) p1.cells p1.isDk nD).mono (by omega), ts ++ [z.cps.toList], by rw [List.length_append, hts]; rfl, ?_, ?_⟩
    · intro x hx
      rcases List.mem_append.mp hx with hx | hx
      · exact hle x hx
      · rw [List.mem_singleton.mp hx]
        exact loose_len z hz
    · rw [upd_same, List.map_append, List.map_append]
      show _ = some (HO.lst (_ ++ [V.str (Z z.cps.toList)]))
      rw [Z_of]
  · have fl := flat_le 7 ts hle
    refine ⟨_, D, ts.map Z, rfl, rfl, .inl (SqL.of e), ?_, ?_⟩
    · rw [sum_flat]
      show _ + (ts.map Z).length * 0 ≤ 16777216
      omega
    · have e0 : Str.ofString "" = Str.empty := rfl
      rw [show (Txt.join (Str.ofString "") (ts.map Z)) = Z ts.flatten from join_Z ts]
      exact q _ _ (by rw [Z_len]; omega) (k01.trans k2) (p2.mono (by omega))
theorem reps_len : ∀ (k : Nat) (a : List Nat), (reps k a).length = k * a.length
  | 0, a => by rw [Nat.zero_mul]; rfl
  | k + 1, a => by rw [reps_succ, List.length_append, reps_len k a, Nat.succ_mul]; omega
theorem ok_law_brackets (T : Txt K mg) (F : Fun K "_law_brackets" "_law_brackets" s_law_brackets f fd) (C_law_draw : Cal P w K mg base "_law_draw" 1 P_law_draw (spDraw K)) (C_law_pick : Cal P w K mg base "_law_pick" 2 P_law_pick (spPick K)) :
    FnOk P w K mg base CX0 3 f fd P_law_brackets (spBrackets K) := by
  refine F.ok sc_law_brackets (fun vs H Q E h => ?_) (fun cdv A outer s H vs Q E hr h => ?_)
  · obtain ⟨d, L, ns, n, rfl, _⟩ := h
    rfl
  obtain ⟨d, L, ns, n, rfl, p, hn, q⟩ := h
  refine ⟨_, (pss_cons (ps_par (i := 1) (j := 2) (by rfl) sc_law_brackets.nd rfl rfl (by decide) rfl rfl (pa_cons (pe_callC C_law_pick hr (pa_cons (pv 0) (pa_cons (pe_lst (pa_cons pe_int (pa_cons pe_int (pa_cons pe_int (pa_cons pe_int (pa_cons pe_int (pa_cons pe_int (pa_cons pe_int (pa_cons pe_int pa_nil))))))))) pa_nil))) (pa_cons (pe_callC C_law_pick hr (pa_cons (pv 0) (pa_cons (pe_lst (pa_cons pe_str (pa_cons pe_str (pa_cons pe_str (pa_cons pe_str pa_nil))))) pa_nil))) pa_nil)) (by rfl))
  (pss_cons (ps_set (i := 3) sc_law_brackets.nd rfl (Or.inl rfl) (pe_op op_add_str (pe_op op_add_str (pe_op op_mulT pe_str (pv 1)) pe_str) (pe_op op_mulT (pe_op op_add_str (pv 2) pe_str) (pe_op op_sub (pv 1) (pe_callC C_law_draw hr (pa_cons (pv 0) (pa_cons pe_int pa_nil)))))))
  (pss_one (ps_ret (pe_op op_add_str (pv 3) (pe_callC C_law_pick hr (pa_cons (pv 0) (pa_cons (pe_lst (pa_cons pe_str (pa_cons (pe_op op_add_str (pv 2) pe_str) (pa_cons pe_str (pa_cons (pv 2) (pa_cons pe_str (pa_cons pe_str pa_nil))))))) pa_nil)))))))), ?_⟩
  have big : 100000 ≤ sizeLine := by decide
  refine ⟨_, rfl, by show 8 ≤ sizeLine; decide, fun p0 np0 => ?_⟩
  refine ⟨d, L, ns, n, _, rfl, p.same (same_new np0 _), by omega, .inl ⟨p0, _, rfl, SqL.of upd_same, by simp, by show 8 ≤ 1000; decide, fun x H1 hx k1 p1 => ?_⟩⟩
  have k1' : Keep d H H1 := (Same.toKeep (same_new np0 _)).trans k1
  obtain ⟨m, rfl, m1, m2⟩ : ∃ m : Nat, x = V.int m ∧ 1 ≤ m ∧ m ≤ 1200 := by
    simp only [List.mem_cons, List.not_mem_nil, or_false] at hx
    rcases hx with rfl | rfl | rfl | rfl | rfl | rfl | rfl | rfl <;>
      first | exact ⟨1, rfl, by decide, by decide⟩ | exact ⟨2, rfl, by decide, by decide⟩ | exact ⟨10, rfl, by decide, by decide⟩ | exact ⟨11, rfl, by decide, by decide⟩ | exact ⟨12, rfl, by decide, by decide⟩ | exact ⟨13, rfl, by decide, by decide⟩ | exact ⟨60, rfl, by decide, by decide⟩ | exact ⟨1200, rfl, by decide, by decide⟩
  refine ⟨_, rfl, by show 4 ≤ sizeLine; decide, fun p4 np4 => ?_⟩
  refine ⟨d, L, ns, n + 1, _, rfl, p1.same (same_new np4 _), by omega, .inl ⟨p4, _, rfl, SqL.of upd_same, by simp, by show 4 ≤ 1000; decide, fun y H2 hy k2 p2 => ?_⟩⟩
  have k2' : Keep d H H2 := k1'.trans ((Same.toKeep (same_new np4 _)).trans k2)
  obtain ⟨c, rfl⟩ : ∃ c : Nat, y = V.str (Z [c]) := by
    simp only [List.mem_cons, List.not_mem_nil, or_false] at hy
    rcases hy with rfl | rfl | rfl | rfl
    · exact ⟨42, rfl⟩
    · exact ⟨124, rfl⟩
    · exact ⟨38, rfl⟩
    · exact ⟨43, rfl⟩
  have lc : (Z [c]).length = 1 := rfl
  have lb : (Str.ofString "b)").length = 2 := rfl
  have la : (Str.ofString "a").length = 1 := rfl
  refine ⟨_, _, rfl, ?_⟩
  have lo : (Z (reps m [40])).length = m := by
    rw [Z_len, reps_len]
    show m * 1 = m
    omega
  have la2 : (Z (reps m [40]) ++ Str.ofString "a").length = m + 1 := by rw [cat_len, lo, la]
  refine ⟨_, rfl, [40], m, rfl, rfl, by decide, by omega, _, _, rfl, rfl, by rw [lo, la]; omega, _, rfl, _, _, rfl, rfl, by rw [lc, lb]; omega, _, rfl, _, rfl, d, L, ns, n + 2, 2, rfl, p2, by omega, by decide, by decide, fun r H3 r0 r1 k3 p3 => ?_⟩
  obtain ⟨m', hm'⟩ : ∃ m' : Nat, (m : Int) - r = (m' : Int) := ⟨((m : Int) - r).toNat, by omega⟩
  have l3 : (Z (reps m' (Z [c] ++ Str.ofString "b)").cps.toList)).length = m' * 3 := by
    rw [Z_len, reps_len]
    rfl
  refine ⟨_, _, rfl, rfl, (Z [c] ++ Str.ofString "b)").cps.toList, m', by rw [Z_of], congrArg V.int hm', (by show 3 ≤ 16; decide), by omega, _, _, rfl, rfl, by rw [la2, l3]; omega, ?_⟩
  have l4 : (Z (reps m [40]) ++ Str.ofString "a" ++ Z (reps m' (Z [c] ++ Str.ofString "b)").cps.toList)).length = m + 1 + m' * 3 := by rw [cat_len, la2, l3]
  refine ⟨_, rfl, _, rfl, _, rfl, _, _, rfl, rfl, by rw [lc]; exact (by decide : 2 ≤ sizeLine), _, rfl, (by show 6 ≤ sizeLine; decide), fun p5 np5 => ?_⟩
  refine ⟨d, L, ns, n + 3, _, rfl, p3.same (same_new np5 _), by omega, .inl ⟨p5, _, rfl, SqL.of upd_same, by simp, by show 6 ≤ 1000; decide, fun x H4 hx k4 p4 => ?_⟩⟩
  obtain ⟨u, rfl, hu⟩ : ∃ u : Str, x = V.str u ∧ u.length ≤ 4 := by
    simp only [List.mem_cons, List.not_mem_nil, or_false] at hx
    rcases hx with rfl | rfl | rfl | rfl | rfl | rfl
    · exact ⟨_, rfl, by decide⟩
    · exact ⟨_, rfl, by rw [cat_len]; exact (by decide : 1 + 1 ≤ 4)⟩
    · exact ⟨_, rfl, by decide⟩
    · exact ⟨_, rfl, by rw [lc]; decide⟩
    · exact ⟨_, rfl, by decide⟩
    · exact ⟨_, rfl, by decide⟩
  refine ⟨_, _, rfl, rfl, by rw [l4]; omega, ?_⟩
  refine q _ _ ?_ ((k2'.trans k3).trans ((Same.toKeep (same_new np5 _)).trans k4)) (p4.mono (by omega))
  rw [cat_len, l4]
  omega
end
end My

set_option Elab.async false
set_option linter.all false
set_option maxRecDepth 100000
namespace My
open PySem L2
abbrev slaw : Stmt := top 55
abbrev Nlaw : List Str := ["_law_script", "_law_pen", "_law_ends", "_law_text", "_law_one", "_law_spoilt_here", "_law_some"]
abbrev Plaw : List Str := ["_law_script"]
theorem sclaw : FnScope Nlaw Plaw (defScope slaw) := ⟨rfl, rfl, rfl, by decide +kernel, rfl, by decide +kernel, by decide +kernel⟩
theorem forms_ft : ∀ {ds : List PyData}, ds.all (isForm 12) = true → ∃ ts : List FT, ds = ts.map FT.data ∧ ∀ t ∈ ts, t.dep ≤ 12 ∧ t.Ok
  | [], _ => ⟨[], rfl, fun _ h => by cases h⟩
  | D :: ds, h => by
    rw [List.all_cons, Bool.and_eq_true] at h
    obtain ⟨t, e, o, dp⟩ := ft_of h.1
    obtain ⟨ts, e2, h2⟩ := forms_ft h.2
    refine ⟨t :: ts, by rw [e, e2]; rfl, fun u hu => ?_⟩
    rcases List.mem_cons.mp hu with rfl | hu
    · exact ⟨dp, o⟩
    · exact h2 u hu
theorem ends_ft {ds : List PyData} (h : isEnds (.list ds) = true) : ∃ ts : List FT, ds = ts.map FT.data ∧ Ends6 ts := by
  have key : (decide (1 ≤ ds.length) && decide (ds.length ≤ 40) && ds.all (isForm 12) && decide ((ds.flatMap lvs).length ≤ 40)) = true := h
  simp only [Bool.and_eq_true, decide_eq_true_eq] at key
  obtain ⟨⟨⟨h1, _⟩, h3⟩, h4⟩ := key
  obtain ⟨ts, rfl, h5⟩ := forms_ft h3
  rw [lvs_data] at h4
  rw [List.length_map] at h1
  exact ⟨ts, rfl, h1, h5, h4⟩
theorem fm_of_all {K : PySem.W.Frag} {H : Hp} : ∀ {ts : List FT} {us : List V}, DpAll K H us (ts.map FT.data) → Paired (fun v t => Fm K H t v) us ts
  | [], _, h => by cases h; exact .nil
  | t :: ts, _, h => by
    cases h with | cons h1 h2 => exact .cons (fm_of_dp t h1) (fm_of_all h2)
theorem toks_ft (t : FT) : (toks false t).length ≤ (toks true t).length := by
  cases t with
  | leaf co n => exact Nat.le_refl _
  | node s l r =>
    show (toks true l ++ ([s.code] :: toks true r)).length ≤ ([40] :: (toks true l ++ ([s.code] :: toks true r) ++ [[41]])).length
    rw [List.length_cons, List.length_append (bs := [[41]])]
    omega
theorem tabs_lst {D : Addr} {H : Hp} {Tb : List (Addr × Str)} {acc ys : List V} (hD : H D = some (.lst acc)) (t : LamX.Tabs Tb H) : LamX.Tabs Tb (upd H D (.lst ys)) := fun p hp => by
  obtain ⟨ps, h1, h2, h3⟩ := t p hp
  refine ⟨ps, ?_, h2, fun pos cv hc => ?_⟩
  · rw [upd_ne (fun z => by rw [z, hD] at h1; cases h1)]
    exact h1
  obtain ⟨c, e, hc2⟩ := h3 pos cv hc
  refine ⟨c, e, ?_⟩
  rw [upd_ne (fun z => by
    rw [z, hD] at hc2
    have z' := Option.some.inj hc2
    unfold LamX.CodeO at z'
    cases z')]
  exact hc2
def spLaw5 (K : PySem.W.Frag) (Tb : List (Addr × Str)) : Sp := fun vs H Q _ => ∃ (a : Addr) (ns : List Int), vs = [.ref a] ∧ SqL K H a (ns.map V.int) ∧ ns.length ≤ 63 ∧ LamX.Tabs Tb H ∧ ∀ H', Q (.bl true) H'
section
variable {P : Program} {w : World} {K : PySem.W.Frag} {mg : Str → Option Value} {base : Heap} {f : Addr} {fd : FuncData}
theorem ok_law5 {Tb : List (Addr × Str)} (T : Txt K mg) (hall : mg "all" = none) (F : Fun K "law" "law" slaw f fd) (C_law_begin : Cal P w K mg base "_law_begin" 1 ["_law_script"] (spBegin K)) (C_law_some_ends : Cal P w K mg base "_law_some_ends" 16 P_law_some_ends (spSomeEnds K)) (C_law_spaced : Cal P w K mg base "_law_spaced" 3 P_law_spaced (spSpaced K))
    (C_law_ends_tokens : Cal P w K mg base "_law_ends_tokens" 22 P_law_ends_tokens (spEndsTokens K)) (C_law_tokens : Cal P w K mg base "_law_tokens" 21 P_law_form_text (spTokens K 20)) (C_law_spoilt : Cal P w K mg base "_law_spoilt" 3 P_law_spoilt (spSpoilt K)) (C_law_loose : Cal P w K mg base "_law_loose" 3 P_law_loose (spLoose K))
    (C_law_brackets : Cal P w K mg base "_law_brackets" 3 P_law_brackets (spBrackets K)) (C_law_read_right : Cal P w K mg base "_law_read_right" 36 P_law_read_right (spReadRight K Tb)) : FnOk P w K mg base CX0 37 f fd Plaw (spLaw5 K Tb) := by
  refine F.ok sclaw (fun vs H Q E h => ?_) (fun cdv A outer s H vs Q E hr h => ?_)
  · obtain ⟨a, ns, rfl, _⟩ := h
    rfl
  obtain ⟨a, ns, rfl, hS, h63, tabs, q⟩ := h
  refine ⟨_, (pss_cons (ps_set (i := 1) sclaw.nd rfl (Or.inr rfl) (pe_callC C_law_begin hr (pa_cons (pv 0) pa_nil)))
  (pss_cons (ps_set (i := 2) sclaw.nd rfl (Or.inl rfl) (pe_callC C_law_some_ends hr (pa_cons (pv 1) (pa_cons pe_int (pa_cons pe_int pa_nil)))))
  (pss_cons (ps_set (i := 3) sclaw.nd rfl (Or.inl rfl) (pe_callC C_law_spaced hr (pa_cons (pv 1) (pa_cons (pe_callC C_law_ends_tokens hr (pa_cons (pv 2) pa_nil)) pa_nil))))
  (pss_cons (ps_set (i := 4) sclaw.nd rfl (Or.inl rfl) (pe_callC C_law_spaced hr (pa_cons (pv 1) (pa_cons (pe_callC C_law_tokens hr (pa_cons (pe_ix ix_list (pv 2) pe_int (fun _ _ => rfl)) (pa_cons pe_bl pa_nil))) pa_nil))))
  (pss_cons (ps_setLc (i := 5) (own := [("_law_some", 6)]) (g := (gName 6)) rfl sclaw.nd rfl rfl (sw_true rfl rfl rfl (by decide +kernel)) (pi_list (pe_lstN (pa_cons (pv 3) (pa_cons (pv 4) (pa_cons (pv 3) pa_nil))))) (blkOk_by (own := [("_law_some", 6)]) (N := Nlaw) (sc := defScope slaw) (by decide +kernel)) (fun _ _ _ _ _ => (pg_name (i := 6) sclaw.nd rfl (Or.inl rfl))) (fun _ _ _ _ _ => pts_nil) (fun _ _ _ _ _ => (pe_callC C_law_spoilt hr (pa_cons (pv 1) (pa_cons (pv 6) pa_nil)))))
  (pss_cons (ps_set (i := 5) sclaw.nd rfl (Or.inl rfl) (pe_op op_catLN (pv 5) (pe_lstN (pa_cons (pe_callC C_law_spoilt hr (pa_cons (pv 1) (pa_cons (pe_ix ix_list (pv 5) pe_int (fun _ _ => rfl)) pa_nil))) (pa_cons (pe_callC C_law_loose hr (pa_cons (pv 1) pa_nil)) (pa_cons (pe_callC C_law_brackets hr (pa_cons (pv 1) pa_nil)) (pa_cons (pv 3) (pa_cons (pv 4) pa_nil))))))))
  (pss_one (ps_ret (pe_callB (cr_all rfl) rfl hall (by decide +kernel) (pa_cons (pe_lc (own := [("_law_some", 6)]) (g := (gName 6)) rfl sclaw.nd (pi_list (pv 5)) (blkOk_by (own := [("_law_some", 6)]) (N := Nlaw) (sc := defScope slaw) (by decide +kernel)) (fun _ _ _ _ _ => (pg_name (i := 6) sclaw.nd rfl (Or.inl rfl))) (fun _ _ _ _ _ => pts_nil) (fun _ _ _ _ _ => (pe_callC C_law_read_right hr (pa_cons (pv 6) pa_nil)))) pa_nil)))))))))), ?_⟩
  have big : 100000 ≤ sizeLine := by decide
  refine ⟨_, rfl, a, ns, rfl, hS, h63, fun d L H1 S1 p1 => ?_⟩
  refine ⟨_, rfl, d, L, ns, 0, 12, 12, rfl, p1, by decide, by decide, by decide, by decide, by decide, fun e us ds H2 k2 p2 e2 d2 ie => ?_⟩
  obtain ⟨ts, rfl, h1, hok, h40⟩ := ends_ft ie
  have f2 := fm_of_all d2
  have tabs2 : LamX.Tabs Tb H2 := tabs_keep p1.isDk k2 (tabs.ext S1)
  have ned : e ≠ d := fun z => by
    obtain ⟨kvs, h⟩ := p2.isDk
    rw [← z, e2] at h
    cases h
  have hlen := paired_len f2
  have hll := len_lvsL ts
  have oks : ∀ t ∈ ts, t.Ok := fun t ht => (hok t ht).2
  have dps : ∀ t ∈ ts, t.dep ≤ 12 := fun t ht => (hok t ht).1
  have hT := (row_le ts).1
  have hF := (row_flat ts oks).1
  have wle : ∀ t ∈ ts, (wrt true t).length ≤ 720 := fun t ht => by
    have := wrt_le t (oks t ht)
    have := lvsL_mem ht
    omega
  refine ⟨_, rfl, _, rfl, e, us, ts, rfl, SqL.of e2, f2, h1, fun t ht => ⟨by have := dps t ht; omega, ?_, by have := wle t ht; omega⟩, by omega, fun H3 l3 s3 e3 => ?_⟩
  · have := toks_le t
    have := lvsL_mem ht
    omega
  refine ⟨d, L, l3, ns, _, rowToks ts, rfl, p2.same s3, by omega, e3, by omega, by omega, fun cs1 H4 g1 c1 k4 p4 => ?_⟩
  have k24 : Keep d H2 H4 := (Same.toKeep s3).trans k4
  have tabs4 := tabs_keep p2.isDk k24 tabs2
  have e4 : H4 e = some (.lst us) := k24 _ _ ned e2
  have f4 : Paired (fun v t => Fm K H4 t v) us ts := paired_imp (fun _ _ h => (kt_pen p2 k24).fm _ h) f2
  obtain ⟨x0, t0, ex0, et0, hx0⟩ : ∃ x0 t0, us[0]? = some x0 ∧ ts[0]? = some t0 ∧ Fm K H4 t0 x0 := by
    have hx : 0 < us.length := by omega
    obtain ⟨y, hy, hr⟩ := paired_take f4 (List.getElem?_eq_getElem hx)
    exact ⟨_, _, List.getElem?_eq_getElem hx, hy, hr⟩
  have t0m : t0 ∈ ts := List.mem_of_getElem? et0
  have l0 := lvsL_mem t0m
  have tk0 := toks_le t0
  have tf0 := toks_flat t0 false
  have w0 := wle t0 t0m
  have hsh := wrt_short false t0
  have tkf : (toks false t0).length ≤ (toks true t0).length := toks_ft t0
  refine ⟨_, rfl, _, rfl, e, us, 0, x0, rfl, rfl, SqL.of e4, atI_nat (j := 0) ex0, x0, t0, false, rfl, hx0, by have := dps t0 t0m; omega, by omega, by omega, fun H5 l5 s5 e5 => ?_⟩
  refine ⟨d, L, l5, ns, _, toks false t0, rfl, p4.same s5, by omega, e5, by omega, by omega, fun cs2 H6 g2 c2 k6 p6 => ?_⟩
  have k26 : Keep d H2 H6 := (k24.trans (Same.toKeep s5)).trans k6
  have tabs6 := tabs_keep p2.isDk k26 tabs2
  have q1 : (Z cs1).length ≤ 2500 := by rw [Z_len]; omega
  have q2 : (Z cs2).length ≤ 2500 := by rw [Z_len]; omega
  generalize Z cs1 = z1 at *
  generalize Z cs2 = z2 at *
  clear g1 g2 c1 c2 e4 f4 hx0 ex0 et0 e3 e5 k4 k6 k24 tabs4
  refine ⟨_, rfl, _, rfl, _, rfl, le1k, fun l G s e => ⟨l, rfl, ⟨_, SqL.of e⟩, fun D nD => ?_⟩⟩
  have pG := p6.same s
  have nld : l ≠ d := fun z => by
    obtain ⟨kvs, h⟩ := pG.isDk
    rw [← z, e] at h
    cases h
  have nDd : D ≠ d := by
    obtain ⟨kvs, ed⟩ := pG.isDk
    exact (ne_of_none ed nD).symm
  have nlD : D ≠ l := fun z => by rw [z, e] at nD; cases nD
  refine lc_it (walk_list (xs := [V.str z1, .str z2, .str z1])) (fun i H' => Keep d G H' ∧ Pen K H' d L ns (20000 + 1000 + 10 * i) ∧ ∃ zs : List Str, zs.length = i ∧ (∀ z ∈ zs, z.length ≤ 2520) ∧ H' D = some (.lst (zs.map V.str)))
    ⟨Same.toKeep (same_new nD _), (pG.fresh (Keep.refl _ _) pG.cells pG.isDk nD).mono (by omega), [], rfl, by simp, upd_same⟩ (fun i H' _ p => SqL.of (p.1 _ _ nld e)) (fun i y H3 H7 hi p yy => ?_) (fun H7 p => ?_)
  · obtain ⟨rfl, hy⟩ := yy
    obtain ⟨k3, p3, zs, hzs, hle, eD⟩ := p
    have hi3 : i < 3 := hi
    obtain ⟨z, rfl, hz⟩ : ∃ z, y = V.str z ∧ z.length ≤ 2500 := by
      have hm := List.mem_of_getElem? hy
      simp only [List.mem_cons, List.not_mem_nil, or_false] at hm
      rcases hm with rfl | rfl | rfl
      · exact ⟨_, rfl, q1⟩
      · exact ⟨_, rfl, q2⟩
      · exact ⟨_, rfl, q1⟩
    refine ⟨rfl, _, rfl, _, rfl, d, L, ns, _, z, rfl, p3, by omega, by omega, fun z' H8 hz' k8 p8 => ⟨_, k8 D _ nDd eD, small10k (by rw [List.length_map]; omega), keep_fresh (k3.trans k8) nD, (p8.fresh (k3.trans k8) pG.cells pG.isDk nD).mono (by omega), zs ++ [z'], by rw [List.length_append, hzs]; rfl, ?_, ?_⟩⟩
    · intro x hx
      rcases List.mem_append.mp hx with hx | hx
      · exact hle x hx
      · rw [List.mem_singleton.mp hx]
        omega
    · rw [upd_same, List.map_append]
      rfl
  obtain ⟨k7, p7, zs, hzs, hle, eD⟩ := p
  have hzs : zs.length = 3 := hzs
  obtain ⟨v0, zs', rfl⟩ : ∃ v0 zs', zs = v0 :: zs' := by
    cases zs with
    | nil => cases hzs
    | cons a b => exact ⟨a, b, rfl⟩
  have hv0 := hle v0 (List.mem_cons_self ..)
  have tabs7 : LamX.Tabs Tb H7 := tabs_keep pG.isDk k7 (tabs6.ext s)
  refine ⟨_, rfl, _, rfl, _, rfl, D, _, 0, V.str v0, rfl, rfl, SqL.of eD, atI_nat (j := 0) rfl, d, L, ns, _, v0, rfl, p7, by omega, by omega, fun z3 H8 h3 k8 p8 => ?_⟩
  refine ⟨_, rfl, d, L, ns, _, rfl, p8, by omega, fun z4 H9 h4 k9 p9 => ?_⟩
  refine ⟨_, rfl, d, L, ns, _, rfl, p9, by omega, fun z5 H10 h5 k10 p10 => ?_⟩
  have k710 := (k8.trans k9).trans k10
  refine ⟨_, rfl, _, rfl, le1k, fun l9 H11 s11 e11 => ?_⟩
  refine ⟨D, l9, _, _, rfl, rfl, s11 _ _ (k710 D _ nDd eD), e11, ?_, fun l12 H12 s12 e12 => ?_⟩
  · rw [List.length_map, hzs]
    exact le1k
  have tabs12 : LamX.Tabs Tb H12 := (tabs_keep p7.isDk k710 tabs7).ext (s11.trans s12)
  obtain ⟨ws, e13, hws, hwl⟩ : ∃ ws : List Str, H12 l12 = some (.lst (ws.map V.str)) ∧ ws.length = 8 ∧ ∀ z ∈ ws, z.length ≤ 5500 := by
    refine ⟨(v0 :: zs') ++ [z3, z4, z5, z1, z2], ?_, ?_, fun z m => ?_⟩
    · rw [e12, List.map_append]
      rfl
    · rw [List.length_append, hzs]
      rfl
    · rcases List.mem_append.1 m with m | m
      · have := hle z m
        omega
      · simp only [List.mem_cons, List.not_mem_nil, or_false] at m
        rcases m with rfl | rfl | rfl | rfl | rfl <;> omega
  clear e12 e11 eD hle hv0 h3 h4 h5 q1 q2
  refine ⟨_, rfl, l12, rfl, ⟨_, SqL.of e13⟩, fun D2 nD2 => ?_⟩
  have nl2 : l12 ≠ D2 := fun z => by rw [← z, e13] at nD2; cases nD2
  refine lc_it (walk_list (xs := ws.map V.str)) (fun i H' => LamX.ExtN H12 H' ∧ LamX.Tabs Tb H' ∧ H' D2 = some (.lst ((List.replicate i true).map V.bl))) ⟨LamX.ExtN.of (same_new nD2 _), tabs12.ext (same_new nD2 _), upd_same⟩ (fun i H' _ p => SqL.of (p.1 _ _ e13 (fun _ z => nomatch z))) (fun i y H3 H13 hi p yy => ?_) (fun H13 p => ?_)
  · obtain ⟨rfl, hy⟩ := yy
    obtain ⟨k3, t3, eD⟩ := p
    rw [List.length_map] at hi
    obtain ⟨z, hz, rfl⟩ := List.mem_map.1 (List.mem_of_getElem? hy)
    have hzl := hwl z hz
    refine ⟨rfl, _, rfl, z.cps.toList, (by rw [Z_of]; rfl), by rw [show z.cps.toList.length = z.length from Array.length_toList]; exact hzl, t3, fun H14 k14 t14 => ?_⟩
    have eD14 := k14 _ _ eD (fun _ z => nomatch z)
    refine ⟨_, eD14, small10k (by rw [List.length_map, List.length_replicate]; omega), fun b o e hb => ?_, tabs_lst eD14 t14, ?_⟩
    · rw [upd_ne (ne_of_none e nD2)]
      exact k14 _ _ (k3 _ _ e hb) hb
    · rw [upd_same, List.replicate_succ', List.map_append]
      rfl
  · obtain ⟨k3, t3, eD⟩ := p
    refine ⟨D2, List.replicate (ws.map V.str).length true, rfl, SqL.of eD, ?_⟩
    rw [all_tt]
    exact q H13
end
end My

set_option Elab.async false
set_option linter.all false
set_option maxRecDepth 100000
namespace My
open PySem L2
section
variable {P : Program} {w : World} {K : PySem.W.Frag} {mg : Str → Option Value} {base : Heap} {f : Addr} {fd : FuncData}
theorem vac {C : CXT} {k : Nat} {ps : List Str} {sp : Sp} (no : ∀ vs H Q E, ¬ sp vs H Q E) : FnOk P w K mg base C k f fd ps sp :=
  ⟨fun vs H Q E h => absurd h (no vs H Q E), fun A outer s H args us vs Q E _ _ _ _ h => absurd h (no vs H Q E)⟩
theorem all_law_same (T : Txt K mg) (zip : mg "zip" = none) (F : Fun K "_law_same" "_law_same" s_law_same f fd) (b : Binds K fd P_law_same []) (m : mg "_law_same" = some (.ref f)) : ∀ n : Nat, FnOk P w K mg base CX0 (1 + n) f fd P_law_same (spSame K n)
  | 0 => vac fun vs H Q E ⟨_, _, _, h, _⟩ => h
  | n + 1 => ok_law_same T zip F ⟨f, fd, all_law_same T zip F b m n, m, F.kp, b⟩
theorem all_law_shape (T : Txt K mg) (F : Fun K "_law_shape" "_law_shape" s_law_shape f fd) (b : Binds K fd P_law_shape []) (m : mg "_law_shape" = some (.ref f)) (C1 : Cal P w K mg base "_law_draw" 1 P_law_draw (spDraw K)) (C2 : Cal P w K mg base "_law_pick" 2 P_law_pick (spPick K)) : ∀ n : Nat, FnOk P w K mg base CX0 (2 + n) f fd P_law_shape (spShape K n)
  | 0 => vac fun vs H Q E ⟨_, _, _, _, _, _, _, t, _, h, _⟩ => Nat.not_lt_zero t h
  | n + 1 => ok_law_shape T F C1 C2 ⟨f, fd, all_law_shape T F b m C1 C2 n, m, F.kp, b⟩
theorem all_law_leaves (T : Txt7 K mg) (F : Fun K "_law_leaves" "_law_leaves" s_law_leaves f fd) (b : Binds K fd P_law_leaves []) (m : mg "_law_leaves" = some (.ref f)) : ∀ n : Nat, FnOk P w K mg base CX0 n f fd P_law_leaves (spLvs K n)
  | 0 => vac fun vs H Q E ⟨_, k, _, _, h, _⟩ => Nat.not_lt_zero k h
  | n + 1 => ok_law_leaves T F ⟨f, fd, all_law_leaves T F b m n, m, F.kp, b⟩
theorem all_law_unforked (T : Txt7 K mg) (F : Fun K "_law_unforked" "_law_unforked" s_law_unforked f fd) (b : Binds K fd P_law_unforked []) (m : mg "_law_unforked" = some (.ref f)) : ∀ n : Nat, FnOk P w K mg base CX0 n f fd P_law_unforked (spUnforked K n)
  | 0 => vac fun vs H Q E ⟨_, _, k, _, _, h, _⟩ => Nat.not_lt_zero k h
  | n + 1 => ok_law_unforked T F ⟨f, fd, all_law_unforked T F b m n, m, F.kp, b⟩
theorem all_law_tokens (T : Txt K mg) (F : Fun K "_law_tokens" "_law_tokens" s_law_tokens f fd) (b : Binds K fd P_law_form_text []) (m : mg "_law_tokens" = some (.ref f)) : ∀ n : Nat, FnOk P w K mg base CX0 (1 + n) f fd P_law_form_text (spTokens K n)
  | 0 => vac fun vs H Q E ⟨_, _, _, _, _, h, _⟩ => Nat.not_lt_zero _ h
  | n + 1 => ok_law_tokens T F ⟨f, fd, all_law_tokens T F b m n, m, F.kp, b⟩
theorem sc_i3 : FnScope ["self", "most"] ["self", "most"] (defScope (meth 4 0)) := ⟨rfl, rfl, rfl, by decide +kernel, rfl, by decide +kernel, by decide +kernel⟩
theorem ok_i3 (C : Addr) (F : Fun K "__init__" "TooDeep.__init__" (meth 4 0) f fd) : FnOk P w K mg base CX0 1 f fd ["self", "most"] (spInit K C "most") := by
  refine F.ok sc_i3 (fun vs H Q E h => ?_) (fun cdv A outer s H vs Q E hr h => ?_)
  · obtain ⟨a, v, rfl, _⟩ := h
    rfl
  obtain ⟨a, v, rfl, ea, T, no, q⟩ := h
  refine ⟨_, pss_one (ps_ost (pv 0) (pv 1)), ?_⟩
  exact ⟨v, rfl, _, rfl, a, C, rfl, T, no, .inl ⟨ea, fun dx n ne => q dx n ne⟩⟩
theorem sc_i6 : FnScope ["self", "at"] ["self", "at"] (defScope (meth 6 0)) := ⟨rfl, rfl, rfl, by decide +kernel, rfl, by decide +kernel, by decide +kernel⟩
theorem ok_i6 (C : Addr) (F : Fun K "__init__" "NotAText.__init__" (meth 6 0) f fd) : FnOk P w K mg base CX0 1 f fd ["self", "at"] (spInit K C "at") := by
  refine F.ok sc_i6 (fun vs H Q E h => ?_) (fun cdv A outer s H vs Q E hr h => ?_)
  · obtain ⟨a, v, rfl, _⟩ := h
    rfl
  obtain ⟨a, v, rfl, ea, T, no, q⟩ := h
  refine ⟨_, pss_one (ps_ost (pv 0) (pv 1)), ?_⟩
  exact ⟨v, rfl, _, rfl, a, C, rfl, T, no, .inl ⟨ea, fun dx n ne => q dx n ne⟩⟩
theorem sc_i5 : FnScope ["self", "most"] ["self", "most"] (defScope (meth 5 0)) := ⟨rfl, rfl, rfl, by decide +kernel, rfl, by decide +kernel, by decide +kernel⟩
theorem ok_i5 (C : Addr) (F : Fun K "__init__" "TooMany.__init__" (meth 5 0) f fd) : FnOk P w K mg base CX0 1 f fd ["self", "most"] (spInit K C "most") := by
  refine F.ok sc_i5 (fun vs H Q E h => ?_) (fun cdv A outer s H vs Q E hr h => ?_)
  · obtain ⟨a, v, rfl, _⟩ := h
    rfl
  obtain ⟨a, v, rfl, ea, T, no, q⟩ := h
  refine ⟨_, pss_one (ps_ost (pv 0) (pv 1)), ?_⟩
  exact ⟨v, rfl, _, rfl, a, C, rfl, T, no, .inl ⟨ea, fun dx n ne => q dx n ne⟩⟩
abbrev Pcheck_text : List Str := Ncheck_text
abbrev Ptold_form : List Str := Ntold_form
abbrev P_law_tokens : List Str := P_law_form_text
theorem kd_eq {a : Addr} {z z' : Str} {v : V} (e : z = z') (h : KDct K w a z' v) : KDct K w a z v := by rw [e]; exact h
end
/-- whether an error of the class at A is what «except B» names -/
theorem exm_two {K : PySem.W.Frag} {A B : Addr} {b : Bool} (h1 : PySem.W.subIn K (.ref B) (.type "BaseException") = some true) (h2 : PySem.W.isClsIn K B = true) (h3 : PySem.W.typeIn K (.ref B) = some (.type "type")) (h4 : PySem.W.subIn K (.ref A) (.ref B) = some b) : PySem.W.exmOne K (.ref A) (.ref B) = some b := by
  have e1 : (PySem.W.subIn K (.ref B) (.type "BaseException") == some true) = true := by rw [h1] <;> rfl
  have e2 : ((PySem.W.clsIn K B).isSome && PySem.W.typeIn K (.ref B) == some (.type "type")) = true := by
    have h2' : (PySem.W.clsIn K B).isSome = true := h2
    rw [h2', h3] <;> rfl
  show (if (PySem.W.subIn K (.ref B) (.type "BaseException") == some true) = true then (if ((PySem.W.clsIn K B).isSome && PySem.W.typeIn K (.ref B) == some (.type "type")) = true then PySem.W.subIn K (.ref A) (.ref B) else none) else none) = some b
  rw [if_pos e1, if_pos e2]
  exact h4
set_option maxHeartbeats 0 in
theorem all_mk {l : PySem.W.OpenLaw} {w : World} {K : PySem.W.Frag} {h : Heap} {mg : Str → Option Value} {fa f1 f2 f3 f4 f5 f6 f7 f8 f9 f10 f11 f12 f13 f14 f15 f16 f17 f18 f19 f20 f21 f22 f23 f24 f25 f26 f27 f28 f29 f30 f31 f32 f33 f34 f35 f36 f37 f38 f39 f40 f41 f42 f43 f44 f45 f46 f47 f48 aS CR CW EB EN ED EM cc1 Pt1 : Addr} (X : K.In h) (G : h.Ns mainGlobals mg) (hfa : mg "law" = some (.ref fa))
    {od1 an1 od2 an2 od3 an3 od4 an4 od5 an5 od6 an6 od7 an7 od8 an8 od9 an9 od10 an10 od11 an11 od12 an12 od13 an13 od14 an14 od15 an15 od16 an16 od17 an17 od18 an18 od19 an19 od20 an20 od21 an21 od22 an22 od23 an23 od24 an24 od25 an25 od26 an26 od27 an27 od28 an28 od29 an29 od30 an30 od31 an31 od32 an32 od33 an33 od34 an34 od35 an35 od36 an36 od37 an37 od38 an38 od39 an39 od40 an40 od41 an41 od42 an42 od43 an43 od44 an44 od45 an45 od46 an46 od47 an47 od48 an48 : Option Addr} {sl1 sl2 sl3 sl4 sl5 sl6 sl7 sl8 sl9 sl10 sl11 sl12 sl13 sl14 sl15 sl16 sl17 sl18 sl19 sl20 sl21 sl22 sl23 sl24 sl25 sl26 sl27 sl28 sl29 sl30 sl31 sl32 sl33 sl34 sl35 sl36 sl37 sl38 sl39 sl40 sl41 sl42 sl43 sl44 sl45 sl46 sl47 sl48 : Array (Option Value)} {oc1 kV1 dc1 pm1 cd1 ct1 oc2 kV2 dc2 pm2 cd2 ct2 oc3 kV3 dc3 pm3 cd3 ct3 oc4 kV4 dc4 pm4 cd4 ct4 oc5 kV5 dc5 pm5 cd5 ct5 oc6 kV6 dc6 pm6 cd6 ct6 oc7 kV7 dc7 pm7 cd7 ct7 oc8 kV8 dc8 pm8 cd8 ct8 oc9 kV9 dc9 pm9 cd9 ct9 oc10 kV10 dc10 pm10 cd10 ct10 oc11 kV11 dc11 pm11 cd11 ct11 oc12 kV12 dc12 pm12 cd12 ct12 oc13 kV13 dc13 pm13 cd13 ct13 oc14 kV14 dc14 pm14 cd14 ct14 oc15 kV15 dc15 pm15 cd15 ct15 oc16 kV16 dc16 pm16 cd16 ct16 oc17 kV17 dc17 pm17 cd17 ct17 oc18 kV18 dc18 pm18 cd18 ct18 oc19 kV19 dc19 pm19 cd19 ct19 oc20 kV20 dc20 pm20 cd20 ct20 oc21 kV21 dc21 pm21 cd21 ct21 oc22 kV22 dc22 pm22 cd22 ct22 oc23 kV23 dc23 pm23 cd23 ct23 oc24 kV24 dc24 pm24 cd24 ct24 oc25 kV25 dc25 pm25 cd25 ct25 oc26 kV26 dc26 pm26 cd26 ct26 oc27 kV27 dc27 pm27 cd27 ct27 oc28 kV28 dc28 pm28 cd28 ct28 oc29 kV29 dc29 pm29 cd29 ct29 oc30 kV30 dc30 pm30 cd30 ct30 oc31 kV31 dc31 pm31 cd31 ct31 oc32 kV32 dc32 pm32 ct32 oc33 kV33 dc33 pm33 cd33 ct33 oc34 kV34 dc34 pm34 cd34 ct34 oc35 kV35 dc35 pm35 cd35 ct35 oc36 kV36 dc36 pm36 cd36 ct36 oc37 kV37 dc37 pm37 cd37 ct37 oc38 kV38 dc38 pm38 cd38 ct38 oc39 kV39 dc39 pm39 cd39 ct39 oc40 kV40 dc40 pm40 cd40 ct40 oc41 kV41 dc41 pm41 cd41 ct41 oc42 kV42 dc42 pm42 cd42 ct42 oc43 kV43 dc43 pm43 cd43 ct43 oc44 kV44 dc44 pm44 cd44 ct44 oc45 kV45 dc45 pm45 cd45 ct45 oc46 kV46 dc46 pm46 cd46 ct46 oc47 kV47 dc47 pm47 cd47 ct47 oc48 kV48 dc48 pm48 cd48 ct48 : Value} {tl td tn tp tm : Tok} {nS : Nat} {esS : Array DictEntry}
    {nmB qB : Str} {NB : Addr} {bsB bmB : List Value} {snB : List Str} {subB : List Value} {abB : Bool} {colB : Option Bool} {ddB : Option Addr} {mz0B mz1B mz2B mz3B mz5B : Option Value}
    {nmN qN : Str} {NN : Addr} {bsN bmN : List Value} {snN : List Str} {subN : List Value} {abN : Bool} {colN : Option Bool} {ddN : Option Addr} {mz0N mz1N mz2N mz3N mz5N : Option Value}
    {nmD qD : Str} {ND : Addr} {bsD bmD : List Value} {snD : List Str} {subD : List Value} {abD : Bool} {colD : Option Bool} {ddD : Option Addr} {mz0D mz1D mz2D mz3D mz5D : Option Value}
    {nmM qM : Str} {NM : Addr} {bsM bmM : List Value} {snM : List Str} {subM : List Value} {abM : Bool} {colM : Option Bool} {ddM : Option Addr} {mz0M mz1M mz2M mz3M mz5M : Option Value}
    (tP1 : h.get? Pt1 = some { cls := .none, data := .fields #[] })
    (a1 : PySem.W.nsIn K mainGlobals "check_text" = some (some (.ref f1)))
    (l1 : K.lookup f1 = some ⟨oc1, od1, .func (PySem.W.fnOf "check_text" "check_text" (defArgs scheck_text) (defBody scheck_text) (defScope scheck_text) .none kV1 dc1 pm1 an1 cd1 ct1), sl1⟩)
    (c1 : PySem.W.codeIn K cd1 "check_text" = true)
    (k1 : PySem.W.keepIn K (.ref f1) = true)
    (a2 : PySem.W.nsIn K mainGlobals "take_leaf" = some (some (.ref f2)))
    (l2 : K.lookup f2 = some ⟨oc2, od2, .func (PySem.W.fnOf "take_leaf" "take_leaf" (defArgs stake_leaf) (defBody stake_leaf) (defScope stake_leaf) .none kV2 dc2 pm2 an2 cd2 ct2), sl2⟩)
    (c2 : PySem.W.codeIn K cd2 "take_leaf" = true)
    (k2 : PySem.W.keepIn K (.ref f2) = true)
    (a3 : PySem.W.nsIn K mainGlobals "take_sign" = some (some (.ref f3)))
    (l3 : K.lookup f3 = some ⟨oc3, od3, .func (PySem.W.fnOf "take_sign" "take_sign" (defArgs stake_sign) (defBody stake_sign) (defScope stake_sign) .none kV3 dc3 pm3 an3 cd3 ct3), sl3⟩)
    (c3 : PySem.W.codeIn K cd3 "take_sign" = true)
    (k3 : PySem.W.keepIn K (.ref f3) = true)
    (a4 : PySem.W.nsIn K mainGlobals "grouped" = some (some (.ref f4)))
    (l4 : K.lookup f4 = some ⟨oc4, od4, .func (PySem.W.fnOf "grouped" "grouped" (defArgs sgrouped) (defBody sgrouped) (defScope sgrouped) .none kV4 dc4 pm4 an4 cd4 ct4), sl4⟩)
    (c4 : PySem.W.codeIn K cd4 "grouped" = true)
    (k4 : PySem.W.keepIn K (.ref f4) = true)
    (a5 : PySem.W.nsIn K mainGlobals "take_halved" = some (some (.ref f5)))
    (l5 : K.lookup f5 = some ⟨oc5, od5, .func (PySem.W.fnOf "take_halved" "take_halved" (defArgs stake_halved) (defBody stake_halved) (defScope stake_halved) .none kV5 dc5 pm5 an5 cd5 ct5), sl5⟩)
    (c5 : PySem.W.codeIn K cd5 "take_halved" = true)
    (k5 : PySem.W.keepIn K (.ref f5) = true)
    (a6 : PySem.W.nsIn K mainGlobals "take_form" = some (some (.ref f6)))
    (l6 : K.lookup f6 = some ⟨oc6, od6, .func (PySem.W.fnOf "take_form" "take_form" (defArgs stake_form) (defBody stake_form) (defScope stake_form) .none kV6 dc6 pm6 an6 cd6 ct6), sl6⟩)
    (c6 : PySem.W.codeIn K cd6 "take_form" = true)
    (k6 : PySem.W.keepIn K (.ref f6) = true)
    (a7 : PySem.W.nsIn K mainGlobals "take_ends" = some (some (.ref f7)))
    (l7 : K.lookup f7 = some ⟨oc7, od7, .func (PySem.W.fnOf "take_ends" "take_ends" (defArgs stake_ends) (defBody stake_ends) (defScope stake_ends) .none kV7 dc7 pm7 an7 cd7 ct7), sl7⟩)
    (c7 : PySem.W.codeIn K cd7 "take_ends" = true)
    (k7 : PySem.W.keepIn K (.ref f7) = true)
    (a8 : PySem.W.nsIn K mainGlobals "told_form" = some (some (.ref f8)))
    (l8 : K.lookup f8 = some ⟨oc8, od8, .func (PySem.W.fnOf "told_form" "told_form" (defArgs stold_form) (defBody stold_form) (defScope stold_form) .none kV8 dc8 pm8 an8 cd8 ct8), sl8⟩)
    (c8 : PySem.W.codeIn K cd8 "told_form" = true)
    (k8 : PySem.W.keepIn K (.ref f8) = true)
    (a9 : PySem.W.nsIn K mainGlobals "told_ends" = some (some (.ref f9)))
    (l9 : K.lookup f9 = some ⟨oc9, od9, .func (PySem.W.fnOf "told_ends" "told_ends" (defArgs stold_ends) (defBody stold_ends) (defScope stold_ends) .none kV9 dc9 pm9 an9 cd9 ct9), sl9⟩)
    (c9 : PySem.W.codeIn K cd9 "told_ends" = true)
    (k9 : PySem.W.keepIn K (.ref f9) = true)
    (a10 : PySem.W.nsIn K mainGlobals "read_form" = some (some (.ref f10)))
    (l10 : K.lookup f10 = some ⟨oc10, od10, .func (PySem.W.fnOf "read_form" "read_form" (defArgs sread_form) (defBody sread_form) (defScope sread_form) .none kV10 dc10 pm10 an10 cd10 ct10), sl10⟩)
    (c10 : PySem.W.codeIn K cd10 "read_form" = true)
    (k10 : PySem.W.keepIn K (.ref f10) = true)
    (a11 : PySem.W.nsIn K mainGlobals "read_ends" = some (some (.ref f11)))
    (l11 : K.lookup f11 = some ⟨oc11, od11, .func (PySem.W.fnOf "read_ends" "read_ends" (defArgs sread_ends) (defBody sread_ends) (defScope sread_ends) .none kV11 dc11 pm11 an11 cd11 ct11), sl11⟩)
    (c11 : PySem.W.codeIn K cd11 "read_ends" = true)
    (k11 : PySem.W.keepIn K (.ref f11) = true)
    (a12 : PySem.W.nsIn K mainGlobals "_law_begin" = some (some (.ref f12)))
    (l12 : K.lookup f12 = some ⟨oc12, od12, .func (PySem.W.fnOf "_law_begin" "_law_begin" (defArgs s_law_begin) (defBody s_law_begin) (defScope s_law_begin) .none kV12 dc12 pm12 an12 cd12 ct12), sl12⟩)
    (c12 : PySem.W.codeIn K cd12 "_law_begin" = true)
    (k12 : PySem.W.keepIn K (.ref f12) = true)
    (a13 : PySem.W.nsIn K mainGlobals "_law_draw" = some (some (.ref f13)))
    (l13 : K.lookup f13 = some ⟨oc13, od13, .func (PySem.W.fnOf "_law_draw" "_law_draw" (defArgs s_law_draw) (defBody s_law_draw) (defScope s_law_draw) .none kV13 dc13 pm13 an13 cd13 ct13), sl13⟩)
    (c13 : PySem.W.codeIn K cd13 "_law_draw" = true)
    (k13 : PySem.W.keepIn K (.ref f13) = true)
    (a14 : PySem.W.nsIn K mainGlobals "_law_pick" = some (some (.ref f14)))
    (l14 : K.lookup f14 = some ⟨oc14, od14, .func (PySem.W.fnOf "_law_pick" "_law_pick" (defArgs s_law_pick) (defBody s_law_pick) (defScope s_law_pick) .none kV14 dc14 pm14 an14 cd14 ct14), sl14⟩)
    (c14 : PySem.W.codeIn K cd14 "_law_pick" = true)
    (k14 : PySem.W.keepIn K (.ref f14) = true)
    (a15 : PySem.W.nsIn K mainGlobals "_law_leaves" = some (some (.ref f15)))
    (l15 : K.lookup f15 = some ⟨oc15, od15, .func (PySem.W.fnOf "_law_leaves" "_law_leaves" (defArgs s_law_leaves) (defBody s_law_leaves) (defScope s_law_leaves) .none kV15 dc15 pm15 an15 cd15 ct15), sl15⟩)
    (c15 : PySem.W.codeIn K cd15 "_law_leaves" = true)
    (k15 : PySem.W.keepIn K (.ref f15) = true)
    (a16 : PySem.W.nsIn K mainGlobals "_law_leaf_many" = some (some (.ref f16)))
    (l16 : K.lookup f16 = some ⟨oc16, od16, .func (PySem.W.fnOf "_law_leaf_many" "_law_leaf_many" (defArgs s_law_leaf_many) (defBody s_law_leaf_many) (defScope s_law_leaf_many) .none kV16 dc16 pm16 an16 cd16 ct16), sl16⟩)
    (c16 : PySem.W.codeIn K cd16 "_law_leaf_many" = true)
    (k16 : PySem.W.keepIn K (.ref f16) = true)
    (a17 : PySem.W.nsIn K mainGlobals "_law_same" = some (some (.ref f17)))
    (l17 : K.lookup f17 = some ⟨oc17, od17, .func (PySem.W.fnOf "_law_same" "_law_same" (defArgs s_law_same) (defBody s_law_same) (defScope s_law_same) .none kV17 dc17 pm17 an17 cd17 ct17), sl17⟩)
    (c17 : PySem.W.codeIn K cd17 "_law_same" = true)
    (k17 : PySem.W.keepIn K (.ref f17) = true)
    (a18 : PySem.W.nsIn K mainGlobals "_law_fault" = some (some (.ref f18)))
    (l18 : K.lookup f18 = some ⟨oc18, od18, .func (PySem.W.fnOf "_law_fault" "_law_fault" (defArgs s_law_fault) (defBody s_law_fault) (defScope s_law_fault) .none kV18 dc18 pm18 an18 cd18 ct18), sl18⟩)
    (c18 : PySem.W.codeIn K cd18 "_law_fault" = true)
    (k18 : PySem.W.keepIn K (.ref f18) = true)
    (a19 : PySem.W.nsIn K mainGlobals "_law_faults" = some (some (.ref f19)))
    (l19 : K.lookup f19 = some ⟨oc19, od19, .func (PySem.W.fnOf "_law_faults" "_law_faults" (defArgs s_law_faults) (defBody s_law_faults) (defScope s_law_faults) .none kV19 dc19 pm19 an19 cd19 ct19), sl19⟩)
    (c19 : PySem.W.codeIn K cd19 "_law_faults" = true)
    (k19 : PySem.W.keepIn K (.ref f19) = true)
    (a20 : PySem.W.nsIn K mainGlobals "_law_name" = some (some (.ref f20)))
    (l20 : K.lookup f20 = some ⟨oc20, od20, .func (PySem.W.fnOf "_law_name" "_law_name" (defArgs s_law_name) (defBody s_law_name) (defScope s_law_name) .none kV20 dc20 pm20 an20 cd20 ct20), sl20⟩)
    (c20 : PySem.W.codeIn K cd20 "_law_name" = true)
    (k20 : PySem.W.keepIn K (.ref f20) = true)
    (a21 : PySem.W.nsIn K mainGlobals "_law_names" = some (some (.ref f21)))
    (l21 : K.lookup f21 = some ⟨oc21, od21, .func (PySem.W.fnOf "_law_names" "_law_names" (defArgs s_law_names) (defBody s_law_names) (defScope s_law_names) .none kV21 dc21 pm21 an21 cd21 ct21), sl21⟩)
    (c21 : PySem.W.codeIn K cd21 "_law_names" = true)
    (k21 : PySem.W.keepIn K (.ref f21) = true)
    (a22 : PySem.W.nsIn K mainGlobals "_law_shape" = some (some (.ref f22)))
    (l22 : K.lookup f22 = some ⟨oc22, od22, .func (PySem.W.fnOf "_law_shape" "_law_shape" (defArgs s_law_shape) (defBody s_law_shape) (defScope s_law_shape) .none kV22 dc22 pm22 an22 cd22 ct22), sl22⟩)
    (c22 : PySem.W.codeIn K cd22 "_law_shape" = true)
    (k22 : PySem.W.keepIn K (.ref f22) = true)
    (a23 : PySem.W.nsIn K mainGlobals "_law_unforked" = some (some (.ref f23)))
    (l23 : K.lookup f23 = some ⟨oc23, od23, .func (PySem.W.fnOf "_law_unforked" "_law_unforked" (defArgs s_law_unforked) (defBody s_law_unforked) (defScope s_law_unforked) .none kV23 dc23 pm23 an23 cd23 ct23), sl23⟩)
    (c23 : PySem.W.codeIn K cd23 "_law_unforked" = true)
    (k23 : PySem.W.keepIn K (.ref f23) = true)
    (a24 : PySem.W.nsIn K mainGlobals "_law_some_ends" = some (some (.ref f24)))
    (l24 : K.lookup f24 = some ⟨oc24, od24, .func (PySem.W.fnOf "_law_some_ends" "_law_some_ends" (defArgs s_law_some_ends) (defBody s_law_some_ends) (defScope s_law_some_ends) .none kV24 dc24 pm24 an24 cd24 ct24), sl24⟩)
    (c24 : PySem.W.codeIn K cd24 "_law_some_ends" = true)
    (k24 : PySem.W.keepIn K (.ref f24) = true)
    (a25 : PySem.W.nsIn K mainGlobals "_law_tokens" = some (some (.ref f25)))
    (l25 : K.lookup f25 = some ⟨oc25, od25, .func (PySem.W.fnOf "_law_tokens" "_law_tokens" (defArgs s_law_tokens) (defBody s_law_tokens) (defScope s_law_tokens) .none kV25 dc25 pm25 an25 cd25 ct25), sl25⟩)
    (c25 : PySem.W.codeIn K cd25 "_law_tokens" = true)
    (k25 : PySem.W.keepIn K (.ref f25) = true)
    (a26 : PySem.W.nsIn K mainGlobals "_law_spaced" = some (some (.ref f26)))
    (l26 : K.lookup f26 = some ⟨oc26, od26, .func (PySem.W.fnOf "_law_spaced" "_law_spaced" (defArgs s_law_spaced) (defBody s_law_spaced) (defScope s_law_spaced) .none kV26 dc26 pm26 an26 cd26 ct26), sl26⟩)
    (c26 : PySem.W.codeIn K cd26 "_law_spaced" = true)
    (k26 : PySem.W.keepIn K (.ref f26) = true)
    (a27 : PySem.W.nsIn K mainGlobals "_law_ends_tokens" = some (some (.ref f27)))
    (l27 : K.lookup f27 = some ⟨oc27, od27, .func (PySem.W.fnOf "_law_ends_tokens" "_law_ends_tokens" (defArgs s_law_ends_tokens) (defBody s_law_ends_tokens) (defScope s_law_ends_tokens) .none kV27 dc27 pm27 an27 cd27 ct27), sl27⟩)
    (c27 : PySem.W.codeIn K cd27 "_law_ends_tokens" = true)
    (k27 : PySem.W.keepIn K (.ref f27) = true)
    (a28 : PySem.W.nsIn K mainGlobals "_law_longest" = some (some (.ref f28)))
    (l28 : K.lookup f28 = some ⟨oc28, od28, .func (PySem.W.fnOf "_law_longest" "_law_longest" (defArgs s_law_longest) (defBody s_law_longest) (defScope s_law_longest) .none kV28 dc28 pm28 an28 cd28 ct28), sl28⟩)
    (c28 : PySem.W.codeIn K cd28 "_law_longest" = true)
    (k28 : PySem.W.keepIn K (.ref f28) = true)
    (a29 : PySem.W.nsIn K mainGlobals "_law_folded" = some (some (.ref f29)))
    (l29 : K.lookup f29 = some ⟨oc29, od29, .func (PySem.W.fnOf "_law_folded" "_law_folded" (defArgs s_law_folded) (defBody s_law_folded) (defScope s_law_folded) .none kV29 dc29 pm29 an29 cd29 ct29), sl29⟩)
    (c29 : PySem.W.codeIn K cd29 "_law_folded" = true)
    (k29 : PySem.W.keepIn K (.ref f29) = true)
    (a30 : PySem.W.nsIn K mainGlobals "_law_read" = some (some (.ref f30)))
    (l30 : K.lookup f30 = some ⟨oc30, od30, .func (PySem.W.fnOf "_law_read" "_law_read" (defArgs s_law_read) (defBody s_law_read) (defScope s_law_read) .none kV30 dc30 pm30 an30 cd30 ct30), sl30⟩)
    (c30 : PySem.W.codeIn K cd30 "_law_read" = true)
    (k30 : PySem.W.keepIn K (.ref f30) = true)
    (a31 : PySem.W.nsIn K mainGlobals "_law_read_due" = some (some (.ref f31)))
    (l31 : K.lookup f31 = some ⟨oc31, od31, .func (PySem.W.fnOf "_law_read_due" "_law_read_due" (defArgs s_law_read_due) (defBody s_law_read_due) (defScope s_law_read_due) .none kV31 dc31 pm31 an31 cd31 ct31), sl31⟩)
    (c31 : PySem.W.codeIn K cd31 "_law_read_due" = true)
    (k31 : PySem.W.keepIn K (.ref f31) = true)
    (a32 : PySem.W.nsIn K mainGlobals "_law_read_right" = some (some (.ref f32)))
    (l32 : K.lookup f32 = some ⟨oc32, od32, .func (PySem.W.fnOf "_law_read_right" "_law_read_right" (defArgs s_law_read_right) (defBody s_law_read_right) (defScope s_law_read_right) .none kV32 dc32 pm32 an32 (.ref cc1) ct32), sl32⟩)
    (c32 : PySem.W.codeIn K (.ref cc1) "_law_read_right" = true)
    (k32 : PySem.W.keepIn K (.ref f32) = true)
    (a33 : PySem.W.nsIn K mainGlobals "_law_spoilt" = some (some (.ref f33)))
    (l33 : K.lookup f33 = some ⟨oc33, od33, .func (PySem.W.fnOf "_law_spoilt" "_law_spoilt" (defArgs s_law_spoilt) (defBody s_law_spoilt) (defScope s_law_spoilt) .none kV33 dc33 pm33 an33 cd33 ct33), sl33⟩)
    (c33 : PySem.W.codeIn K cd33 "_law_spoilt" = true)
    (k33 : PySem.W.keepIn K (.ref f33) = true)
    (a34 : PySem.W.nsIn K mainGlobals "_law_loose" = some (some (.ref f34)))
    (l34 : K.lookup f34 = some ⟨oc34, od34, .func (PySem.W.fnOf "_law_loose" "_law_loose" (defArgs s_law_loose) (defBody s_law_loose) (defScope s_law_loose) .none kV34 dc34 pm34 an34 cd34 ct34), sl34⟩)
    (c34 : PySem.W.codeIn K cd34 "_law_loose" = true)
    (k34 : PySem.W.keepIn K (.ref f34) = true)
    (a35 : PySem.W.nsIn K mainGlobals "_law_brackets" = some (some (.ref f35)))
    (l35 : K.lookup f35 = some ⟨oc35, od35, .func (PySem.W.fnOf "_law_brackets" "_law_brackets" (defArgs s_law_brackets) (defBody s_law_brackets) (defScope s_law_brackets) .none kV35 dc35 pm35 an35 cd35 ct35), sl35⟩)
    (c35 : PySem.W.codeIn K cd35 "_law_brackets" = true)
    (k35 : PySem.W.keepIn K (.ref f35) = true)
    (a36 : PySem.W.nsIn K mainGlobals "law" = some (some (.ref f36)))
    (l36 : K.lookup f36 = some ⟨oc36, od36, .func (PySem.W.fnOf "law" "law" (defArgs slaw) (defBody slaw) (defScope slaw) .none kV36 dc36 pm36 an36 cd36 ct36), sl36⟩)
    (c36 : PySem.W.codeIn K cd36 "law" = true)
    (k36 : PySem.W.keepIn K (.ref f36) = true)
    (tN1 : K.lookup Pt1 = none)
    (tC1 : PySem.W.codeHdIn K cc1 Pt1 = true)
    (gCR : PySem.W.nsIn K mainGlobals "Reader" = some (some (.ref CR)))
    (pgCR : PySem.W.plainGet K CR Str.empty = true)
    (hdCR : PySem.W.hasDictIn K CR = true)
    (poCR : PySem.W.plainOver K CR = true)
    (saCR : PySem.W.findIn K (.ref CR) "__setattr__" = some (some (.builtin "object.__setattr__")))
    (mkCR : PySem.W.makesIn K CR = true)
    (kpCR : PySem.W.keepIn K (.ref CR) = true)
    (gCW : PySem.W.nsIn K mainGlobals "Written" = some (some (.ref CW)))
    (pgCW : PySem.W.plainGet K CW Str.empty = true)
    (hdCW : PySem.W.hasDictIn K CW = true)
    (poCW : PySem.W.plainOver K CW = true)
    (saCW : PySem.W.findIn K (.ref CW) "__setattr__" = some (some (.builtin "object.__setattr__")))
    (mkCW : PySem.W.makesIn K CW = true)
    (kpCW : PySem.W.keepIn K (.ref CW) = true)
    (nR0 : PySem.W.findIn K (.ref CR) "at" = some none)
    (nR1 : PySem.W.findIn K (.ref CR) "text" = some none)
    (nW0 : PySem.W.findIn K (.ref CW) "form" = some none)
    (nW1 : PySem.W.findIn K (.ref CW) "depth" = some none)
    (nW2 : PySem.W.findIn K (.ref CW) "leaves" = some none)
    (gEB : PySem.W.nsIn K mainGlobals "BadValue" = some (some (.ref EB)))
    (gaEB : PySem.W.findIn K (.ref EB) "__getattribute__" = some (some (.builtin "BaseException.__getattribute__")))
    (ggEB : PySem.W.findIn K (.ref EB) "__getattr__" = some none)
    (exEB : PySem.W.subIn K (.ref EB) (.type "BaseException") = some true)
    (hdEB : PySem.W.hasDictIn K EB = true)
    (noEB : PySem.W.findIn K (.ref EB) "value" = some none)
    (isEB : PySem.W.isClsIn K EB = true)
    (tyEB : PySem.W.typeIn K (.ref EB) = some (.type "type"))
    (gEN : PySem.W.nsIn K mainGlobals "NotAText" = some (some (.ref EN)))
    (gaEN : PySem.W.findIn K (.ref EN) "__getattribute__" = some (some (.builtin "BaseException.__getattribute__")))
    (ggEN : PySem.W.findIn K (.ref EN) "__getattr__" = some none)
    (exEN : PySem.W.subIn K (.ref EN) (.type "BaseException") = some true)
    (hdEN : PySem.W.hasDictIn K EN = true)
    (noEN : PySem.W.findIn K (.ref EN) "at" = some none)
    (isEN : PySem.W.isClsIn K EN = true)
    (tyEN : PySem.W.typeIn K (.ref EN) = some (.type "type"))
    (gED : PySem.W.nsIn K mainGlobals "TooDeep" = some (some (.ref ED)))
    (gaED : PySem.W.findIn K (.ref ED) "__getattribute__" = some (some (.builtin "BaseException.__getattribute__")))
    (ggED : PySem.W.findIn K (.ref ED) "__getattr__" = some none)
    (exED : PySem.W.subIn K (.ref ED) (.type "BaseException") = some true)
    (hdED : PySem.W.hasDictIn K ED = true)
    (noED : PySem.W.findIn K (.ref ED) "most" = some none)
    (isED : PySem.W.isClsIn K ED = true)
    (tyED : PySem.W.typeIn K (.ref ED) = some (.type "type"))
    (gEM : PySem.W.nsIn K mainGlobals "TooMany" = some (some (.ref EM)))
    (gaEM : PySem.W.findIn K (.ref EM) "__getattribute__" = some (some (.builtin "BaseException.__getattribute__")))
    (ggEM : PySem.W.findIn K (.ref EM) "__getattr__" = some none)
    (exEM : PySem.W.subIn K (.ref EM) (.type "BaseException") = some true)
    (hdEM : PySem.W.hasDictIn K EM = true)
    (noEM : PySem.W.findIn K (.ref EM) "most" = some none)
    (isEM : PySem.W.isClsIn K EM = true)
    (tyEM : PySem.W.typeIn K (.ref EM) = some (.type "type"))
    (sBB : PySem.W.subIn K (.ref EB) (.ref EB) = some true)
    (sNB : PySem.W.subIn K (.ref EN) (.ref EB) = some false)
    (sNN : PySem.W.subIn K (.ref EN) (.ref EN) = some true)
    (sDB : PySem.W.subIn K (.ref ED) (.ref EB) = some false)
    (sDN : PySem.W.subIn K (.ref ED) (.ref EN) = some false)
    (sDD : PySem.W.subIn K (.ref ED) (.ref ED) = some true)
    (sMB : PySem.W.subIn K (.ref EM) (.ref EB) = some false)
    (sMN : PySem.W.subIn K (.ref EM) (.ref EN) = some false)
    (sMD : PySem.W.subIn K (.ref EM) (.ref ED) = some false)
    (sMM : PySem.W.subIn K (.ref EM) (.ref EM) = some true)
    (xB : K.lookup EB = some (excClassObj nmB qB EB NB bsB bmB true snB subB abB colB ddB mz0B mz1B mz2B mz3B mz5B "ValueError.__new__"))
    (rB : PySem.HandSPX.refsVE bmB = true)
    (saB : PySem.W.findIn K (.ref EB) "__setattr__" = some (some (.builtin "object.__setattr__")))
    (kB : PySem.W.keepIn K (.ref EB) = true)
    (xN : K.lookup EN = some (excClassObj nmN qN EN NN bsN bmN true snN subN abN colN ddN mz0N mz1N mz2N mz3N mz5N "ValueError.__new__"))
    (rN : PySem.HandSPX.refsVE bmN = true)
    (saN : PySem.W.findIn K (.ref EN) "__setattr__" = some (some (.builtin "object.__setattr__")))
    (kN : PySem.W.keepIn K (.ref EN) = true)
    (xD : K.lookup ED = some (excClassObj nmD qD ED ND bsD bmD true snD subD abD colD ddD mz0D mz1D mz2D mz3D mz5D "ValueError.__new__"))
    (rD : PySem.HandSPX.refsVE bmD = true)
    (saD : PySem.W.findIn K (.ref ED) "__setattr__" = some (some (.builtin "object.__setattr__")))
    (kD : PySem.W.keepIn K (.ref ED) = true)
    (xM : K.lookup EM = some (excClassObj nmM qM EM NM bsM bmM true snM subM abM colM ddM mz0M mz1M mz2M mz3M mz5M "ValueError.__new__"))
    (rM : PySem.HandSPX.refsVE bmM = true)
    (saM : PySem.W.findIn K (.ref EM) "__setattr__" = some (some (.builtin "object.__setattr__")))
    (kM : PySem.W.keepIn K (.ref EM) = true)
    (a37 : PySem.W.findIn K (.ref CR) "__init__" = some (some (.ref f37)))
    (i37 : PySem.W.isFn K (.ref f37) = true)
    (l37 : K.lookup f37 = some ⟨oc37, od37, .func (PySem.W.fnOf "__init__" "Reader.__init__" (defArgs sRd0) (defBody sRd0) (defScope sRd0) .none kV37 dc37 pm37 an37 cd37 ct37), sl37⟩)
    (c37 : PySem.W.codeIn K cd37 "Reader.__init__" = true)
    (k37 : PySem.W.keepIn K (.ref f37) = true)
    (a38 : PySem.W.findIn K (.ref CW) "__init__" = some (some (.ref f38)))
    (i38 : PySem.W.isFn K (.ref f38) = true)
    (l38 : K.lookup f38 = some ⟨oc38, od38, .func (PySem.W.fnOf "__init__" "Written.__init__" (defArgs sWr0) (defBody sWr0) (defScope sWr0) .none kV38 dc38 pm38 an38 cd38 ct38), sl38⟩)
    (c38 : PySem.W.codeIn K cd38 "Written.__init__" = true)
    (k38 : PySem.W.keepIn K (.ref f38) = true)
    (a39 : PySem.W.findIn K (.ref CR) "sees" = some (some (.ref f39)))
    (i39 : PySem.W.isFn K (.ref f39) = true)
    (l39 : K.lookup f39 = some ⟨oc39, od39, .func (PySem.W.fnOf "sees" "Reader.sees" (defArgs sRd1) (defBody sRd1) (defScope sRd1) .none kV39 dc39 pm39 an39 cd39 ct39), sl39⟩)
    (c39 : PySem.W.codeIn K cd39 "Reader.sees" = true)
    (k39 : PySem.W.keepIn K (.ref f39) = true)
    (a40 : PySem.W.findIn K (.ref CR) "is_done" = some (some (.ref f40)))
    (i40 : PySem.W.isFn K (.ref f40) = true)
    (l40 : K.lookup f40 = some ⟨oc40, od40, .func (PySem.W.fnOf "is_done" "Reader.is_done" (defArgs sRd2) (defBody sRd2) (defScope sRd2) .none kV40 dc40 pm40 an40 cd40 ct40), sl40⟩)
    (c40 : PySem.W.codeIn K cd40 "Reader.is_done" = true)
    (k40 : PySem.W.keepIn K (.ref f40) = true)
    (a41 : PySem.W.findIn K (.ref CR) "finish" = some (some (.ref f41)))
    (i41 : PySem.W.isFn K (.ref f41) = true)
    (l41 : K.lookup f41 = some ⟨oc41, od41, .func (PySem.W.fnOf "finish" "Reader.finish" (defArgs sRd3) (defBody sRd3) (defScope sRd3) .none kV41 dc41 pm41 an41 cd41 ct41), sl41⟩)
    (c41 : PySem.W.codeIn K cd41 "Reader.finish" = true)
    (k41 : PySem.W.keepIn K (.ref f41) = true)
    (a42 : PySem.W.findIn K (.ref CR) "take" = some (some (.ref f42)))
    (i42 : PySem.W.isFn K (.ref f42) = true)
    (l42 : K.lookup f42 = some ⟨oc42, od42, .func (PySem.W.fnOf "take" "Reader.take" (defArgs sRd4) (defBody sRd4) (defScope sRd4) .none kV42 dc42 pm42 an42 cd42 ct42), sl42⟩)
    (c42 : PySem.W.codeIn K cd42 "Reader.take" = true)
    (k42 : PySem.W.keepIn K (.ref f42) = true)
    (a43 : PySem.W.findIn K (.ref CR) "skip_spaces" = some (some (.ref f43)))
    (i43 : PySem.W.isFn K (.ref f43) = true)
    (l43 : K.lookup f43 = some ⟨oc43, od43, .func (PySem.W.fnOf "skip_spaces" "Reader.skip_spaces" (defArgs sRd5) (defBody sRd5) (defScope sRd5) .none kV43 dc43 pm43 an43 cd43 ct43), sl43⟩)
    (c43 : PySem.W.codeIn K cd43 "Reader.skip_spaces" = true)
    (k43 : PySem.W.keepIn K (.ref f43) = true)
    (a44 : PySem.W.findIn K (.ref CR) "take_name" = some (some (.ref f44)))
    (i44 : PySem.W.isFn K (.ref f44) = true)
    (l44 : K.lookup f44 = some ⟨oc44, od44, .func (PySem.W.fnOf "take_name" "Reader.take_name" (defArgs sRd9) (defBody sRd9) (defScope sRd9) .none kV44 dc44 pm44 an44 cd44 ct44), sl44⟩)
    (c44 : PySem.W.codeIn K cd44 "Reader.take_name" = true)
    (k44 : PySem.W.keepIn K (.ref f44) = true)
    (a45 : PySem.W.findIn K (.ref EB) "__init__" = some (some (.ref f45)))
    (i45 : PySem.W.typeIn K (.ref f45) = some (.type "function"))
    (l45 : K.lookup f45 = some ⟨oc45, od45, .func (PySem.W.fnOf "__init__" "BadValue.__init__" (defArgs (meth 3 0)) (defBody (meth 3 0)) (defScope (meth 3 0)) .none kV45 dc45 pm45 an45 cd45 ct45), sl45⟩)
    (c45 : PySem.W.codeIn K cd45 "BadValue.__init__" = true)
    (k45 : PySem.W.keepIn K (.ref f45) = true)
    (a46 : PySem.W.findIn K (.ref ED) "__init__" = some (some (.ref f46)))
    (i46 : PySem.W.typeIn K (.ref f46) = some (.type "function"))
    (l46 : K.lookup f46 = some ⟨oc46, od46, .func (PySem.W.fnOf "__init__" "TooDeep.__init__" (defArgs (meth 4 0)) (defBody (meth 4 0)) (defScope (meth 4 0)) .none kV46 dc46 pm46 an46 cd46 ct46), sl46⟩)
    (c46 : PySem.W.codeIn K cd46 "TooDeep.__init__" = true)
    (k46 : PySem.W.keepIn K (.ref f46) = true)
    (a47 : PySem.W.findIn K (.ref EM) "__init__" = some (some (.ref f47)))
    (i47 : PySem.W.typeIn K (.ref f47) = some (.type "function"))
    (l47 : K.lookup f47 = some ⟨oc47, od47, .func (PySem.W.fnOf "__init__" "TooMany.__init__" (defArgs (meth 5 0)) (defBody (meth 5 0)) (defScope (meth 5 0)) .none kV47 dc47 pm47 an47 cd47 ct47), sl47⟩)
    (c47 : PySem.W.codeIn K cd47 "TooMany.__init__" = true)
    (k47 : PySem.W.keepIn K (.ref f47) = true)
    (a48 : PySem.W.findIn K (.ref EN) "__init__" = some (some (.ref f48)))
    (i48 : PySem.W.typeIn K (.ref f48) = some (.type "function"))
    (l48 : K.lookup f48 = some ⟨oc48, od48, .func (PySem.W.fnOf "__init__" "NotAText.__init__" (defArgs (meth 6 0)) (defBody (meth 6 0)) (defScope (meth 6 0)) .none kV48 dc48 pm48 an48 cd48 ct48), sl48⟩)
    (c48 : PySem.W.codeIn K cd48 "NotAText.__init__" = true)
    (k48 : PySem.W.keepIn K (.ref f48) = true)
    (z1 : PySem.W.nsIn K mainGlobals "isinstance" = some none)
    (z2 : PySem.W.nsIn K mainGlobals "len" = some none)
    (z3 : PySem.W.nsIn K mainGlobals "all" = some none)
    (z4 : PySem.W.nsIn K mainGlobals "str" = some none)
    (z5 : PySem.W.nsIn K mainGlobals "tuple" = some none)
    (z6 : PySem.W.nsIn K mainGlobals "int" = some none)
    (z7 : PySem.W.nsIn K mainGlobals "list" = some none)
    (z8 : PySem.W.nsIn K mainGlobals "abs" = some none)
    (z9 : PySem.W.nsIn K mainGlobals "max" = some none)
    (z10 : PySem.W.nsIn K mainGlobals "min" = some none)
    (z11 : PySem.W.nsIn K mainGlobals "range" = some none)
    (z12 : PySem.W.nsIn K mainGlobals "bool" = some none)
    (z13 : PySem.W.nsIn K mainGlobals "zip" = some none)
    (z14 : PySem.W.nsIn K mainGlobals "dict" = some none)
    (z15 : PySem.W.nsIn K mainGlobals "enumerate" = some none)
    (z16 : PySem.W.nsIn K mainGlobals "sum" = some none)
    (y1 : PySem.W.nsIn K mainGlobals "LETTERS" = some (some (.str zLetters tl)))
    (y2 : PySem.W.nsIn K mainGlobals "DIGITS" = some (some (.str zDigits td)))
    (y3 : PySem.W.nsIn K mainGlobals "LONGEST_NAME" = some (some (.int 12 tn)))
    (y4 : PySem.W.nsIn K mainGlobals "DEEPEST" = some (some (.int 12 tp)))
    (y10 : PySem.W.nsIn K mainGlobals "FORM_WORDS" = some (some (.ref aS)))
    (y11 : K.lookup aS = some ⟨.type "dict", none, .dict esS nS, #[]⟩)
    (y12 : PySem.W.KeysLit w.params esS.toList)
    (y16 : Paired (fun (e : DictEntry) (kv : Key × V) => ∃ x t, e.key = .str x t ∧ kv.1 = .inr x ∧ RelV kv.2 e.val) esS.toList wordsF)
    (y17 : (aS == sysModules) = false)
    (y18 : PySem.W.nsIn K mainGlobals "MOST_LEAVES" = some (some (.int 40 tm))) :
    LamX.LawAtS l w K CX0 37 63 "_law_script" mg fa h := by
  have e := hfa.symm.trans (PySem.W.mg_of X G a36)
  cases e
  have T : Txt K mg := {
    isinstance := PySem.W.mg_none_of X G z1, len := PySem.W.mg_none_of X G z2, all := PySem.W.mg_none_of X G z3, str := PySem.W.mg_none_of X G z4, tuple := PySem.W.mg_none_of X G z5, int := PySem.W.mg_none_of X G z6
    list := PySem.W.mg_none_of X G z7, abs := PySem.W.mg_none_of X G z8, max := PySem.W.mg_none_of X G z9, min := PySem.W.mg_none_of X G z10, range := PySem.W.mg_none_of X G z11, bool := PySem.W.mg_none_of X G z12
    LETTERS := ⟨_, PySem.W.mg_of X G y1, ⟨_, rfl⟩⟩, DIGITS := ⟨_, PySem.W.mg_of X G y2, ⟨_, rfl⟩⟩, LONGEST_NAME := ⟨_, PySem.W.mg_of X G y3, ⟨_, rfl⟩⟩, DEEPEST := ⟨_, PySem.W.mg_of X G y4, ⟨_, rfl⟩⟩ }
  have T7 : Txt7 K mg := { T with zip := PySem.W.mg_none_of X G z13, enumerate := PySem.W.mg_none_of X G z15, MOST_LEAVES := ⟨_, PySem.W.mg_of X G y18, ⟨_, rfl⟩⟩ }
  have TS : TxtSum K mg := ⟨PySem.W.mg_none_of X G z16⟩
  have YW : TxtW K mg w := {
    max := T.max, DEEPEST := T.DEEPEST, aFW := aS, FORM_WORDS := ⟨_, PySem.W.mg_of X G y10, rfl⟩
    dFW := ⟨esS, nS, y11, y12, y17, y16, (by decide +kernel), (by show 5 ≤ sizeLine; decide)⟩, dict := PySem.W.mg_none_of X G z14 }
  let TE : ErrT K mg := {
    B := EB, N := EN, D := ED, M := EM, gB := PySem.W.mg_of X G gEB, gN := PySem.W.mg_of X G gEN, gD := PySem.W.mg_of X G gED, gM := PySem.W.mg_of X G gEM
    xB := ⟨gaEB, ggEB, exEB, hdEB⟩, xN := ⟨gaEN, ggEN, exEN, hdEN⟩, xD := ⟨gaED, ggED, exED, hdED⟩, xM := ⟨gaEM, ggEM, exEM, hdEM⟩
    nB := noEB, nN := noEN, nD := noED, nM := noEM
    BB := exm_two exEB isEB tyEB sBB, NB := exm_two exEB isEB tyEB sNB, NN := exm_two exEN isEN tyEN sNN, DB := exm_two exEB isEB tyEB sDB, DN := exm_two exEN isEN tyEN sDN, DD := exm_two exED isED tyED sDD
    MB := exm_two exEB isEB tyEB sMB, MN := exm_two exEN isEN tyEN sMN, MD := exm_two exED isED tyED sMD, MM := exm_two exEM isEM tyEM sMM }
  have F1 := fun_mk (st := scheck_text) l1 c1 k1
  have b1 := F1.binds (ps := Pcheck_text) fun _ _ _ _ _ _ us hl => match us, hl with | [_], _ => rfl
  have m1 := PySem.W.mg_of X G a1
  have F2 := fun_mk (st := stake_leaf) l2 c2 k2
  have b2 := F2.binds (ps := Ptake_leaf) fun _ _ _ _ _ _ us hl => match us, hl with | [_, _], _ => rfl
  have m2 := PySem.W.mg_of X G a2
  have F3 := fun_mk (st := stake_sign) l3 c3 k3
  have b3 := F3.binds (ps := Ptake_sign) fun _ _ _ _ _ _ us hl => match us, hl with | [_, _, _], _ => rfl
  have m3 := PySem.W.mg_of X G a3
  have F4 := fun_mk (st := sgrouped) l4 c4 k4
  have b4 := F4.binds (ps := Pgrouped) fun _ _ _ _ _ _ us hl => match us, hl with | [_, _], _ => rfl
  have m4 := PySem.W.mg_of X G a4
  have F5 := fun_mk (st := stake_halved) l5 c5 k5
  have b5 := F5.binds (ps := Ptake_halved) fun _ _ _ _ _ _ us hl => match us, hl with | [_, _], _ => rfl
  have m5 := PySem.W.mg_of X G a5
  have F6 := fun_mk (st := stake_form) l6 c6 k6
  have b6 := F6.binds (ps := Ptake_form) fun _ _ _ _ _ _ us hl => match us, hl with | [_], _ => rfl
  have m6 := PySem.W.mg_of X G a6
  have F7 := fun_mk (st := stake_ends) l7 c7 k7
  have b7 := F7.binds (ps := Ptake_ends) fun _ _ _ _ _ _ us hl => match us, hl with | [_], _ => rfl
  have m7 := PySem.W.mg_of X G a7
  have F8 := fun_mk (st := stold_form) l8 c8 k8
  have b8 := F8.binds (ps := Ptold_form) fun _ _ _ _ _ _ us hl => match us, hl with | [_], _ => rfl
  have m8 := PySem.W.mg_of X G a8
  have F9 := fun_mk (st := stold_ends) l9 c9 k9
  have b9 := F9.binds (ps := Ptold_ends) fun _ _ _ _ _ _ us hl => match us, hl with | [_], _ => rfl
  have m9 := PySem.W.mg_of X G a9
  have F10 := fun_mk (st := sread_form) l10 c10 k10
  have b10 := F10.binds (ps := Pread_form) fun _ _ _ _ _ _ us hl => match us, hl with | [_], _ => rfl
  have m10 := PySem.W.mg_of X G a10
  have F11 := fun_mk (st := sread_ends) l11 c11 k11
  have b11 := F11.binds (ps := Pread_ends) fun _ _ _ _ _ _ us hl => match us, hl with | [_], _ => rfl
  have m11 := PySem.W.mg_of X G a11
  have F12 := fun_mk (st := s_law_begin) l12 c12 k12
  have b12 := F12.binds (ps := P_law_begin) fun _ _ _ _ _ _ us hl => match us, hl with | [_], _ => rfl
  have m12 := PySem.W.mg_of X G a12
  have F13 := fun_mk (st := s_law_draw) l13 c13 k13
  have b13 := F13.binds (ps := P_law_draw) fun _ _ _ _ _ _ us hl => match us, hl with | [_, _], _ => rfl
  have m13 := PySem.W.mg_of X G a13
  have F14 := fun_mk (st := s_law_pick) l14 c14 k14
  have b14 := F14.binds (ps := P_law_pick) fun _ _ _ _ _ _ us hl => match us, hl with | [_, _], _ => rfl
  have m14 := PySem.W.mg_of X G a14
  have F15 := fun_mk (st := s_law_leaves) l15 c15 k15
  have b15 := F15.binds (ps := P_law_leaves) fun _ _ _ _ _ _ us hl => match us, hl with | [_], _ => rfl
  have m15 := PySem.W.mg_of X G a15
  have F16 := fun_mk (st := s_law_leaf_many) l16 c16 k16
  have b16 := F16.binds (ps := P_law_leaf_many) fun _ _ _ _ _ _ us hl => match us, hl with | [_], _ => rfl
  have m16 := PySem.W.mg_of X G a16
  have F17 := fun_mk (st := s_law_same) l17 c17 k17
  have b17 := F17.binds (ps := P_law_same) fun _ _ _ _ _ _ us hl => match us, hl with | [_, _], _ => rfl
  have m17 := PySem.W.mg_of X G a17
  have F18 := fun_mk (st := s_law_fault) l18 c18 k18
  have b18 := F18.binds (ps := P_law_fault) fun _ _ _ _ _ _ us hl => match us, hl with | [_], _ => rfl
  have m18 := PySem.W.mg_of X G a18
  have F19 := fun_mk (st := s_law_faults) l19 c19 k19
  have b19 := F19.binds (ps := P_law_faults) fun _ _ _ _ _ _ us hl => match us, hl with | [_, _], _ => rfl
  have m19 := PySem.W.mg_of X G a19
  have F20 := fun_mk (st := s_law_name) l20 c20 k20
  have b20 := F20.binds (ps := P_law_name) fun _ _ _ _ _ _ us hl => match us, hl with | [_], _ => rfl
  have m20 := PySem.W.mg_of X G a20
  have F21 := fun_mk (st := s_law_names) l21 c21 k21
  have b21 := F21.binds (ps := P_law_names) fun _ _ _ _ _ _ us hl => match us, hl with | [_, _], _ => rfl
  have m21 := PySem.W.mg_of X G a21
  have F22 := fun_mk (st := s_law_shape) l22 c22 k22
  have b22 := F22.binds (ps := P_law_shape) fun _ _ _ _ _ _ us hl => match us, hl with | [_, _, _, _], _ => rfl
  have m22 := PySem.W.mg_of X G a22
  have F23 := fun_mk (st := s_law_unforked) l23 c23 k23
  have b23 := F23.binds (ps := P_law_unforked) fun _ _ _ _ _ _ us hl => match us, hl with | [_, _], _ => rfl
  have m23 := PySem.W.mg_of X G a23
  have F24 := fun_mk (st := s_law_some_ends) l24 c24 k24
  have b24 := F24.binds (ps := P_law_some_ends) fun _ _ _ _ _ _ us hl => match us, hl with | [_, _, _], _ => rfl
  have m24 := PySem.W.mg_of X G a24
  have F25 := fun_mk (st := s_law_tokens) l25 c25 k25
  have b25 := F25.binds (ps := P_law_tokens) fun _ _ _ _ _ _ us hl => match us, hl with | [_, _], _ => rfl
  have m25 := PySem.W.mg_of X G a25
  have F26 := fun_mk (st := s_law_spaced) l26 c26 k26
  have b26 := F26.binds (ps := P_law_spaced) fun _ _ _ _ _ _ us hl => match us, hl with | [_, _], _ => rfl
  have m26 := PySem.W.mg_of X G a26
  have F27 := fun_mk (st := s_law_ends_tokens) l27 c27 k27
  have b27 := F27.binds (ps := P_law_ends_tokens) fun _ _ _ _ _ _ us hl => match us, hl with | [_], _ => rfl
  have m27 := PySem.W.mg_of X G a27
  have F28 := fun_mk (st := s_law_longest) l28 c28 k28
  have b28 := F28.binds (ps := P_law_longest) fun _ _ _ _ _ _ us hl => match us, hl with | [_, _], _ => rfl
  have m28 := PySem.W.mg_of X G a28
  have F29 := fun_mk (st := s_law_folded) l29 c29 k29
  have b29 := F29.binds (ps := P_law_folded) fun _ _ _ _ _ _ us hl => match us, hl with | [_], _ => rfl
  have m29 := PySem.W.mg_of X G a29
  have F30 := fun_mk (st := s_law_read) l30 c30 k30
  have b30 := F30.binds (ps := P_law_read) fun _ _ _ _ _ _ us hl => match us, hl with | [_], _ => rfl
  have m30 := PySem.W.mg_of X G a30
  have F31 := fun_mk (st := s_law_read_due) l31 c31 k31
  have b31 := F31.binds (ps := P_law_read_due) fun _ _ _ _ _ _ us hl => match us, hl with | [_, _], _ => rfl
  have m31 := PySem.W.mg_of X G a31
  have F32 : FunC K "_law_read_right" "_law_read_right" s_law_read_right f32 _ (.ref cc1) := ⟨oc32, od32, kV32, dc32, pm32, an32, ct32, sl32, rfl, l32, c32⟩
  have b32 := (fun_mk (st := s_law_read_right) l32 c32 k32).binds (ps := P_law_read_right) fun _ _ _ _ _ _ us hl => match us, hl with | [_], _ => rfl
  have m32 := PySem.W.mg_of X G a32
  have F33 := fun_mk (st := s_law_spoilt) l33 c33 k33
  have b33 := F33.binds (ps := P_law_spoilt) fun _ _ _ _ _ _ us hl => match us, hl with | [_, _], _ => rfl
  have m33 := PySem.W.mg_of X G a33
  have F34 := fun_mk (st := s_law_loose) l34 c34 k34
  have b34 := F34.binds (ps := P_law_loose) fun _ _ _ _ _ _ us hl => match us, hl with | [_], _ => rfl
  have m34 := PySem.W.mg_of X G a34
  have F35 := fun_mk (st := s_law_brackets) l35 c35 k35
  have b35 := F35.binds (ps := P_law_brackets) fun _ _ _ _ _ _ us hl => match us, hl with | [_], _ => rfl
  have m35 := PySem.W.mg_of X G a35
  have F36 := fun_mk (st := slaw) l36 c36 k36
  have F37 := fun_mk (st := sRd0) l37 c37 k37
  have b37 := F37.binds (ps := ["self", "text"]) fun _ _ _ _ _ _ us hl => match us, hl with | [_, _], _ => rfl
  have F38 := fun_mk (st := sWr0) l38 c38 k38
  have b38 := F38.binds (ps := ["self", "form", "depth", "leaves"]) fun _ _ _ _ _ _ us hl => match us, hl with | [_, _, _, _], _ => rfl
  have F39 := fun_mk (st := sRd1) l39 c39 k39
  have b39 := F39.binds (ps := ["self", "signs"]) fun _ _ _ _ _ _ us hl => match us, hl with | [_, _], _ => rfl
  have F40 := fun_mk (st := sRd2) l40 c40 k40
  have b40 := F40.binds (ps := ["self"]) fun _ _ _ _ _ _ us hl => match us, hl with | [_], _ => rfl
  have F41 := fun_mk (st := sRd3) l41 c41 k41
  have b41 := F41.binds (ps := ["self"]) fun _ _ _ _ _ _ us hl => match us, hl with | [_], _ => rfl
  have F42 := fun_mk (st := sRd4) l42 c42 k42
  have b42 := F42.binds (ps := ["self", "signs"]) fun _ _ _ _ _ _ us hl => match us, hl with | [_, _], _ => rfl
  have F43 := fun_mk (st := sRd5) l43 c43 k43
  have b43 := F43.binds (ps := ["self"]) fun _ _ _ _ _ _ us hl => match us, hl with | [_], _ => rfl
  have F44 := fun_mk (st := sRd9) l44 c44 k44
  have b44 := F44.binds (ps := ["self"]) fun _ _ _ _ _ _ us hl => match us, hl with | [_], _ => rfl
  have F45 := fun_mk (st := (meth 3 0)) l45 c45 k45
  have b45 := F45.binds (ps := ["self", "value"]) fun _ _ _ _ _ _ us hl => match us, hl with | [_, _], _ => rfl
  have F46 := fun_mk (st := (meth 4 0)) l46 c46 k46
  have b46 := F46.binds (ps := ["self", "most"]) fun _ _ _ _ _ _ us hl => match us, hl with | [_, _], _ => rfl
  have F47 := fun_mk (st := (meth 5 0)) l47 c47 k47
  have b47 := F47.binds (ps := ["self", "most"]) fun _ _ _ _ _ _ us hl => match us, hl with | [_, _], _ => rfl
  have F48 := fun_mk (st := (meth 6 0)) l48 c48 k48
  have b48 := F48.binds (ps := ["self", "at"]) fun _ _ _ _ _ _ us hl => match us, hl with | [_, _], _ => rfl
  have RT : RdTxt K CR := ⟨⟨pgCR, hdCR, poCR, saCR⟩, nR0, nR1⟩
  have RT2 : RdTxt2 K mg CR f37 := ⟨⟨mkCR, a37, i37, kpCR⟩, PySem.W.mg_of X G gCR⟩
  have WT : WrTxt K mg CW f38 := ⟨⟨pgCW, hdCW, poCW, saCW⟩, nW0, nW1, nW2, ⟨mkCW, a38, i38, kpCW⟩, PySem.W.mg_of X G gCW⟩
  refine ⟨PySem.W.fnOf "law" "law" (defArgs slaw) (defBody slaw) (defScope slaw) .none kV36 dc36 pm36 an36 cd36 ct36, [(cc1, Pt1)], spLaw5 K [(Pt1, lamQ5)], fun p hp => ?_, fun p hp => ?_, fun p hp => ?_, fun s v => .of_eq rfl, fun H a ns hl hb hH hS => ?_, fun base _ _ hTB => ?_⟩
  · rw [List.mem_singleton.mp hp]; exact tP1
  · rw [List.mem_singleton.mp hp]; exact tN1
  · rw [List.mem_singleton.mp hp]; exact PySem.W.codeHd_of_K X tC1
  · refine ⟨a, ns, rfl, hS, hl, fun p hp => ?_, fun _ => rfl⟩
    rw [List.mem_singleton.mp hp]
    exact LamX.TabS.nil (hH (cc1, Pt1) List.mem_cons_self)
  have TB1 : LamX.TabB base mg cc1 Pt1 := hTB (cc1, Pt1) List.mem_cons_self
  have one1 : ∀ p ∈ [(Pt1, lamQ5)], p.1 = Pt1 → p.2 = lamQ5 := fun p hp e => by rw [List.mem_singleton.mp hp]
  have OB : OneE l.prog w K mg base "BadValue" "value" EB := { oex := ⟨⟨nmB, qB, NB, bsB, bmB, snB, subB, abB, colB, ddB, mz0B, mz1B, mz2B, mz3B, mz5B, xB, rB⟩, saB, exEB, tyEB, kB⟩, xf := TE.xB, no := noEB, g := PySem.W.mg_of X G gEB, fI := f45, fd := _, iC := a45, tI := i45, b := b45, F := ok_i2 EB F45 }
  have OD : OneE l.prog w K mg base "TooDeep" "most" ED := { oex := ⟨⟨nmD, qD, ND, bsD, bmD, snD, subD, abD, colD, ddD, mz0D, mz1D, mz2D, mz3D, mz5D, xD, rD⟩, saD, exED, tyED, kD⟩, xf := TE.xD, no := noED, g := PySem.W.mg_of X G gED, fI := f46, fd := _, iC := a46, tI := i46, b := b46, F := ok_i3 ED F46 }
  have OM : OneE l.prog w K mg base "TooMany" "most" EM := { oex := ⟨⟨nmM, qM, NM, bsM, bmM, snM, subM, abM, colM, ddM, mz0M, mz1M, mz2M, mz3M, mz5M, xM, rM⟩, saM, exEM, tyEM, kM⟩, xf := TE.xM, no := noEM, g := PySem.W.mg_of X G gEM, fI := f47, fd := _, iC := a47, tI := i47, b := b47, F := ok_i5 EM F47 }
  have ON : OneE l.prog w K mg base "NotAText" "at" EN := { oex := ⟨⟨nmN, qN, NN, bsN, bmN, snN, subN, abN, colN, ddN, mz0N, mz1N, mz2N, mz3N, mz5N, xN, rN⟩, saN, exEN, tyEN, kN⟩, xf := TE.xN, no := noEN, g := PySem.W.mg_of X G gEN, fI := f48, fd := _, iC := a48, tI := i48, b := b48, F := ok_i6 EN F48 }
  have Ccheck_text : CalX l.prog w K mg base "check_text" 4 Pcheck_text (spCheckText K EB) := ⟨_, _, okcheck_text T OB F1, m1, k1, b1⟩
  have M1 : Mth l.prog w K mg base CR "sees" 1 NRd1 (spSees CR) := ⟨f39, _, ⟨a39, i39, k39⟩, okRd1 T RT F39, b39⟩
  have M2 : Mth l.prog w K mg base CR "is_done" 1 NRd2 (spDone CR) := ⟨f40, _, ⟨a40, i40, k40⟩, okRd2 T RT F40, b40⟩
  have M3 : MthX l.prog w K mg base CR "finish" 3 NRd2 (spFinishX CR EN) := ⟨f41, _, ⟨a41, i41, k41⟩, okRd3X (R := RT) ON M2 F41, b41⟩
  have M4 : Mth l.prog w K mg base CR "take" 2 NRd1 (spTake CR) := ⟨f42, _, ⟨a42, i42, k42⟩, okRd4 (R := RT) M1 F42, b42⟩
  have M4X : MthX l.prog w K mg base CR "take" 3 NRd1 (spTakeX CR EN) := ⟨f42, _, ⟨a42, i42, k42⟩, okRd4X (R := RT) ON M1 F42, b42⟩
  have M1L : Mth l.prog w K mg base CR "sees" 1 NRd1 (spSeesL K CR) := ⟨f39, _, ⟨a39, i39, k39⟩, okRd1L T RT F39, b39⟩
  have M4L : MthX l.prog w K mg base CR "take" 3 NRd1 (spTakeLX K CR EN) := ⟨f42, _, ⟨a42, i42, k42⟩, okRd4LX (R := RT) ON M1L F42, b42⟩
  have M5 : Mth l.prog w K mg base CR "skip_spaces" 2 NRd2 (spSkip CR) := ⟨f43, _, ⟨a43, i43, k43⟩, okRd5 (R := RT) M1 F43, b43⟩
  have M9 : MthX l.prog w K mg base CR "take_name" 4 NRd2 (spTakeNameX CR EN) := ⟨f44, _, ⟨a44, i44, k44⟩, okRd9X (R := RT) T M1 M4X F44, b44⟩
  have GW := okWr0 (P := l.prog) (w := w) (base := base) WT F38
  have GR := okRd0 (P := l.prog) (w := w) (mg := mg) (base := base) RT F37
  have Ctake_leaf : CalX l.prog w K mg base "take_leaf" 5 Ptake_leaf (spTakeLeafX K CR CW EN) := ⟨_, _, oktake_leafX (R := RT) WT GW b38 M1 M4 M9 F2, m2, k2, b2⟩
  have Cgrouped : Cal l.prog w K mg base "grouped" 3 Pgrouped (spGrouped K CW) := ⟨_, _, okgrouped WT YW GW b38 F4, m4, k4, b4⟩
  have Ctake_sign : CalX l.prog w K mg base "take_sign" 4 Ptake_sign (spTakeSignX K CR EN) := ⟨_, _, oktake_signX (R := RT) M4 M4L F3, m3, k3, b3⟩
  have Ctake_halved : CalX l.prog w K mg base "take_halved" 6 Ptake_halved (spTakeHalvedX K CR CW EN) := ⟨_, _, oktake_halvedX (R := RT) WT T M1 M1L M4 M4X M5 Ctake_leaf Cgrouped Ctake_sign F5, m5, k5, b5⟩
  have Ctake_form : CalX l.prog w K mg base "take_form" 7 Ptake_form (spTakeFormX K CR CW EN) := ⟨_, _, oktake_formX YW Ctake_halved F6, m6, k6, b6⟩
  have Ctold_form : CalX l.prog w K mg base "told_form" 4 Ptold_form (spToldX K CW ED) := ⟨_, _, oktold_formX WT YW OD F8, m8, k8, b8⟩
  have Ctake_ends : CalX l.prog w K mg base "take_ends" 8 Ptake_ends (spTakeEndsX K CR CW EN) := ⟨_, _, oktake_endsX (R := RT) M1 M4 Ctake_form F7, m7, k7, b7⟩
  have Ctold_ends : CalX l.prog w K mg base "told_ends" 5 Ptold_ends (spToldEnds K CW ED EM) := ⟨_, _, oktold_ends WT T7 TS OM Ctold_form F9, m9, k9, b9⟩
  have Cread_ends : CalX l.prog w K mg base "read_ends" 9 Pread_ends (spRead5 K EN ED EM true) := ⟨_, _, read_ends5 (okread_endsX (R := RT) RT2 GR b37 Ccheck_text Ctake_ends M3 Ctold_ends F11), m11, k11, b11⟩
  have Cread_form : CalX l.prog w K mg base "read_form" 9 Pread_form (spRead5 K EN ED EM false) := ⟨_, _, okread_formX (R := RT) RT2 GR b37 Ccheck_text Ctake_form M3 Ctold_form F10, m10, k10, b10⟩
  have C_law_begin : Cal l.prog w K mg base "_law_begin" 1 P_law_begin (spBegin K) := ⟨_, _, ok_law_begin T F12, m12, k12, b12⟩
  have C_law_draw : Cal l.prog w K mg base "_law_draw" 1 P_law_draw (spDraw K) := ⟨_, _, ok_law_draw T F13, m13, k13, b13⟩
  have C_law_pick : Cal l.prog w K mg base "_law_pick" 2 P_law_pick (spPick K) := ⟨_, _, ok_law_pick T F14 C_law_draw, m14, k14, b14⟩
  have C_law_tokens : Cal l.prog w K mg base "_law_tokens" 21 P_law_tokens (spTokens K 20) := ⟨_, _, all_law_tokens T F25 b25 m25 20, m25, k25, b25⟩
  have C_law_same : Cal l.prog w K mg base "_law_same" 17 P_law_same (spSame K 16) := ⟨_, _, all_law_same T (PySem.W.mg_none_of X G z13) F17 b17 m17 16, m17, k17, b17⟩
  have C_law_fault : Cal l.prog w K mg base "_law_fault" 14 P_law_fault (spFault l.prog w K mg base TE 13) := ⟨_, _, ok_law_fault TE F18, m18, k18, b18⟩
  have C_law_faults : Cal l.prog w K mg base "_law_faults" 31 P_law_faults (spFaults l.prog w K mg base TE 13 16) := ⟨_, _, ok_law_faults (k := 13) (n := 16) TE F19 C_law_fault C_law_same, m19, k19, b19⟩
  have C_law_name : Cal l.prog w K mg base "_law_name" 3 P_law_name (spNameOf K) := ⟨_, _, ok_law_name T F20 C_law_pick, m20, k20, b20⟩
  have C_law_names : Cal l.prog w K mg base "_law_names" 4 P_law_names (spNames K) := ⟨_, _, ok_law_names T F21 C_law_draw C_law_name, m21, k21, b21⟩
  have C_law_shape : Cal l.prog w K mg base "_law_shape" 15 P_law_shape (spShape K 13) := ⟨_, _, all_law_shape T F22 b22 m22 C_law_draw C_law_pick 13, m22, k22, b22⟩
  have C_law_leaves : Cal l.prog w K mg base "_law_leaves" 13 P_law_leaves (spLvs K 13) := ⟨_, _, all_law_leaves T7 F15 b15 m15 13, m15, k15, b15⟩
  have C_law_leaf_many : Cal l.prog w K mg base "_law_leaf_many" 14 P_law_leaf_many (spLeafMany K) := ⟨_, _, ok_law_leaf_many T7 TS.sum F16 C_law_leaves, m16, k16, b16⟩
  have C_law_unforked : Cal l.prog w K mg base "_law_unforked" 13 P_law_unforked (spUnforked K 13) := ⟨_, _, all_law_unforked T7 F23 b23 m23 13, m23, k23, b23⟩
  have C_law_some_ends : Cal l.prog w K mg base "_law_some_ends" 16 P_law_some_ends (spSomeEnds K) := ⟨_, _, ok_law_some_ends T7 F24 C_law_draw C_law_pick C_law_names C_law_shape C_law_unforked, m24, k24, b24⟩
  have C_law_ends_tokens : Cal l.prog w K mg base "_law_ends_tokens" 22 P_law_ends_tokens (spEndsTokens K) := ⟨_, _, ok_law_ends_tokens F27 C_law_tokens, m27, k27, b27⟩
  have C_law_longest : Cal l.prog w K mg base "_law_longest" 1 P_law_longest (spLongest K) := ⟨_, _, ok_law_longest T T7 F28, m28, k28, b28⟩
  have C_law_folded : Cal l.prog w K mg base "_law_folded" 1 P_law_folded (spFolded K) := ⟨_, _, ok_law_folded T F29, m29, k29, b29⟩
  have C_law_read : Cal l.prog w K mg base "_law_read" 2 P_law_read (spRead K) := ⟨_, _, ok_law_read T F30 C_law_folded, m30, k30, b30⟩
  have C_law_read_due : Cal l.prog w K mg base "_law_read_due" 15 P_law_read_due (spReadDue5 K) := ⟨_, _, ok_law_read_due5 T F31 C_law_longest C_law_read C_law_leaf_many (fun t h1 h2 => ft_isForm t h1 h2), m31, k31, b31⟩
  have C_law_spaced : Cal l.prog w K mg base "_law_spaced" 3 P_law_spaced (spSpaced K) := ⟨_, _, ok_law_spaced F26 C_law_draw C_law_pick, m26, k26, b26⟩
  have C_law_spoilt : Cal l.prog w K mg base "_law_spoilt" 3 P_law_spoilt (spSpoilt K) := ⟨_, _, ok_law_spoilt T F33 C_law_draw C_law_pick, m33, k33, b33⟩
  have C_law_loose : Cal l.prog w K mg base "_law_loose" 3 P_law_loose (spLoose K) := ⟨_, _, ok_law_loose T F34 C_law_draw C_law_pick, m34, k34, b34⟩
  have C_law_brackets : Cal l.prog w K mg base "_law_brackets" 3 P_law_brackets (spBrackets K) := ⟨_, _, ok_law_brackets T F35 C_law_draw C_law_pick, m35, k35, b35⟩
  have in1 : (Pt1, lamQ5) ∈ [(Pt1, lamQ5)] := List.mem_cons_self
  have C_law_read_right : Cal l.prog w K mg base "_law_read_right" 36 P_law_read_right (spReadRight K [(Pt1, lamQ5)]) := ⟨_, _, ok_law_read_right (T := TE) TB1 in1 one1 F32 C_law_read_due C_law_same C_law_faults Cread_form Cread_ends, m32, k32, b32⟩
  exact ok_law5 T T.all F36 C_law_begin C_law_some_ends C_law_spaced C_law_ends_tokens C_law_tokens C_law_spoilt C_law_loose C_law_brackets C_law_read_right
theorem walk {l : PySem.W.OpenLaw} {q : Program} {loose : List Str} {XP : (Str → Option Value) → Heap → Prop} {YP : World → Heap → Prop} {d : DefRec} {K : Params → PySem.W.Frag} (hn : l.most = some 63) (hdf : d.params.defaults = [])
    (hY : ∀ (w : World) (h : Heap), YP w h → (K w.params).In h)
    (F : ∀ (w : World) (mg : Str → Option Value) (fa : Addr) (h : Heap), YP w h → (K w.params).In h → h.Ns mainGlobals mg → mg d.name = some (.ref fa) → LamX.LawAtS l w (K w.params) CX0 37 63 "_law_script" mg fa h) :
    PySem.W.WalkO q loose XP YP l.row.toRowW d [] (fun f vs => PySem.call f vs) :=
  LamX.walk_ofTs (n := 63) (k := 37) (x := "_law_script") (CX := fun _ => CX0) hn (by decide) hdf ⟨rfl, by decide, by decide⟩ hY F fun _ _ _ _ _ z => z
end My

set_option Elab.async false
set_option linter.all false
open PySem PySem.W PyProof.Rows
set_option maxRecDepth 100000 in
set_option maxHeartbeats 0 in
theorem PySem.Challenge.cw_alldeeds_k05_whole_longest_beginnings_holds : PySem.Challenge.rw_alldeeds_k05_whole_longest_beginnings.Holds := by
  w_on; o_law; k_head; (case hw => w_witness2)
  k_fill
  refine My.walk (l := PySem.Challenge.rw_alldeeds_k05_whole_longest_beginnings) rfl rfl (fun w h Y => PySem.W.km_in_of Y) ?F
  case F =>
    intro w mg fa h Y KX G hmg
    have hT := PySem.W.km_tabs_of Y
    refine' My.all_mk KX G hmg ?tP1 ?a1 ?l1 ?c1 ?k1 ?a2 ?l2 ?c2 ?k2 ?a3 ?l3 ?c3 ?k3 ?a4 ?l4 ?c4 ?k4 ?a5 ?l5 ?c5 ?k5 ?a6 ?l6 ?c6 ?k6 ?a7 ?l7 ?c7 ?k7 ?a8 ?l8 ?c8 ?k8 ?a9 ?l9 ?c9 ?k9 ?a10 ?l10 ?c10 ?k10 ?a11 ?l11 ?c11 ?k11 ?a12 ?l12 ?c12 ?k12 ?a13 ?l13 ?c13 ?k13 ?a14 ?l14 ?c14 ?k14 ?a15 ?l15 ?c15 ?k15 ?a16 ?l16 ?c16 ?k16 ?a17 ?l17 ?c17 ?k17 ?a18 ?l18 ?c18 ?k18 ?a19 ?l19 ?c19 ?k19 ?a20 ?l20 ?c20 ?k20 ?a21 ?l21 ?c21 ?k21 ?a22 ?l22 ?c22 ?k22 ?a23 ?l23 ?c23 ?k23 ?a24 ?l24 ?c24 ?k24 ?a25 ?l25 ?c25 ?k25 ?a26 ?l26 ?c26 ?k26 ?a27 ?l27 ?c27 ?k27 ?a28 ?l28 ?c28 ?k28 ?a29 ?l29 ?c29 ?k29 ?a30 ?l30 ?c30 ?k30 ?a31 ?l31 ?c31 ?k31 ?a32 ?l32 ?c32 ?k32 ?a33 ?l33 ?c33 ?k33 ?a34 ?l34 ?c34 ?k34 ?a35 ?l35 ?c35 ?k35 ?a36 ?l36 ?c36 ?k36 ?tN1 ?tC1 ?gCR ?pgCR ?hdCR ?poCR ?saCR ?mkCR ?kpCR ?gCW ?pgCW ?hdCW ?poCW ?saCW ?mkCW ?kpCW ?nR0 ?nR1 ?nW0 ?nW1 ?nW2 ?gEB ?gaEB ?ggEB ?exEB ?hdEB ?noEB ?isEB ?tyEB ?gEN ?gaEN ?ggEN ?exEN ?hdEN ?noEN ?isEN ?tyEN ?gED ?gaED ?ggED ?exED ?hdED ?noED ?isED ?tyED ?gEM ?gaEM ?ggEM ?exEM ?hdEM ?noEM ?isEM ?tyEM ?sBB ?sNB ?sNN ?sDB ?sDN ?sDD ?sMB ?sMN ?sMD ?sMM ?xB ?rB ?saB ?kB ?xN ?rN ?saN ?kN ?xD ?rD ?saD ?kD ?xM ?rM ?saM ?kM ?a37 ?i37 ?l37 ?c37 ?k37 ?a38 ?i38 ?l38 ?c38 ?k38 ?a39 ?i39 ?l39 ?c39 ?k39 ?a40 ?i40 ?l40 ?c40 ?k40 ?a41 ?i41 ?l41 ?c41 ?k41 ?a42 ?i42 ?l42 ?c42 ?k42 ?a43 ?i43 ?l43 ?c43 ?k43 ?a44 ?i44 ?l44 ?c44 ?k44 ?a45 ?i45 ?l45 ?c45 ?k45 ?a46 ?i46 ?l46 ?c46 ?k46 ?a47 ?i47 ?l47 ?c47 ?k47 ?a48 ?i48 ?l48 ?c48 ?k48 ?z1 ?z2 ?z3 ?z4 ?z5 ?z6 ?z7 ?z8 ?z9 ?z10 ?z11 ?z12 ?z13 ?z14 ?z15 ?z16 ?y1 ?y2 ?y3 ?y4 ?y10 ?y11 ?y12 ?y16 ?y17 ?y18
    (case tP1 => exact hT _ (List.mem_cons_self))
    (case a1 => k_is)
    (case l1 => k_is)
    (case c1 => k_is)
    (case k1 => k_is)
    (case a2 => k_is)
    (case l2 => k_is)
    (case c2 => k_is)
    (case k2 => k_is)
    (case a3 => k_is)
    (case l3 => k_is)
    (case c3 => k_is)
    (case k3 => k_is)
    (case a4 => k_is)
    (case l4 => k_is)
    (case c4 => k_is)
    (case k4 => k_is)
    (case a5 => k_is)
    (case l5 => k_is)
    (case c5 => k_is)
    (case k5 => k_is)
    (case a6 => k_is)
    (case l6 => k_is)
    (case c6 => k_is)
    (case k6 => k_is)
    (case a7 => k_is)
    (case l7 => k_is)
    (case c7 => k_is)
    (case k7 => k_is)
    (case a8 => k_is)
    (case l8 => k_is)
    (case c8 => k_is)
    (case k8 => k_is)
    (case a9 => k_is)
    (case l9 => k_is)
    (case c9 => k_is)
    (case k9 => k_is)
    (case a10 => k_is)
    (case l10 => k_is)
    (case c10 => k_is)
    (case k10 => k_is)
    (case a11 => k_is)
    (case l11 => k_is)
    (case c11 => k_is)
    (case k11 => k_is)
    (case a12 => k_is)
    (case l12 => k_is)
    (case c12 => k_is)
    (case k12 => k_is)
    (case a13 => k_is)
    (case l13 => k_is)
    (case c13 => k_is)
    (case k13 => k_is)
    (case a14 => k_is)
    (case l14 => k_is)
    (case c14 => k_is)
    (case k14 => k_is)
    (case a15 => k_is)
    (case l15 => k_is)
    (case c15 => k_is)
    (case k15 => k_is)
    (case a16 => k_is)
    (case l16 => k_is)
    (case c16 => k_is)
    (case k16 => k_is)
    (case a17 => k_is)
    (case l17 => k_is)
    (case c17 => k_is)
    (case k17 => k_is)
    (case a18 => k_is)
    (case l18 => k_is)
    (case c18 => k_is)
    (case k18 => k_is)
    (case a19 => k_is)
    (case l19 => k_is)
    (case c19 => k_is)
    (case k19 => k_is)
    (case a20 => k_is)
    (case l20 => k_is)
    (case c20 => k_is)
    (case k20 => k_is)
    (case a21 => k_is)
    (case l21 => k_is)
    (case c21 => k_is)
    (case k21 => k_is)
    (case a22 => k_is)
    (case l22 => k_is)
    (case c22 => k_is)
    (case k22 => k_is)
    (case a23 => k_is)
    (case l23 => k_is)
    (case c23 => k_is)
    (case k23 => k_is)
    (case a24 => k_is)
    (case l24 => k_is)
    (case c24 => k_is)
    (case k24 => k_is)
    (case a25 => k_is)
    (case l25 => k_is)
    (case c25 => k_is)
    (case k25 => k_is)
    (case a26 => k_is)
    (case l26 => k_is)
    (case c26 => k_is)
    (case k26 => k_is)
    (case a27 => k_is)
    (case l27 => k_is)
    (case c27 => k_is)
    (case k27 => k_is)
    (case a28 => k_is)
    (case l28 => k_is)
    (case c28 => k_is)
    (case k28 => k_is)
    (case a29 => k_is)
    (case l29 => k_is)
    (case c29 => k_is)
    (case k29 => k_is)
    (case a30 => k_is)
    (case l30 => k_is)
    (case c30 => k_is)
    (case k30 => k_is)
    (case a31 => k_is)
    (case l31 => k_is)
    (case c31 => k_is)
    (case k31 => k_is)
    (case a32 => k_is)
    (case l32 => k_is)
    (case c32 => k_is)
    (case k32 => k_is)
    (case a33 => k_is)
    (case l33 => k_is)
    (case c33 => k_is)
    (case k33 => k_is)
    (case a34 => k_is)
    (case l34 => k_is)
    (case c34 => k_is)
    (case k34 => k_is)
    (case a35 => k_is)
    (case l35 => k_is)
    (case c35 => k_is)
    (case k35 => k_is)
    (case a36 => k_is)
    (case l36 => k_is)
    (case c36 => k_is)
    (case k36 => k_is)
    (case tN1 => kernel_rfl)
    (case tC1 => kernel_rfl)
    (case gCR => k_is)
    (case pgCR => k_is)
    (case hdCR => k_is)
    (case poCR => k_is)
    (case saCR => k_is)
    (case mkCR => k_is)
    (case kpCR => k_is)
    (case gCW => k_is)
    (case pgCW => k_is)
    (case hdCW => k_is)
    (case poCW => k_is)
    (case saCW => k_is)
    (case mkCW => k_is)
    (case kpCW => k_is)
    (case nR0 => k_is)
    (case nR1 => k_is)
    (case nW0 => k_is)
    (case nW1 => k_is)
    (case nW2 => k_is)
    (case gEB => k_is)
    (case gaEB => k_is)
    (case ggEB => k_is)
    (case exEB => k_is)
    (case hdEB => k_is)
    (case noEB => k_is)
    (case isEB => k_is)
    (case tyEB => k_is)
    (case gEN => k_is)
    (case gaEN => k_is)
    (case ggEN => k_is)
    (case exEN => k_is)
    (case hdEN => k_is)
    (case noEN => k_is)
    (case isEN => k_is)
    (case tyEN => k_is)
    (case gED => k_is)
    (case gaED => k_is)
    (case ggED => k_is)
    (case exED => k_is)
    (case hdED => k_is)
    (case noED => k_is)
    (case isED => k_is)
    (case tyED => k_is)
    (case gEM => k_is)
    (case gaEM => k_is)
    (case ggEM => k_is)
    (case exEM => k_is)
    (case hdEM => k_is)
    (case noEM => k_is)
    (case isEM => k_is)
    (case tyEM => k_is)
    (case sBB => first | rfl | k_is)
    (case sNB => first | rfl | k_is)
    (case sNN => first | rfl | k_is)
    (case sDB => first | rfl | k_is)
    (case sDN => first | rfl | k_is)
    (case sDD => first | rfl | k_is)
    (case sMB => first | rfl | k_is)
    (case sMN => first | rfl | k_is)
    (case sMD => first | rfl | k_is)
    (case sMM => first | rfl | k_is)
    (case xB => k_is)
    (case rB => first | decide +kernel | k_is)
    (case saB => k_is)
    (case kB => k_is)
    (case xN => k_is)
    (case rN => first | decide +kernel | k_is)
    (case saN => k_is)
    (case kN => k_is)
    (case xD => k_is)
    (case rD => first | decide +kernel | k_is)
    (case saD => k_is)
    (case kD => k_is)
    (case xM => k_is)
    (case rM => first | decide +kernel | k_is)
    (case saM => k_is)
    (case kM => k_is)
    (case a37 => k_is)
    (case i37 => k_is)
    (case l37 => k_is)
    (case c37 => k_is)
    (case k37 => k_is)
    (case a38 => k_is)
    (case i38 => k_is)
    (case l38 => k_is)
    (case c38 => k_is)
    (case k38 => k_is)
    (case a39 => k_is)
    (case i39 => k_is)
    (case l39 => k_is)
    (case c39 => k_is)
    (case k39 => k_is)
    (case a40 => k_is)
    (case i40 => k_is)
    (case l40 => k_is)
    (case c40 => k_is)
    (case k40 => k_is)
    (case a41 => k_is)
    (case i41 => k_is)
    (case l41 => k_is)
    (case c41 => k_is)
    (case k41 => k_is)
    (case a42 => k_is)
    (case i42 => k_is)
    (case l42 => k_is)
    (case c42 => k_is)
    (case k42 => k_is)
    (case a43 => k_is)
    (case i43 => k_is)
    (case l43 => k_is)
    (case c43 => k_is)
    (case k43 => k_is)
    (case a44 => k_is)
    (case i44 => k_is)
    (case l44 => k_is)
    (case c44 => k_is)
    (case k44 => k_is)
    (case a45 => k_is)
    (case i45 => k_is)
    (case l45 => k_is)
    (case c45 => k_is)
    (case k45 => k_is)
    (case a46 => k_is)
    (case i46 => k_is)
    (case l46 => k_is)
    (case c46 => k_is)
    (case k46 => k_is)
    (case a47 => k_is)
    (case i47 => k_is)
    (case l47 => k_is)
    (case c47 => k_is)
    (case k47 => k_is)
    (case a48 => k_is)
    (case i48 => k_is)
    (case l48 => k_is)
    (case c48 => k_is)
    (case k48 => k_is)
    (case z1 => k_is)
    (case z2 => k_is)
    (case z3 => k_is)
    (case z4 => k_is)
    (case z5 => k_is)
    (case z6 => k_is)
    (case z7 => k_is)
    (case z8 => k_is)
    (case z9 => k_is)
    (case z10 => k_is)
    (case z11 => k_is)
    (case z12 => k_is)
    (case z13 => k_is)
    (case z14 => k_is)
    (case z15 => k_is)
    (case z16 => k_is)
    (case y1 => k_is)
    (case y2 => k_is)
    (case y3 => k_is)
    (case y4 => k_is)
    (case y10 => k_is)
    (case y11 => k_is)
    (case y12 => exact ⟨⟨_, _, rfl, rfl⟩, ⟨_, _, rfl, rfl⟩, ⟨_, _, rfl, rfl⟩, ⟨_, _, rfl, rfl⟩, ⟨_, _, rfl, rfl⟩, trivial⟩)
    (case y16 => exact .cons ⟨_, _, rfl, rfl, _, rfl⟩ (.cons ⟨_, _, rfl, rfl, _, rfl⟩ (.cons ⟨_, _, rfl, rfl, _, rfl⟩ (.cons ⟨_, _, rfl, rfl, _, rfl⟩ (.cons ⟨_, _, rfl, rfl, _, rfl⟩ (.nil))))))
    (case y17 => first | rfl | decide +kernel | k_is)
    (case y18 => k_is)

