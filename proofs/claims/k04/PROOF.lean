import PyProof.Rows.All
import Wide.All
import OpenK.AllK
import Wide.FinOn
import HandS.ForMost
import HandS.Wide
import HandS.IsInst
import HandS.TupAny
import HandS.Style
import HandS.Deep
import HandS.Conv
import HandS.Codes
import KE.KRevSl
import HandS.ForExc
import HandS.Lambda
import HandS.TryMany
import HandS.ExcInit
import HandS.ExcField
import HandS.Zip
import HandS.Walk
import HandS.More
import HandS.EndTab
import KE.KNestM
import PySem.Challenge.RW_alldeeds_k04_whole_form_texts
set_option Elab.async false
set_option linter.all false
set_option maxRecDepth 100000
namespace My
open PySem L2

/-! ### the text by places -/
def top (i : Nat) : Stmt := PySem.Challenge.pw_alldeeds_k04_whole_form_texts.main.body.getD i (.Pass ⟨0, 0, 0, 0⟩)

/-! ### a def that may be called -/
structure Cal (P : Program) (w : World) (K : PySem.W.Frag) (mg : Str → Option Value) (base : Heap) (x : Str) (k : Nat) (ps : List Str) (sp : Sp) where
  f : Addr
  fd : FuncData
  ok : FnOk P w K mg base CX0 k f fd ps sp
  m : mg x = some (.ref f)
  kp : PySem.W.keepIn K (.ref f) = true
  b : Binds K fd ps []
section
variable {X : Cx} {k j : Nat} {ps : List Str} {sp : Sp} {x : Str} {p pos : Pos} {e : Expr} {es : List Expr} {t : TA}
theorem pe_callC (C : Cal X.prog X.w X.K X.mg X.base x k ps sp) (hr : Room j X.A) (ha : PA X (e :: es) t) (hk : k ≤ j := by omega) (hg : Gl X x := by rfl) (hdb : (x == ("__debug__" : Str)) = false := by decide)
    (he : starEach (e :: es) X.env = (false, eval e X.env) :: starEach es X.env := by rfl) (hpl : (backTo pos (starEach es X.env)).any (·.1) = false := by rfl) :
    PE X (.Call (.Name x p) (e :: es) [] pos) (tCall sp [] E0 t) := pe_call C.ok (hr.mono hk) hg C.m C.kp C.b .nil pass0 ha hdb he hpl
theorem pe_globE {v : V} (h : ∃ u, X.mg x = some u ∧ RelV v u) (hg : Gl X x := by rfl) (hd : (x == ("__debug__" : Str)) = false := by decide) : PE X (.Name x pos) (tC v) := by
  obtain ⟨u, hm, r⟩ := h
  exact pe_glob hg hm r hd
end

/-! ### heaps: all but the object at d is kept -/
def Keep (d : Addr) (H H' : Hp) : Prop := ∀ b o, b ≠ d → H b = some o → H' b = some o
def IsDk (H : Hp) (d : Addr) : Prop := ∃ kvs : List (Key × V), H d = some (.dK kvs)
theorem Keep.refl (d : Addr) (H : Hp) : Keep d H H := fun _ _ _ h => h
theorem Keep.trans {d : Addr} {H H1 H2 : Hp} (a : Keep d H H1) (b : Keep d H1 H2) : Keep d H H2 := fun c o n h => b c o n (a c o n h)
theorem Same.toKeep {d : Addr} {H H' : Hp} (s : Same H H') : Keep d H H' := fun c o _ h => s c o h
theorem same_new {H : Hp} {p : Addr} (h : H p = none) (o : HO) : Same H (upd H p o) := fun b u q => by rw [upd_ne (ne_of_none q h)]; exact q
theorem keep_put {d : Addr} {H : Hp} (o : HO) : Keep d H (upd H d o) := fun b u n q => by rw [upd_ne n]; exact q
theorem rd_keep {d : Addr} {H H' : Hp} {a : Addr} {o : HO} (hd : IsDk H d) (k : Keep d H H') (ho : ∀ kvs, o ≠ .dK kvs) (r : Rd H a o) : Rd H' a o := by
  obtain ⟨kvs, hd⟩ := hd
  have ne : a ≠ d := by
    rintro rfl
    rcases r with r | ⟨ob, r⟩
    · rw [hd] at r; exact ho _ (Option.some.inj r).symm
    · rw [hd] at r; cases r
  rcases r with r | ⟨ob, r⟩
  · exact .inl (k _ _ ne r)
  · exact .inr ⟨ob, k _ _ ne r⟩
variable {K : PySem.W.Frag}
theorem seqL_keep {d : Addr} {H H' : Hp} {a : Addr} {xs : List V} (hd : IsDk H d) (k : Keep d H H') (r : SqL K H a xs) : SqL K H' a xs := by
  rcases r with r | r
  · exact .inl (rd_keep hd k (fun _ z => by cases z) r)
  · exact .inr r
theorem seqT_keep {d : Addr} {H H' : Hp} {a : Addr} {xs : List V} (hd : IsDk H d) (k : Keep d H H') (r : SqT K H a xs) : SqT K H' a xs := by
  rcases r with r | r
  · exact .inl (rd_keep hd k (fun _ z => by cases z) r)
  · exact .inr r
mutual
theorem dp_keep {d : Addr} {H H' : Hp} (hd : IsDk H d) (k : Keep d H H') : ∀ (D : PyData) (v : V), Dp K H v D → Dp K H' v D
  | .none, _, h => by cases h; exact .non
  | .bool b, _, h => by cases h; exact .bl b
  | .int i, _, h => by cases h; exact .int i
  | .str x, _, h => by cases h; exact .str x
  | .list ds, _, h => by cases h with | lst hs ha => exact .lst (seqL_keep hd k hs) (dpAll_keep hd k ds _ ha)
  | .tuple ds, _, h => by cases h with | tup hs ha => exact .tup (seqT_keep hd k hs) (dpAll_keep hd k ds _ ha)
  | .dict _, _, h => by cases h
theorem dpAll_keep {d : Addr} {H H' : Hp} (hd : IsDk H d) (k : Keep d H H') : ∀ (Ds : List PyData) (vs : List V), DpAll K H vs Ds → DpAll K H' vs Ds
  | [], _, h => by cases h; exact .nil
  | D :: Ds, _, h => by cases h with | cons h1 h2 => exact .cons (dp_keep hd k D _ h1) (dpAll_keep hd k Ds _ h2)
end
/-- .. the same where nothing is changed -/
theorem rd_same {H H' : Hp} {a : Addr} {o : HO} (k : Same H H') (r : Rd H a o) : Rd H' a o := by
  rcases r with r | ⟨ob, r⟩
  · exact .inl (k _ _ r)
  · exact .inr ⟨ob, k _ _ r⟩
theorem seqT_same {H H' : Hp} {a : Addr} {xs : List V} (k : Same H H') (r : SqT K H a xs) : SqT K H' a xs := by
  rcases r with r | r
  · exact .inl (rd_same k r)
  · exact .inr r
mutual
theorem dp_same {H H' : Hp} (k : Same H H') : ∀ (D : PyData) (v : V), Dp K H v D → Dp K H' v D
  | .none, _, h => by cases h; exact .non
  | .bool b, _, h => by cases h; exact .bl b
  | .int i, _, h => by cases h; exact .int i
  | .str x, _, h => by cases h; exact .str x
  | .list ds, _, h => by cases h with | lst hs ha => exact .lst (k.seq hs) (dpAll_same k ds _ ha)
  | .tuple ds, _, h => by cases h with | tup hs ha => exact .tup (seqT_same k hs) (dpAll_same k ds _ ha)
  | .dict _, _, h => by cases h
theorem dpAll_same {H H' : Hp} (k : Same H H') : ∀ (Ds : List PyData) (vs : List V), DpAll K H vs Ds → DpAll K H' vs Ds
  | [], _, h => by cases h; exact .nil
  | D :: Ds, _, h => by cases h with | cons h1 h2 => exact .cons (dp_same k D _ h1) (dpAll_same k Ds _ h2)
end

/-! ### what isinstance says of data -/
def tagOf : PyData → String
  | .none => "NoneType" | .bool _ => "bool" | .int _ => "int" | .str _ => "str" | .list _ => "list" | .tuple _ => "tuple" | .dict _ => "dict"
theorem tyx_of {H : Hp} {v : V} {D : PyData} (h : Dp K H v D) : TyX K H v (.type (tagOf D)) := by
  cases h with
  | non => exact .base .non
  | bl b => exact .base (.bl b)
  | int i => exact .base (.int i)
  | str x => exact .base (.str x)
  | lst hs _ =>
    rcases hs with (hs | ⟨o, hs⟩) | ⟨o, its, n, lk, c, _⟩
    · exact .base (.lst hs)
    · exact .base (.frz hs)
    · exact .kList lk c
  | tup hs _ =>
    rcases hs with (hs | ⟨o, hs⟩) | ⟨o, its, n, lk, c, _⟩
    · exact .base (.tup hs)
    · exact .fTuple hs
    · exact .kTuple lk c
def isStrD : PyData → Bool | .str _ => true | _ => false
def isTupD : PyData → Bool | .tuple _ => true | _ => false
def isBoolD : PyData → Bool | .bool _ => true | _ => false
theorem kit_str (D : PyData) : PySem.W.kitOne K (.type (tagOf D)) (.type "str") = some (isStrD D) := by
  cases D <;> (refine kit_ty ?_; simp only [tagOf, isStrD]; decide +kernel)
theorem kit_tuple (D : PyData) : PySem.W.kitOne K (.type (tagOf D)) (.type "tuple") = some (isTupD D) := by
  cases D <;> (refine kit_ty ?_; simp only [tagOf, isTupD]; decide +kernel)
theorem kit_bool (D : PyData) : PySem.W.kitOne K (.type (tagOf D)) (.type "bool") = some (isBoolD D) := by
  cases D <;> (refine kit_ty ?_; simp only [tagOf, isBoolD]; decide +kernel)
theorem kit_dict_str : PySem.W.kitOne K (.type "dict") (.type "str") = some false := kit_ty (by decide +kernel)
theorem kit_dict_tuple : PySem.W.kitOne K (.type "dict") (.type "tuple") = some false := kit_ty (by decide +kernel)

/-! ### a comprehension over a text -/
theorem lc_str {x : Str} {g : TG} {tt : TT} {te : TE} {vs : List Nat} {σ : St} {H1 : Hp} {D : Addr} {Qd : Hp → Prop} (Pv : Nat → Hp → Prop) (h0 : Pv 0 (upd H1 D (.lst [])))
    (hs : ∀ i c H, x.cps.toList[i]? = some c → Pv i H → g (.str ⟨#[c]⟩) (wipe σ vs) H fun σ2 H2 => wipe σ2 vs = wipe σ vs ∧ tt σ2 H2 fun b H3 =>
      if b = true then te σ2 H3 fun y H4 => ∃ acc, H4 D = some (.lst acc) ∧ acc.length < sizeLine ∧ Pv (i + 1) (upd H4 D (.lst (acc ++ [y]))) else Pv (i + 1) H3) (hd : ∀ H, Pv x.cps.toList.length H → Qd H) :
    ∃ W : Nat → Nat → Hp → Prop, (∃ m, W 0 m (upd H1 D (.lst []))) ∧ ∀ i m H, W i m H →
      ((Its x).stop i H ∧ Qd H) ∨ ((Its x).go i H ∧ ∃ Nx : Hp → Prop, (∀ H', Nx H' → ∃ m', m' < m ∧ W (i + 1) m' H') ∧ ∀ x_1 H', (Its x).yld i H x_1 H' → g x_1 (wipe σ vs) H' fun σ2 H2 => wipe σ2 vs = wipe σ vs ∧ tt σ2 H2 fun b H3 =>
        if b = true then te σ2 H3 fun y H4 => ∃ acc, H4 D = some (.lst acc) ∧ acc.length < sizeLine ∧ Nx (upd H4 D (.lst (acc ++ [y]))) else Nx H3) := by
  refine ⟨fun i m H => m = x.cps.size - i ∧ i ≤ x.cps.size ∧ Pv i H, ⟨x.cps.size, by simp, Nat.zero_le _, h0⟩, ?_⟩
  rintro i m H ⟨rfl, hi, p⟩
  by_cases hlt : i < x.cps.size
  · refine .inr ⟨hlt, Pv (i + 1), fun H' p' => ⟨x.cps.size - (i + 1), by omega, rfl, hlt, p'⟩, fun v H' y => ?_⟩
    obtain ⟨e, c, hc, ev⟩ := y
    subst e ev
    exact hs i c _ (by rw [Array.getElem?_toList]; exact hc) p
  · have e : i = x.cps.size := by omega
    subst e
    exact .inl ⟨Nat.le_refl _, hd H p⟩
theorem same_fresh {H H' : Hp} {D : Addr} {o : HO} (k : Same H H') (n : H D = none) : Same H (upd H' D o) := fun b u q => by rw [upd_ne (ne_of_none q n)]; exact k _ _ q
theorem keep_fresh {d : Addr} {H H' : Hp} {D : Addr} {o : HO} (k : Keep d H H') (n : H D = none) : Keep d H (upd H' D o) := fun b u nd q => by rw [upd_ne (ne_of_none q n)]; exact k _ _ nd q
theorem take_next {α : Type} {xs : List α} {i : Nat} {c : α} (h : xs[i]? = some c) : xs.take (i + 1) = xs.take i ++ [c] := by
  rw [List.take_add_one, h]
  rfl

/-! ### names and forms -/
def zLetters : Str := Str.ofString "abcdefghijklmnopqrstuvwxyz"
def zDigits : Str := Str.ofString "0123456789"
def isL (c : Nat) : Bool := decide (c ∈ zLetters.cps.toList)
def isLD (c : Nat) : Bool := isL c || decide (c ∈ zDigits.cps.toList)
def isName (z : Str) : Bool := decide (1 ≤ z.length ∧ z.length ≤ 12) && ((z.cps.toList.head?.any isL) && z.cps.toList.all isLD)
def isNameD : PyData → Bool | .str z => isName z | _ => false
theorem inV_str (x : Str) : ∀ zs : List Str, inV (.str x) (zs.map V.str) = decide (x ∈ zs)
  | [] => by simp [inV]
  | z :: zs => by
    have ih := inV_str x zs
    unfold inV at ih ⊢
    rw [List.map_cons, List.any_cons, ih]
    by_cases e : z = x
    · subst e
      simp [eqV]
    · have e' : ¬ x = z := fun q => e q.symm
      simp [eqV, e, e']
def leafW : List Str := [Str.ofString "good", Str.ofString "counter"]
def halfW : List Str := [Str.ofString "both", Str.ofString "between", Str.ofString "offered", Str.ofString "chosen"]
def isForm : Nat → PyData → Bool
  | _, .tuple [.str x, n] => decide (x ∈ leafW) && isNameD n
  | 0, _ => false
  | k + 1, .tuple [.str x, a, b] => decide (x ∈ halfW) && (isForm k a && isForm k b)
  | _ + 1, _ => false
theorem isForm_tup2 (k : Nat) (a n : PyData) : isForm k (.tuple [a, n]) = (match a with | .str x => decide (x ∈ leafW) && isNameD n | _ => false) := by
  cases k <;> cases a <;> rfl
theorem isForm_tup3_0 (a b c : PyData) : isForm 0 (.tuple [a, b, c]) = false := by cases a <;> rfl
theorem isForm_tup3 (k : Nat) (a b c : PyData) : isForm (k + 1) (.tuple [a, b, c]) = (match a with | .str x => decide (x ∈ halfW) && (isForm k b && isForm k c) | _ => false) := by
  cases a <;> rfl
theorem isForm_tup_len (k : Nat) (ds : List PyData) (h2 : ds.length ≠ 2) (h3 : ds.length ≠ 3) : isForm k (.tuple ds) = false := by
  match ds, h2, h3 with
  | [], _, _ => cases k <;> rfl
  | [a], _, _ => cases k <;> cases a <;> rfl
  | [a, b], h, _ => exact absurd rfl h
  | [a, b, c], _, h => exact absurd rfl h
  | a :: b :: c :: d :: r, _, _ => cases k <;> cases a <;> rfl
theorem isForm_not_tup (k : Nat) (D : PyData) (h : isTupD D = false) : isForm k D = false := by
  cases D with
  | tuple ds => cases h
  | _ => cases k <;> rfl
def okStr (z : Str) : Bool := decide (z.length ≤ 1000) && z.cps.toList.all fun c => decide (c < 128)
mutual
def shortD : PyData → Bool
  | .str z => okStr z
  | .list xs => shortAll xs
  | .tuple xs => shortAll xs
  | .dict _ => false
  | _ => true
def shortAll : List PyData → Bool
  | [] => true
  | d :: ds => shortD d && shortAll ds
end
theorem shortAll_cons {d : PyData} {ds : List PyData} (h : shortAll (d :: ds) = true) : shortD d = true ∧ shortAll ds = true := by
  unfold shortAll at h
  exact Bool.and_eq_true_iff.mp h
theorem short_str {D : PyData} (h : shortD D = true) : ∀ z, D = .str z → z.length ≤ 1000 := by
  rintro z rfl
  unfold shortD okStr at h
  exact of_decide_eq_true (Bool.and_eq_true_iff.mp h).1
theorem strOk_of {z : Str} (h : okStr z = true) : PyData.strOk z = true := by
  unfold okStr at h
  unfold PyData.strOk
  have h2 := (Bool.and_eq_true_iff.mp h).2
  rw [List.all_eq_true] at h2
  rw [Array.all_eq_true']
  intro c hc
  have := of_decide_eq_true (h2 c (Array.mem_toList_iff.mpr hc))
  exact decide_eq_true (by omega)
mutual
theorem canLay_of : ∀ D : PyData, shortD D = true → D.canLay0 = true
  | .none, _ => by simp only [PyData.canLay0]
  | .bool _, _ => by simp only [PyData.canLay0]
  | .int _, _ => by simp only [PyData.canLay0]
  | .str x, h => by
    unfold shortD at h
    simp only [PyData.canLay0]
    exact strOk_of h
  | .list xs, h => by
    unfold shortD at h
    simp only [PyData.canLay0]
    exact canLayAll_of xs h
  | .tuple xs, h => by
    unfold shortD at h
    simp only [PyData.canLay0]
    exact canLayAll_of xs h
  | .dict _, h => by cases h
theorem canLayAll_of : ∀ xs : List PyData, shortAll xs = true → PyData.canLayAll0 xs = true
  | [], _ => by simp only [PyData.canLayAll0]
  | x :: xs, h => by
    have h' := shortAll_cons h
    simp only [PyData.canLayAll0, canLay_of x h'.1, canLayAll_of xs h'.2, Bool.and_self]
end
theorem shaped_of {D : PyData} (h : shortD D = true) (d : D.depth ≤ 64) : SeqAt.shaped D = true := by
  unfold SeqAt.shaped
  rw [canLay_of D h, decide_eq_true d]
  rfl
theorem depth_in {d : PyData} {ds : List PyData} (h : d ∈ ds) : d.depth + 1 ≤ (PyData.tuple ds).depth := by
  have key : ∀ ds : List PyData, d ∈ ds → d.depth ≤ PyData.depthAll ds := by
    intro ds
    induction ds with
    | nil => intro h; cases h
    | cons x xs ih =>
      intro h
      simp only [PyData.depthAll]
      rcases List.mem_cons.mp h with rfl | h
      · exact Nat.le_max_left _ _
      · exact Nat.le_trans (ih h) (Nat.le_max_right _ _)
  simp only [PyData.depth]
  have := key ds h
  omega
def memD (d : PyData) (zs : List Str) : Bool := match d with | .str x => decide (x ∈ zs) | _ => false
theorem any_eqv (d : PyData) : ∀ zs : List Str, ((zs.map PyData.str).any fun z => PyData.eqv z d) = memD d zs
  | [] => by cases d <;> rfl
  | z :: zs => by
    rw [List.map_cons, List.any_cons, any_eqv d zs]
    cases d with
    | str x =>
      unfold memD PyData.eqv
      by_cases e : z = x
      · subst e; simp
      · have e' : ¬ x = z := fun q => e q.symm
        simp [e, e']
    | _ => simp [memD, PyData.eqv]
theorem dpAll_strs {H : Hp} : ∀ zs : List Str, DpAll K H (zs.map V.str) (zs.map PyData.str)
  | [] => .nil
  | z :: zs => .cons (.str z) (dpAll_strs zs)
theorem dpAll_len {H : Hp} : ∀ {xs : List V} {ds : List PyData}, DpAll K H xs ds → xs.length = ds.length
  | _, _, .nil => rfl
  | _, _, .cons _ t => congrArg (· + 1) (dpAll_len t)
theorem inV_23 (n : Nat) : inV (.int n) [.int 2, .int 3] = (decide (n = 2) || decide (n = 3)) := by
  unfold inV
  simp only [List.any_cons, List.any_nil, Bool.or_false]
  have h2 : eqV (.int 2) (.int (n : Int)) = decide (n = 2) := by
    by_cases e : n = 2
    · subst e; rfl
    · rw [decide_eq_false e]
      show (if _ then _ else _) = _ <;> simp [eqV] <;> omega
  have h3 : eqV (.int 3) (.int (n : Int)) = decide (n = 3) := by
    by_cases e : n = 3
    · subst e; rfl
    · rw [decide_eq_false e]
      simp [eqV]
      omega
  rw [h2, h3]
end My

set_option Elab.async false
set_option linter.all false
set_option maxRecDepth 100000
namespace My
open PySem L2

structure Txt (K : PySem.W.Frag) (mg : Str → Option Value) where
  isinstance : mg "isinstance" = none
  len : mg "len" = none
  all : mg "all" = none
  str : mg "str" = none
  tuple : mg "tuple" = none
  int : mg "int" = none
  list : mg "list" = none
  abs : mg "abs" = none
  max : mg "max" = none
  min : mg "min" = none
  range : mg "range" = none
  bool : mg "bool" = none
  LETTERS : ∃ u, mg "LETTERS" = some u ∧ RelV (.str zLetters) u
  DIGITS : ∃ u, mg "DIGITS" = some u ∧ RelV (.str zDigits) u
  LONGEST_NAME : ∃ u, mg "LONGEST_NAME" = some u ∧ RelV (.int 12) u
  DEEPEST : ∃ u, mg "DEEPEST" = some u ∧ RelV (.int 12) u
  aLeaf : Addr
  LEAF_WORDS : ∃ u, mg "LEAF_WORDS" = some u ∧ RelV (.ref aLeaf) u
  sLeaf : ∀ H, SqT K H aLeaf (leafW.map V.str)
  aHalf : Addr
  HALVED_WORDS : ∃ u, mg "HALVED_WORDS" = some u ∧ RelV (.ref aHalf) u
  sHalf : ∀ H, SqT K H aHalf (halfW.map V.str)

/-- what is said of a name -/
def spName (K : PySem.W.Frag) : Sp := fun vs H Q _ => ∃ v, vs = [v] ∧
  ((∃ D, Dp K H v D ∧ (∀ z, D = .str z → z.length ≤ 1000) ∧ ∀ H', Same H H' → Q (.bl (isNameD D)) H') ∨ ((∃ (a : Addr) (kvs : List (Key × V)), v = .ref a ∧ H a = some (.dK kvs)) ∧ ∀ H', Same H H' → Q (.bl false) H'))

abbrev sfits_name : Stmt := top 14
abbrev Nfits_name : List Str := ["value", "sign"]
abbrev Pfits_name : List Str := ["value"]
theorem scfits_name : FnScope Nfits_name Pfits_name (defScope sfits_name) := ⟨rfl, rfl, rfl, by decide +kernel, rfl, by decide +kernel, by decide +kernel⟩
section
variable {P : Program} {w : World} {K : PySem.W.Frag} {mg : Str → Option Value} {base : Heap} {f : Addr} {fd : FuncData}

theorem ok_fits_name (T : Txt K mg) (F : Fun K "fits_name" "fits_name" sfits_name f fd) : FnOk P w K mg base CX0 2 f fd Pfits_name (spName K) := by
  refine F.ok scfits_name (fun vs H Q E h => ?_) (fun cdv A outer s H vs Q E hr h => ?_)
  · obtain ⟨v, rfl, _⟩ := h
    rfl
  obtain ⟨v, rfl, h⟩ := h
  refine ⟨_, (pss_cons (ps_if (PW.pt (pw_or (pt_not (pt_val (pe_callB call_isi rfl T.isinstance (by decide +kernel) (pa_cons (pv 0) (pa_cons (pe_bltn (v := .ty "str") rfl T.str (by decide +kernel) rfl) pa_nil))))) (pw_or1 (pt_not (pt_chain op_le op_le pe_int (pe_callB call_len rfl T.len (by decide +kernel) (pa_cons (pv 0) pa_nil)) (pe_globE T.LONGEST_NAME))))))
    (pss_one (ps_ret pe_bl))
    pss_nil)
  (pss_one (ps_ret (pe_and (pe_cmpR op_in_sign (pe_ix ix_seq (pv 0) pe_int (fun _ _ => rfl)) (pe_globE T.LETTERS) rfl) (pe_one (pe_callB (cr_all rfl) rfl T.all (by decide +kernel) (pa_cons (pe_lc (own := [("sign", 1)]) (g := (gName 1)) rfl scfits_name.nd (pi_str (pv 0)) (blkOk_by (own := [("sign", 1)]) (N := Nfits_name) (sc := defScope sfits_name) (by decide +kernel)) (fun _ _ _ _ _ => (pg_name (i := 1) scfits_name.nd rfl (Or.inl rfl))) (fun _ _ _ _ _ => pts_nil) (fun _ _ _ _ _ => (pe_or (pe_cmpR op_in_sign (pv 1) (pe_globE T.LETTERS) rfl) (pe_one (pe_cmpR op_in_sign (pv 1) (pe_globE T.DIGITS) rfl))))) pa_nil))))))), ?_⟩
  rcases h with ⟨D, hv, hz, q⟩ | ⟨⟨a, kvs, rfl, ha⟩, q⟩
  · refine ⟨_, rfl, _, _, _, _, _, rfl, .ty "str", tyx_of hv, kit_str D, _, rfl, ?_⟩
    by_cases hs : isStrD D = true
    · cases D with
      | str z =>
        cases hv
        have hz' : z.length ≤ 1000 := hz z rfl
        have hz2 : z.length ≤ sizeLine := Nat.le_of_lt (small1000 hz')
        refine iteF ⟨_, rfl, _, _, rfl, ⟨hz2, rfl⟩, 1, _, rfl, rfl, _, rfl, ?_⟩
        refine ite2 (fun c1 => ?_) (fun c1 => ?_)
        · refine ⟨_, _, rfl, rfl, _, rfl, ?_⟩
          by_cases c2 : (z.length : Int) ≤ 12
          · rw [decide_eq_true c2]
            have c1' : (1 : Int) ≤ z.length := of_decide_eq_true c1
            refine iteF ?_
            obtain ⟨c, hc⟩ : ∃ c, z.cps.toList[0]? = some c := ⟨_, List.getElem?_eq_getElem (by rw [Array.length_toList]; show 0 < z.length; omega)⟩
            refine ⟨_, rfl, .inr (.inr ⟨z, 0, c, rfl, rfl, hz2, atI_nat hc, c, zLetters, rfl, rfl, _, rfl, ?_⟩)⟩
            have hh : z.cps.toList.head? = some c := by rw [List.head?_eq_getElem?]; exact hc
            have en : isNameD (.str z) = (isL c && z.cps.toList.all isLD) := by
              show isName z = _
              unfold isName
              rw [hh, decide_eq_true (by omega : 1 ≤ z.length ∧ z.length ≤ 12)]
              rfl
            rw [en] at q
            refine ite2 (fun c3 => ?_) (fun c3 => ?_)
            · have c3' : isL c = true := c3
              rw [c3'] at q
              refine ⟨_, rfl, z, rfl, fun D nD => lc_str (x := z) (fun i H' => Same H H' ∧ H' D = some (.lst (((z.cps.toList.take i).map isLD).map V.bl))) ⟨same_new nD _, upd_same⟩ (fun i c H' hc ⟨k, e⟩ => ?_) (fun H' ⟨k, e⟩ => ?_)⟩
              · refine ⟨rfl, _, rfl, c, zLetters, rfl, rfl, _, rfl, ?_⟩
                have fin : ∀ b : Bool, b = isLD c → ∃ acc, H' D = some (HO.lst acc) ∧ acc.length < sizeLine ∧ Same H (upd H' D (.lst (acc ++ [.bl b]))) ∧
                    upd H' D (.lst (acc ++ [.bl b])) D = some (HO.lst (((z.cps.toList.take (i + 1)).map isLD).map V.bl)) := fun b eb => by
                  refine ⟨_, e, small1000 ?_, same_fresh k nD, ?_⟩
                  · rw [List.length_map, List.length_map, List.length_take]
                    have : z.cps.toList.length = z.length := Array.length_toList
                    omega
                  · rw [upd_same, take_next hc, List.map_append, List.map_append, eb]
                    rfl
                refine ite2 (fun c4 => ?_) (fun c4 => ?_)
                · refine fin true ?_
                  have : isL c = true := c4
                  unfold isLD
                  rw [this]
                  rfl
                · refine ⟨_, rfl, c, zDigits, rfl, rfl, ?_⟩
                  have : isL c = false := Bool.eq_false_iff.mpr c4
                  refine fin _ ?_
                  unfold isLD
                  rw [this]
                  rfl
              · rw [List.take_length] at e
                have g := q H' k
                refine ⟨D, z.cps.toList.map isLD, rfl, SqL.of e, ?_⟩
                have e2 : (z.cps.toList.map isLD).all id = z.cps.toList.all isLD := by rw [List.all_map]; rfl
                rw [e2]
                exact g
            · have c3' : isL c = false := Bool.eq_false_iff.mpr c3
              rw [c3'] at q
              exact q H (Same.refl H)
          · rw [decide_eq_false c2]
            refine iteT ?_
            have en : isNameD (.str z) = false := by
              show isName z = _
              unfold isName
              rw [decide_eq_false (by omega)]
              rfl
            rw [en] at q
            exact q H (Same.refl H)
        · have c1' : ¬ (1 : Int) ≤ z.length := fun c => c1 (decide_eq_true c)
          refine ⟨_, rfl, iteT ?_⟩
          have en : isNameD (.str z) = false := by
            show isName z = _
            unfold isName
            rw [decide_eq_false (by omega)]
            rfl
          rw [en] at q
          exact q H (Same.refl H)
      | _ => cases hs
    · have e : isNameD D = false := by cases D <;> first | rfl | exact absurd rfl hs
      rw [Bool.not_eq_true] at hs
      rw [hs]
      refine iteT (iteT ?_)
      have q' := q H (Same.refl H)
      rw [e] at q'
      exact q'
  · exact ⟨_, rfl, _, _, _, _, _, rfl, .ty "str", .base (.dK ha), kit_dict_str, _, rfl, iteT (iteT (q H (Same.refl H)))⟩
end
end My

set_option Elab.async false
set_option linter.all false
set_option maxRecDepth 100000
namespace My
open PySem L2
abbrev sfits_form : Stmt := top 15
abbrev Nfits_form : List Str := ["value", "room"]
abbrev Pfits_form : List Str := ["value", "room"]
theorem scfits_form : FnScope Nfits_form Pfits_form (defScope sfits_form) := ⟨rfl, rfl, rfl, by decide +kernel, rfl, by decide +kernel, by decide +kernel⟩

def spForm (K : PySem.W.Frag) (n : Nat) : Sp := fun vs H Q _ => ∃ (v : V) (k : Nat), vs = [v, .int k] ∧ k < n ∧
  ((∃ D, Dp K H v D ∧ shortD D = true ∧ ∀ H', Same H H' → Q (.bl (isForm k D)) H') ∨ ((∃ (a : Addr) (kvs : List (Key × V)), v = .ref a ∧ H a = some (.dK kvs)) ∧ ∀ H', Same H H' → Q (.bl false) H'))
section
variable {P : Program} {w : World} {K : PySem.W.Frag} {mg : Str → Option Value} {base : Heap} {f : Addr} {fd : FuncData}

theorem ok_fits_form {n : Nat} (T : Txt K mg) (F : Fun K "fits_form" "fits_form" sfits_form f fd) (Cfits_name : Cal P w K mg base "fits_name" 2 ["value"] (spName K)) (Cfits_form : Cal P w K mg base "fits_form" (2 + n) ["value", "room"] (spForm K n)) :
    FnOk P w K mg base CX0 (2 + n + 1) f fd Pfits_form (spForm K (n + 1)) := by
  refine F.ok scfits_form (fun vs H Q E h => ?_) (fun cdv A outer s H vs Q E hr h => ?_)
  · obtain ⟨v, k, rfl, _⟩ := h
    rfl
  obtain ⟨v, k, rfl, hk, h⟩ := h
  refine ⟨_, (pss_cons (ps_if (PW.pt (pw_or (pt_not (pt_val (pe_callB call_isi rfl T.isinstance (by decide +kernel) (pa_cons (pv 0) (pa_cons (pe_bltn (v := .ty "tuple") rfl T.tuple (by decide +kernel) rfl) pa_nil))))) (pw_or (pt_cmpR op_notIn_seq (pe_callB call_len rfl T.len (by decide +kernel) (pa_cons (pv 0) pa_nil)) (pe_tup (pa_cons pe_int (pa_cons pe_int pa_nil))) rfl) (pw_or1 (pt_not (pt_val (pe_callB call_isi rfl T.isinstance (by decide +kernel) (pa_cons (pe_ix ix_tup (pv 0) pe_int (fun _ _ => rfl)) (pa_cons (pe_bltn (v := .ty "str") rfl T.str (by decide +kernel) rfl) pa_nil)))))))))
    (pss_one (ps_ret pe_bl))
    pss_nil)
  (pss_cons (ps_if (pt_cmpR op_eq (pe_callB call_len rfl T.len (by decide +kernel) (pa_cons (pv 0) pa_nil)) pe_int (nomark _))
    (pss_one (ps_ret (pe_and (pe_cmpR op_in_seq (pe_ix ix_tup (pv 0) pe_int (fun _ _ => rfl)) (pe_globE T.LEAF_WORDS) rfl) (pe_one (pe_callC Cfits_name hr (pa_cons (pe_ix ix_tup (pv 0) pe_int (fun _ _ => rfl)) pa_nil))))))
    pss_nil)
  (pss_cons (ps_if (PW.pt (pw_or (pt_cmpR op_notIn_seq (pe_ix ix_tup (pv 0) pe_int (fun _ _ => rfl)) (pe_globE T.HALVED_WORDS) rfl) (pw_or1 (pt_cmpR op_eq (pv 1) pe_int (nomark _)))))
    (pss_one (ps_ret pe_bl))
    pss_nil)
  (pss_one (ps_ret (pe_and (pe_callC Cfits_form hr (pa_cons (pe_ix ix_tup (pv 0) pe_int (fun _ _ => rfl)) (pa_cons (pe_op op_sub (pv 1) pe_int) pa_nil))) (pe_one (pe_callC Cfits_form hr (pa_cons (pe_ix ix_tup (pv 0) pe_int (fun _ _ => rfl)) (pa_cons (pe_op op_sub (pv 1) pe_int) pa_nil)))))))))), ?_⟩
  rcases h with ⟨D, hv, hz, q⟩ | ⟨⟨a, kvs, rfl, ha⟩, q⟩
  · refine ⟨_, rfl, _, _, _, _, _, rfl, .ty "tuple", tyx_of hv, kit_tuple D, _, rfl, ?_⟩
    by_cases hs : isTupD D = true
    · cases D with
      | tuple ds =>
        cases hv with
        | @tup a xs _ hT hA =>
        have hl := dpAll_len hA
        refine iteF ⟨_, rfl, _, _, rfl, .inr ⟨xs, hT, rfl⟩, by show 2 ≤ sizeLine; decide, fun p np => ?_⟩
        have S1 : Same H (upd H p (.tup [.int 2, .int 3])) := same_new np _
        refine ⟨p, _, rfl, .inr (SqT.of upd_same), rfl, rfl, _, rfl, ?_⟩
        show (if (!inV (.int (xs.length : Nat)) [.int 2, .int 3]) = true then _ else _)
        rw [inV_23]
        match ds, xs, hA, hl with
        | [], [], hA, _ =>
          rw [isForm_tup_len _ _ (by simp) (by simp)] at q
          exact iteT (iteT (q _ S1))
        | [d], [x], hA, _ =>
          rw [isForm_tup_len _ _ (by simp) (by simp)] at q
          exact iteT (iteT (q _ S1))
        | [d, e], [x, y], hA, _ =>
          cases hA with | cons hx hA => cases hA with | cons hy _ =>
          have hzx := shortAll_cons (show shortAll [d, e] = true from by unfold shortD at hz; exact hz)
          have hzy := (shortAll_cons hzx.2).1
          refine ⟨_, rfl, a, _, _, x, rfl, rfl, seqT_same S1 hT, rfl, _, _, _, _, _, rfl, .ty "str", tyx_of (dp_same S1 _ _ hx), kit_str d, _, rfl, ?_⟩
          rw [isForm_tup2] at q
          by_cases hd : isStrD d = true
          · cases d with
            | str z =>
              cases hx
              refine iteF ⟨_, rfl, _, _, rfl, .inr ⟨_, seqT_same S1 hT, rfl⟩, rfl, _, rfl, ?_⟩
              refine iteT ⟨_, rfl, a, _, _, _, rfl, rfl, seqT_same S1 hT, rfl, T.aLeaf, _, rfl, .inr (T.sLeaf _), rfl, rfl, _, rfl, ?_⟩
              show (if inV (.str z) (leafW.map V.str) = true then _ else _)
              rw [inV_str]
              by_cases hm : z ∈ leafW
              · rw [decide_eq_true hm]
                refine iteT ⟨_, rfl, a, _, _, y, rfl, rfl, seqT_same S1 hT, rfl, y, rfl, .inl ⟨e, dp_same S1 _ _ hy, short_str hzy, fun H' S2 => ?_⟩⟩
                have g := q H' (S1.trans S2)
                simp only [decide_eq_true hm, Bool.true_and] at g
                exact g
              · rw [decide_eq_false hm]
                have g := q _ S1
                simp only [decide_eq_false hm, Bool.false_and] at g
                exact iteF g
            | _ => cases hd
          · rw [Bool.not_eq_true] at hd
            rw [hd]
            have g := q _ S1
            have g2 : Q (.bl false) (upd H p (.tup [.int 2, .int 3])) := by
              cases d <;> first | exact g | cases hd
            exact g2
        | [d, e, g], [x, y, z], hA, _ =>
          cases hA with | cons hx hA => cases hA with | cons hy hA => cases hA with | cons hw _ =>
          have hzx := shortAll_cons (show shortAll [d, e, g] = true from by unfold shortD at hz; exact hz)
          have hzy := shortAll_cons hzx.2
          have hzw := (shortAll_cons hzy.2).1
          refine ⟨_, rfl, a, _, _, x, rfl, rfl, seqT_same S1 hT, rfl, _, _, _, _, _, rfl, .ty "str", tyx_of (dp_same S1 _ _ hx), kit_str d, _, rfl, ?_⟩
          by_cases hd : isStrD d = true
          · cases d with
            | str t =>
              cases hx
              refine iteF ⟨_, rfl, _, _, rfl, .inr ⟨_, seqT_same S1 hT, rfl⟩, rfl, _, rfl, ?_⟩
              refine iteF ⟨_, rfl, a, _, _, _, rfl, rfl, seqT_same S1 hT, rfl, T.aHalf, _, rfl, .inr (T.sHalf _), rfl, rfl, _, rfl, ?_⟩
              show (if (!inV (.str t) (halfW.map V.str)) = true then _ else _)
              rw [inV_str]
              cases k with
              | zero =>
                rw [isForm_tup3_0] at q
                by_cases hm : t ∈ halfW
                · rw [decide_eq_true hm]
                  exact iteF ⟨_, rfl, rfl, _, rfl, iteT (q _ S1)⟩
                · rw [decide_eq_false hm]
                  exact iteT (iteT (q _ S1))
              | succ k =>
                rw [isForm_tup3] at q
                by_cases hm : t ∈ halfW
                · rw [decide_eq_true hm]
                  refine iteF ⟨_, rfl, rfl, _, rfl, ?_⟩
                  have ek : ¬ V.int ((k + 1 : Nat) : Int) = V.int 0 := fun z => by
                    have := V.int.inj z
                    omega
                  rw [decide_eq_false ek]
                  have e1 : ((k + 1 : Nat) : Int) - 1 = (k : Int) := by omega
                  refine iteF ⟨_, rfl, a, _, _, y, rfl, rfl, seqT_same S1 hT, rfl, _, rfl, _, _, rfl, rfl, ?_⟩
                  refine ⟨y, k, congrArg (fun i => [y, V.int i]) e1, by omega, .inl ⟨e, dp_same S1 _ _ hy, hzy.1, fun H2 S2 => ?_⟩⟩
                  have S3 := S1.trans S2
                  refine ⟨_, rfl, ?_⟩
                  by_cases hb : isForm k e = true
                  · rw [hb]
                    refine iteT ⟨_, rfl, a, _, _, z, rfl, rfl, seqT_same S3 hT, rfl, _, rfl, _, _, rfl, rfl, ?_⟩
                    refine ⟨z, k, congrArg (fun i => [z, V.int i]) e1, by omega, .inl ⟨g, dp_same S3 _ _ hw, hzw, fun H4 S4 => ?_⟩⟩
                    have g := q H4 (S3.trans S4)
                    simp only [decide_eq_true hm, Bool.true_and, hb] at g
                    exact g
                  · rw [Bool.not_eq_true] at hb
                    rw [hb]
                    have g := q H2 S3
                    simp only [hb, Bool.false_and, Bool.and_false] at g
                    exact iteF g
                · rw [decide_eq_false hm]
                  have g := q _ S1
                  simp only [decide_eq_false hm, Bool.false_and] at g
                  exact iteT (iteT g)
            | _ => cases hd
          · rw [Bool.not_eq_true] at hd
            rw [hd]
            have g := q _ S1
            have g2 : Q (.bl false) (upd H p (.tup [.int 2, .int 3])) := by
              cases k with
              | zero => rw [isForm_tup3_0] at g; exact g
              | succ k => rw [isForm_tup3] at g; cases d <;> first | exact g | cases hd
            exact g2
        | d :: e :: g :: i :: ds, x, hA, hl =>
          have e2 : x.length ≠ 2 := by rw [hl]; simp
          have e3 : x.length ≠ 3 := by rw [hl]; simp
          rw [decide_eq_false e2, decide_eq_false e3]
          have g := q _ S1
          rw [isForm_tup_len _ _ (by simp) (by simp)] at g
          exact iteT (iteT g)
      | _ => cases hs
    · rw [Bool.not_eq_true] at hs
      rw [hs]
      have q' := q H (Same.refl H)
      rw [isForm_not_tup k D hs] at q'
      exact iteT (iteT q')
  · exact ⟨_, rfl, _, _, _, _, _, rfl, .ty "tuple", .base (.dK ha), kit_dict_tuple, _, rfl, iteT (iteT (q H (Same.refl H)))⟩
end
end My

set_option Elab.async false
set_option linter.all false
set_option maxRecDepth 100000
namespace My
open PySem L2
abbrev s_law_is_name : Stmt := top 49
abbrev N_law_is_name : List Str := ["_law_value", "_law_sign"]
abbrev P_law_is_name : List Str := ["_law_value"]
theorem sc_law_is_name : FnScope N_law_is_name P_law_is_name (defScope s_law_is_name) := ⟨rfl, rfl, rfl, by decide +kernel, rfl, by decide +kernel, by decide +kernel⟩
abbrev s_law_is_form : Stmt := top 50
abbrev N_law_is_form : List Str := ["_law_value", "_law_tall"]
abbrev P_law_is_form : List Str := ["_law_value", "_law_tall"]
theorem sc_law_is_form : FnScope N_law_is_form P_law_is_form (defScope s_law_is_form) := ⟨rfl, rfl, rfl, by decide +kernel, rfl, by decide +kernel, by decide +kernel⟩
abbrev Nis_name : List Str := ["value"]
abbrev Pis_name : List Str := ["value"]
abbrev Nis_form : List Str := ["value"]
abbrev Pis_form : List Str := ["value"]
abbrev N_law_says : List Str := ["_law_told", "_law_due"]
abbrev P_law_says : List Str := ["_law_told", "_law_due"]
def zBoth : Str := Str.ofString "abcdefghijklmnopqrstuvwxyz0123456789"
theorem isLD_both (c : Nat) : decide (c ∈ zBoth.cps.toList) = isLD c := by
  have e : zBoth.cps.toList = zLetters.cps.toList ++ zDigits.cps.toList := by decide +kernel
  unfold isLD isL
  rw [e, ← Bool.decide_or]
  exact decide_eq_decide.mpr List.mem_append
theorem head_some {z : Str} (h : 1 ≤ z.length) : ∃ c, z.cps.toList[0]? = some c := ⟨_, List.getElem?_eq_getElem (by rw [Array.length_toList]; show 0 < z.length; omega)⟩
theorem isName_eq {z : Str} {c : Nat} (h1 : 1 ≤ z.length) (h2 : z.length ≤ 12) (hc : z.cps.toList[0]? = some c) : isName z = (isL c && z.cps.toList.all isLD) := by
  have hh : z.cps.toList.head? = some c := by rw [List.head?_eq_getElem?]; exact hc
  unfold isName
  rw [hh, decide_eq_true ⟨h1, h2⟩]
  rfl
theorem isName_out {z : Str} (h : ¬ (1 ≤ z.length ∧ z.length ≤ 12)) : isName z = false := by
  unfold isName
  rw [decide_eq_false h]
  rfl
theorem isForm_m2 (k : Nat) (a n : PyData) : isForm k (.tuple [a, n]) = (memD a leafW && isNameD n) := by rw [isForm_tup2]; cases a <;> rfl
theorem isForm_m3 (k : Nat) (a b c : PyData) : isForm (k + 1) (.tuple [a, b, c]) = (memD a halfW && (isForm k b && isForm k c)) := by rw [isForm_tup3]; cases a <;> rfl
/-- what is said of a form, all of which may be compared -/
def spFormL (K : PySem.W.Frag) (n : Nat) : Sp := fun vs H Q _ => ∃ (v : V) (k : Nat) (D : PyData), vs = [v, .int k] ∧ k < n ∧ Dp K H v D ∧ shortD D = true ∧ D.depth ≤ 60 ∧ ∀ H', Same H H' → Q (.bl (isForm k D)) H'
def spIsForm (K : PySem.W.Frag) : Sp := fun vs H Q _ => ∃ (v : V), vs = [v] ∧
  ((∃ D, Dp K H v D ∧ shortD D = true ∧ ∀ H', Same H H' → Q (.bl (isForm 12 D)) H') ∨ ((∃ (a : Addr) (kvs : List (Key × V)), v = .ref a ∧ H a = some (.dK kvs)) ∧ ∀ H', Same H H' → Q (.bl false) H'))
def spSays : Sp := fun vs H Q _ => ∃ a b : Bool, vs = [.bl a, .bl b] ∧ Q (.bl (a == b)) H
section
variable {P : Program} {w : World} {K : PySem.W.Frag} {mg : Str → Option Value} {base : Heap} {f : Addr} {fd : FuncData}
theorem ok_law_is_name (T : Txt K mg) (F : Fun K "_law_is_name" "_law_is_name" s_law_is_name f fd) : FnOk P w K mg base CX0 2 f fd P_law_is_name (spName K) := by
  refine F.ok sc_law_is_name (fun vs H Q E h => ?_) (fun cdv A outer s H vs Q E hr h => ?_)
  · obtain ⟨v, rfl, _⟩ := h
    rfl
  obtain ⟨v, rfl, h⟩ := h
  refine ⟨_, (pss_cons (ps_if (PW.pt (pw_or (pt_not (pt_val (pe_callB call_isi rfl T.isinstance (by decide +kernel) (pa_cons (pv 0) (pa_cons (pe_bltn (v := .ty "str") rfl T.str (by decide +kernel) rfl) pa_nil))))) (pw_or (pt_not (pt_chain op_le op_le pe_int (pe_callB call_len rfl T.len (by decide +kernel) (pa_cons (pv 0) pa_nil)) pe_int)) (pw_or1 (pt_cmpR op_notIn_sign (pe_ix ix_str (pv 0) pe_int (fun _ _ => rfl)) pe_str rfl)))))
    (pss_one (ps_ret pe_bl))
    pss_nil)
  (pss_one (ps_ret (pe_callB (cr_all rfl) rfl T.all (by decide +kernel) (pa_cons (pe_lc (own := [("_law_sign", 1)]) (g := (gName 1)) rfl sc_law_is_name.nd (pi_str (pv 0)) (blkOk_by (own := [("_law_sign", 1)]) (N := N_law_is_name) (sc := defScope s_law_is_name) (by decide +kernel)) (fun _ _ _ _ _ => (pg_name (i := 1) sc_law_is_name.nd rfl (Or.inl rfl))) (fun _ _ _ _ _ => pts_nil) (fun _ _ _ _ _ => (pe_cmpR op_in_sign (pv 1) pe_str rfl))) pa_nil))))), ?_⟩
  rcases h with ⟨D, hv, hz, q⟩ | ⟨⟨a, kvs, rfl, ha⟩, q⟩
  · refine ⟨_, rfl, _, _, _, _, _, rfl, .ty "str", tyx_of hv, kit_str D, _, rfl, ?_⟩
    by_cases hs : isStrD D = true
    · cases D with
      | str z =>
        cases hv
        have hz' : z.length ≤ 1000 := hz z rfl
        have hz2 : z.length ≤ sizeLine := Nat.le_of_lt (small1000 hz')
        refine iteF ⟨_, rfl, _, _, rfl, ⟨hz2, rfl⟩, 1, _, rfl, rfl, _, rfl, ?_⟩
        refine ite2 (fun c1 => ?_) (fun c1 => ?_)
        · refine ⟨_, _, rfl, rfl, _, rfl, ?_⟩
          by_cases c2 : (z.length : Int) ≤ 12
          · rw [decide_eq_true c2]
            have c1' : (1 : Int) ≤ z.length := of_decide_eq_true c1
            obtain ⟨c, hc⟩ := head_some (z := z) (by omega)
            have en : isNameD (.str z) = (isL c && z.cps.toList.all isLD) := isName_eq (by omega) (by omega) hc
            rw [en] at q
            refine iteF ⟨_, rfl, z, 0, c, rfl, rfl, hz2, atI_nat hc, c, zLetters, rfl, rfl, _, rfl, ?_⟩
            show (if (!isL c) = true then _ else _)
            by_cases c3 : isL c = true
            · rw [c3] at q ⊢
              refine iteF ?_
              refine ⟨_, rfl, z, rfl, fun D nD => lc_str (x := z) (fun i H' => Same H H' ∧ H' D = some (.lst (((z.cps.toList.take i).map isLD).map V.bl))) ⟨same_new nD _, upd_same⟩ (fun i c H' hc ⟨k, e⟩ => ?_) (fun H' ⟨k, e⟩ => ?_)⟩
              · refine ⟨rfl, _, rfl, c, zBoth, rfl, rfl, ?_⟩
                refine ⟨_, e, small1000 ?_, same_fresh k nD, ?_⟩
                · rw [List.length_map, List.length_map, List.length_take]
                  have : z.cps.toList.length = z.length := Array.length_toList
                  omega
                · rw [upd_same, take_next hc, List.map_append, List.map_append, isLD_both]
                  rfl
              · rw [List.take_length] at e
                have g := q H' k
                refine ⟨D, z.cps.toList.map isLD, rfl, SqL.of e, ?_⟩
                have e2 : (z.cps.toList.map isLD).all id = z.cps.toList.all isLD := by rw [List.all_map]; rfl
                rw [e2]
                exact g
            · rw [Bool.not_eq_true] at c3
              rw [c3] at q ⊢
              exact iteT (q H (Same.refl H))
          · rw [decide_eq_false c2]
            rw [show isNameD (.str z) = false from isName_out (by omega)] at q
            exact q H (Same.refl H)
        · have c1' : ¬ (1 : Int) ≤ z.length := fun c => c1 (decide_eq_true c)
          rw [show isNameD (.str z) = false from isName_out (by omega)] at q
          exact ⟨_, rfl, q H (Same.refl H)⟩
      | _ => cases hs
    · have e : isNameD D = false := by cases D <;> first | rfl | exact absurd rfl hs
      rw [Bool.not_eq_true] at hs
      rw [hs]
      have q' := q H (Same.refl H)
      rw [e] at q'
      exact q'
  · exact ⟨_, rfl, _, _, _, _, _, rfl, .ty "str", .base (.dK ha), kit_dict_str, _, rfl, q H (Same.refl H)⟩
theorem ok_law_is_form {n : Nat} (T : Txt K mg) (F : Fun K "_law_is_form" "_law_is_form" s_law_is_form f fd) (C_law_is_name : Cal P w K mg base "_law_is_name" 2 ["_law_value"] (spName K)) (C_law_is_form : Cal P w K mg base "_law_is_form" (2 + n) ["_law_value", "_law_tall"] (spFormL K n)) :
    FnOk P w K mg base CX0 (2 + n + 1) f fd P_law_is_form (spFormL K (n + 1)) := by
  refine F.ok sc_law_is_form (fun vs H Q E h => ?_) (fun cdv A outer s H vs Q E hr h => ?_)
  · obtain ⟨v, k, D, rfl, _⟩ := h
    rfl
  obtain ⟨v, k, D, rfl, hk, hv, hz, hd0, q⟩ := h
  have hu : A.units + 65 + 3 < cLine := by
    have := hr.un
    have e : (A.deeper (PyProof.Rows.envOfC (Str.ofString "_law_is_form") (defScope s_law_is_form) s.heap.objs.size f cdv)).units = A.units + 3 := rfl
    omega
  refine ⟨_, (pss_cons (ps_if (PW.pt (pw_or (pt_not (pt_val (pe_callB call_isi rfl T.isinstance (by decide +kernel) (pa_cons (pv 0) (pa_cons (pe_bltn (v := .ty "tuple") rfl T.tuple (by decide +kernel) rfl) pa_nil))))) (pw_or1 (pt_cmpR op_notIn_seq (pe_callB call_len rfl T.len (by decide +kernel) (pa_cons (pv 0) pa_nil)) (pe_lst (pa_cons pe_int (pa_cons pe_int pa_nil))) rfl))))
    (pss_one (ps_ret pe_bl))
    pss_nil)
  (pss_cons (ps_if (pt_cmpR op_eq (pe_callB call_len rfl T.len (by decide +kernel) (pa_cons (pv 0) pa_nil)) pe_int (nomark _))
    (pss_one (ps_ret (pe_and (pe_cmpR (op_inD (by show A.units + 3 + 65 < cLine; omega)) (pe_ix ix_tup (pv 0) pe_int (fun _ _ => rfl)) (pe_lst (pa_cons pe_str (pa_cons pe_str pa_nil))) rfl) (pe_one (pe_callC C_law_is_name hr (pa_cons (pe_ix ix_tup (pv 0) pe_int (fun _ _ => rfl)) pa_nil))))))
    pss_nil)
  (pss_cons (ps_if (PW.pt (pw_or (pt_cmpR op_eq (pv 1) pe_int (nomark _)) (pw_or1 (pt_cmpR (op_notInD (by show A.units + 3 + 65 < cLine; omega)) (pe_ix ix_tup (pv 0) pe_int (fun _ _ => rfl)) (pe_lst (pa_cons pe_str (pa_cons pe_str (pa_cons pe_str (pa_cons pe_str pa_nil))))) rfl))))
    (pss_one (ps_ret pe_bl))
    pss_nil)
  (pss_one (ps_ret (pe_and (pe_callC C_law_is_form hr (pa_cons (pe_ix ix_tup (pv 0) pe_int (fun _ _ => rfl)) (pa_cons (pe_op op_sub (pv 1) pe_int) pa_nil))) (pe_one (pe_callC C_law_is_form hr (pa_cons (pe_ix ix_tup (pv 0) pe_int (fun _ _ => rfl)) (pa_cons (pe_op op_sub (pv 1) pe_int) pa_nil)))))))))), ?_⟩
  refine ⟨_, rfl, _, _, _, _, _, rfl, .ty "tuple", tyx_of hv, kit_tuple D, _, rfl, ?_⟩
  by_cases hs : isTupD D = true
  · cases D with
    | tuple ds =>
      cases hv with
      | @tup a xs _ hT hA =>
      have hl := dpAll_len hA
      refine iteF ⟨_, rfl, _, _, rfl, .inr ⟨xs, hT, rfl⟩, by show 2 ≤ sizeLine; decide, fun p np => ?_⟩
      have S1 : Same H (upd H p (.lst [.int 2, .int 3])) := same_new np _
      refine ⟨p, _, rfl, .inl (SqL.of upd_same), rfl, rfl, _, rfl, ?_⟩
      show (if (!inV (.int (xs.length : Nat)) [.int 2, .int 3]) = true then _ else _)
      rw [inV_23]
      match ds, xs, hA, hl with
      | [], [], hA, _ =>
        rw [isForm_tup_len _ _ (by simp) (by simp)] at q
        exact iteT (q _ S1)
      | [d], [x], hA, _ =>
        rw [isForm_tup_len _ _ (by simp) (by simp)] at q
        exact iteT (q _ S1)
      | d :: e :: g :: i :: ds, x, hA, hl =>
        have e2 : x.length ≠ 2 := by rw [hl]; simp
        have e3 : x.length ≠ 3 := by rw [hl]; simp
        rw [decide_eq_false e2, decide_eq_false e3]
        have g := q _ S1
        rw [isForm_tup_len _ _ (by simp) (by simp)] at g
        exact iteT g
      | [d, e], [x, y], hA, _ =>
        cases hA with | cons hx hA => cases hA with | cons hy _ =>
        have hzx := shortAll_cons (show shortAll [d, e] = true from by unfold shortD at hz; exact hz)
        have hzy := (shortAll_cons hzx.2).1
        have dx := depth_in (d := d) (ds := [d, e]) (by simp)
        refine iteF ⟨_, rfl, _, _, rfl, .inr ⟨_, seqT_same S1 hT, rfl⟩, rfl, _, rfl, ?_⟩
        refine iteT ⟨_, rfl, a, _, _, x, rfl, rfl, seqT_same S1 hT, rfl, by show 2 ≤ sizeLine; decide, fun p2 np2 => ?_⟩
        have S2 := S1.trans (same_new np2 (.lst [.str (Str.ofString "good"), .str (Str.ofString "counter")]))
        refine ⟨d, leafW.map PyData.str, dp_same S2 _ _ hx, .lst (SqL.of upd_same) (dpAll_strs leafW), shaped_of hzx.1 (by omega), by decide +kernel, _, rfl, ?_⟩
        rw [any_eqv]
        rw [isForm_m2] at q
        by_cases hm : memD d leafW = true
        · rw [hm] at q ⊢
          exact iteT ⟨_, rfl, a, _, _, y, rfl, rfl, seqT_same S2 hT, rfl, y, rfl, .inl ⟨e, dp_same S2 _ _ hy, short_str hzy, fun H' S3 => q H' (S2.trans S3)⟩⟩
        · rw [Bool.not_eq_true] at hm
          rw [hm] at q ⊢
          exact iteF (q _ S2)
      | [d, e, g], [x, y, z], hA, _ =>
        cases hA with | cons hx hA => cases hA with | cons hy hA => cases hA with | cons hw _ =>
        have hzx := shortAll_cons (show shortAll [d, e, g] = true from by unfold shortD at hz; exact hz)
        have hzy := shortAll_cons hzx.2
        have hzw := (shortAll_cons hzy.2).1
        have dx := depth_in (d := d) (ds := [d, e, g]) (by simp)
        have dy := depth_in (d := e) (ds := [d, e, g]) (by simp)
        have dw := depth_in (d := g) (ds := [d, e, g]) (by simp)
        refine iteF ⟨_, rfl, _, _, rfl, .inr ⟨_, seqT_same S1 hT, rfl⟩, rfl, _, rfl, ?_⟩
        cases k with
        | zero =>
          rw [isForm_tup3_0] at q
          exact iteF ⟨_, rfl, rfl, _, rfl, iteT (q _ S1)⟩
        | succ k =>
          have ek : ¬ V.int ((k + 1 : Nat) : Int) = V.int 0 := fun z => by
            have := V.int.inj z
            omega
          have e1 : ((k + 1 : Nat) : Int) - 1 = (k : Int) := by omega
          refine iteF ⟨_, rfl, rfl, _, rfl, ?_⟩
          rw [decide_eq_false ek]
          refine iteF ⟨_, rfl, a, _, _, x, rfl, rfl, seqT_same S1 hT, rfl, by show 4 ≤ sizeLine; decide, fun p2 np2 => ?_⟩
          have S2 := S1.trans (same_new np2 (.lst [.str (Str.ofString "both"), .str (Str.ofString "between"), .str (Str.ofString "offered"), .str (Str.ofString "chosen")]))
          refine ⟨d, halfW.map PyData.str, dp_same S2 _ _ hx, .lst (SqL.of upd_same) (dpAll_strs halfW), shaped_of hzx.1 (by omega), by decide +kernel, _, rfl, ?_⟩
          rw [any_eqv]
          rw [isForm_m3] at q
          by_cases hm : memD d halfW = true
          · rw [hm] at q ⊢
            refine iteF ⟨_, rfl, a, _, _, y, rfl, rfl, seqT_same S2 hT, rfl, _, rfl, _, _, rfl, rfl, ?_⟩
            refine ⟨y, k, e, congrArg (fun i => [y, V.int i]) e1, by omega, dp_same S2 _ _ hy, hzy.1, by omega, fun H3 S3' => ?_⟩
            have S3 := S2.trans S3'
            refine ⟨_, rfl, ?_⟩
            by_cases hb : isForm k e = true
            · rw [hb] at q ⊢
              refine iteT ⟨_, rfl, a, _, _, z, rfl, rfl, seqT_same S3 hT, rfl, _, rfl, _, _, rfl, rfl, ?_⟩
              exact ⟨z, k, g, congrArg (fun i => [z, V.int i]) e1, by omega, dp_same S3 _ _ hw, hzw, by omega, fun H4 S4 => q H4 (S3.trans S4)⟩
            · rw [Bool.not_eq_true] at hb
              rw [hb] at q ⊢
              exact iteF (q _ S3)
          · rw [Bool.not_eq_true] at hm
            rw [hm] at q ⊢
            exact iteT (q _ S2)
    | _ => cases hs
  · rw [Bool.not_eq_true] at hs
    rw [hs]
    have q' := q H (Same.refl H)
    rw [isForm_not_tup k D hs] at q'
    exact q'
end
end My

set_option Elab.async false
set_option linter.all false
set_option maxRecDepth 100000
namespace My
open PySem L2
/-! ### the source of draws -/
def penK (L : Addr) (b l : Int) : List (Key × V) := [(.inr (Str.ofString "cells"), .ref L), (.inr (Str.ofString "begun"), .int b), (.inr (Str.ofString "left"), .int l)]
structure Pen (K : PySem.W.Frag) (H : Hp) (d L : Addr) (ns : List Int) (n : Nat) : Prop where
  ex : ∃ b l : Int, H d = some (.dK (penK L b l)) ∧ 0 ≤ b ∧ b ≤ n
  cells : SqL K H L (ns.map V.int)
  few : ns.length ≤ 63
section
variable {K : PySem.W.Frag} {H H' : Hp} {d L : Addr} {ns : List Int} {n m : Nat}
theorem Pen.isDk (p : Pen K H d L ns n) : IsDk H d := by
  obtain ⟨b, l, h, _⟩ := p.ex
  exact ⟨_, h⟩
theorem Pen.same (p : Pen K H d L ns n) (k : Same H H') : Pen K H' d L ns n := by
  obtain ⟨b, l, h, h0⟩ := p.ex
  exact ⟨⟨b, l, k _ _ h, h0⟩, k.seq p.cells, p.few⟩
theorem Pen.mono (p : Pen K H d L ns n) (h : n ≤ m) : Pen K H d L ns m := by
  obtain ⟨b, l, e, h0, h1⟩ := p.ex
  exact ⟨⟨b, l, e, h0, by omega⟩, p.cells, p.few⟩
/-- .. behind a change elsewhere: D is new since H -/
theorem Pen.fresh {D : Addr} {o : HO} {H0 : Hp} (p : Pen K H d L ns n) (k : Keep d H0 H) (c0 : SqL K H0 L (ns.map V.int)) (hd : IsDk H0 d) (nD : H0 D = none) : Pen K (upd H D o) d L ns n := by
  obtain ⟨b, l, h, h0⟩ := p.ex
  have ne : d ≠ D := by
    obtain ⟨kvs, e⟩ := hd
    exact ne_of_none e nD
  exact ⟨⟨b, l, by rw [upd_ne ne]; exact h, h0⟩, seqL_keep hd (keep_fresh k nD) c0, p.few⟩
theorem Pen.put {b l : Int} (p : Pen K H d L ns n) (h0 : 0 ≤ b) (h1 : b ≤ m) : Pen K (upd H d (.dK (penK L b l))) d L ns m :=
  ⟨⟨b, l, upd_same, h0, h1⟩, seqL_keep p.isDk (keep_put _) p.cells, p.few⟩
theorem get_cells {b l : Int} (h : H d = some (.dK (penK L b l))) : DGet H d (.str (Str.ofString "cells")) (some (.ref L)) := DGet.k (k := .inr (Str.ofString "cells")) h
theorem get_begun {b l : Int} (h : H d = some (.dK (penK L b l))) : DGet H d (.str (Str.ofString "begun")) (some (.int b)) := DGet.k (k := .inr (Str.ofString "begun")) h
theorem get_left {b l : Int} (h : H d = some (.dK (penK L b l))) : DGet H d (.str (Str.ofString "left")) (some (.int l)) := DGet.k (k := .inr (Str.ofString "left")) h
theorem put_begun {b l b' : Int} (h : H d = some (.dK (penK L b l))) : DPut H d (.str (Str.ofString "begun")) (.int b') (upd H d (.dK (penK L b' l))) := DPut.k (k := .inr (Str.ofString "begun")) h (by show 3 < sizeLine; decide)
theorem put_left {b l l' : Int} (h : H d = some (.dK (penK L b l))) : DPut H d (.str (Str.ofString "left")) (.int l') (upd H d (.dK (penK L b l'))) := DPut.k (k := .inr (Str.ofString "left")) h (by show 3 < sizeLine; decide)
theorem dpAll_ints : ∀ ns : List Int, DpAll K H (ns.map V.int) (ns.map PyData.int)
  | [] => .nil
  | n :: ns => .cons (.int n) (dpAll_ints ns)
theorem shaped_ints (ns : List Int) : SeqAt.shaped (.list (ns.map PyData.int)) = true := by
  have h1 : ∀ ns : List Int, PyData.canLayAll0 (ns.map PyData.int) = true := by
    intro ns
    induction ns with
    | nil => simp only [List.map_nil, PyData.canLayAll0]
    | cons n ns ih => simp only [List.map_cons, PyData.canLayAll0, PyData.canLay0, ih, Bool.and_self]
  have h2 : ∀ ns : List Int, PyData.depthAll (ns.map PyData.int) = 0 := by
    intro ns
    induction ns with
    | nil => simp only [List.map_nil, PyData.depthAll]
    | cons n ns ih => simp only [List.map_cons, PyData.depthAll, PyData.depth, ih, Nat.max_self]
  unfold SeqAt.shaped
  simp only [PyData.canLay0, PyData.depth, h1, h2]
  decide
theorem eqv_nil (ns : List Int) : PyData.eqv (.list (ns.map PyData.int)) (.list []) = ns.isEmpty := by
  cases ns <;> simp [PyData.eqv, PyData.eqvAll]
end
abbrev s_law_begin : Stmt := top 38
abbrev N_law_begin : List Str := ["_law_script"]
abbrev P_law_begin : List Str := ["_law_script"]
theorem sc_law_begin : FnScope N_law_begin P_law_begin (defScope s_law_begin) := ⟨rfl, rfl, rfl, by decide +kernel, rfl, by decide +kernel, by decide +kernel⟩
abbrev s_law_draw : Stmt := top 39
abbrev N_law_draw : List Str := ["_law_pen", "_law_span", "_law_digit", "_law_at", "_law_cell", "_law_n"]
abbrev P_law_draw : List Str := ["_law_pen", "_law_span"]
theorem sc_law_draw : FnScope N_law_draw P_law_draw (defScope s_law_draw) := ⟨rfl, rfl, rfl, by decide +kernel, rfl, by decide +kernel, by decide +kernel⟩
abbrev s_law_pick : Stmt := top 40
abbrev N_law_pick : List Str := ["_law_pen", "_law_some"]
abbrev P_law_pick : List Str := ["_law_pen", "_law_some"]
theorem sc_law_pick : FnScope N_law_pick P_law_pick (defScope s_law_pick) := ⟨rfl, rfl, rfl, by decide +kernel, rfl, by decide +kernel, by decide +kernel⟩
def spBegin (K : PySem.W.Frag) : Sp := fun vs H Q _ => ∃ (a : Addr) (ns : List Int), vs = [.ref a] ∧ SqL K H a (ns.map V.int) ∧ ns.length ≤ 63 ∧ ∀ d L H', Same H H' → Pen K H' d L ns 0 → Q (.ref d) H'
def spDraw (K : PySem.W.Frag) : Sp := fun vs H Q _ => ∃ (d L : Addr) (ns : List Int) (n : Nat) (m : Int), vs = [.ref d, .int m] ∧ Pen K H d L ns n ∧ n < 2 ^ 40 ∧ 0 < m ∧ m ≤ 2 ^ 20 ∧
  ∀ (r : Int) H', 0 ≤ r → r < m → Keep d H H' → Pen K H' d L ns (n + 1) → Q (.int r) H'
def spPick (K : PySem.W.Frag) : Sp := fun vs H Q _ => ∃ (d L : Addr) (ns : List Int) (n : Nat) (v : V), vs = [.ref d, v] ∧ Pen K H d L ns n ∧ n < 2 ^ 40 ∧
  ((∃ (a : Addr) (xs : List V), v = .ref a ∧ SqL K H a xs ∧ xs ≠ [] ∧ xs.length ≤ 1000 ∧ ∀ x H', x ∈ xs → Keep d H H' → Pen K H' d L ns (n + 1) → Q x H') ∨
   (∃ z : Str, v = .str z ∧ 1 ≤ z.length ∧ z.length ≤ 1000 ∧ ∀ c H', c ∈ z.cps.toList → Keep d H H' → Pen K H' d L ns (n + 1) → Q (.str ⟨#[c]⟩) H'))
section
variable {P : Program} {w : World} {K : PySem.W.Frag} {mg : Str → Option Value} {base : Heap} {f : Addr} {fd : FuncData}
theorem ok_law_begin (T : Txt K mg) (F : Fun K "_law_begin" "_law_begin" s_law_begin f fd) : FnOk P w K mg base CX0 1 f fd P_law_begin (spBegin K) := by
  refine F.ok sc_law_begin (fun vs H Q E h => ?_) (fun cdv A outer s H vs Q E hr h => ?_)
  · obtain ⟨a, ns, rfl, _⟩ := h
    rfl
  obtain ⟨a, ns, rfl, hS, h63, q⟩ := h
  refine ⟨_, (pss_one (ps_ret (pe_disp (pps_cons pe_str (pe_callTy call_list_of rfl T.list (by decide +kernel) (pa_cons (pe_slice sl_list (pv 0) po_none (po_some pe_int)) pa_nil)) (pps_cons pe_str pe_int (pps_cons pe_str pe_int pps_nil))) (by rfl) (by rfl) (fun z => by cases z) (by decide)))), ?_⟩
  refine fun d nd => ⟨_, rfl, _, rfl, a, _, rfl, (same_new nd _).seq hS, fun p1 n1 => ⟨p1, _, rfl, .inl (SqL.of upd_same), fun p2 n2 => ⟨?_, penK p2 0 0, rfl, by show 3 ≤ 15; decide, ?_⟩⟩⟩
  · have e1 : upd (upd H d (.dK [])) p1 (.lst (cutV (ns.map V.int) none (some 63))) d = some (.dK []) := same_new n1 _ _ _ upd_same
    exact same_new n2 _ _ _ e1
  · have e1 : upd (upd H d (.dK [])) p1 (.lst (cutV (ns.map V.int) none (some 63))) d = some (.dK []) := same_new n1 _ _ _ upd_same
    have ne : p2 ≠ d := fun z => (ne_of_none e1 n2) z.symm
    have c : cutV (ns.map V.int) none (some 63) = ns.map V.int := by
      have el : (ns.map V.int).length = ns.length := List.length_map _
      show (ns.map V.int).take (min 63 (ns.map V.int).length - 0) = _
      rw [Nat.min_eq_right (by omega), Nat.sub_zero, List.take_length]
    refine q d p2 _ ?_ ⟨⟨0, 0, upd_same, by omega, by omega⟩, ?_, h63⟩
    · exact fun b o hb => by
        have nb : b ≠ d := ne_of_none hb nd
        rw [upd_ne nb]
        exact same_new n2 _ _ _ (same_new n1 _ _ _ (same_new nd _ _ _ hb))
    · refine SqL.of ?_
      rw [upd_ne ne, upd_same, c]
theorem ok_law_draw (T : Txt K mg) (F : Fun K "_law_draw" "_law_draw" s_law_draw f fd) : FnOk P w K mg base CX0 1 f fd P_law_draw (spDraw K) := by
  refine F.ok sc_law_draw (fun vs H Q E h => ?_) (fun cdv A outer s H vs Q E hr h => ?_)
  · obtain ⟨d, L, ns, n, m, rfl, _⟩ := h
    rfl
  obtain ⟨d, L, ns, n, m, rfl, p, hn, hm, hm2, q⟩ := h
  refine ⟨_, (pss_cons (ps_if (pt_cmpR op_gt (pe_dget (hu_of hr) (pv 0) pe_str (fun _ _ => rfl)) pe_int (nomark _))
    (pss_cons (ps_set (i := 2) sc_law_draw.nd rfl (Or.inl rfl) (pe_op op_mod (pe_callTy call_int1 rfl T.int (by decide +kernel) (pa_cons (pe_dget (hu_of hr) (pv 0) pe_str (fun _ _ => rfl)) pa_nil)) (pv 1)))
    (pss_cons (ps_dput (hu_of hr) (pv 0) pe_str (pe_op op_fdivW (pe_dget (hu_of hr) (pv 0) pe_str (fun _ _ => rfl)) (pv 1)) rfl)
    (pss_one (ps_ret (pv 2)))))
    pss_nil)
  (pss_cons (ps_set (i := 3) sc_law_draw.nd rfl (Or.inl rfl) (pe_dget (hu_of hr) (pv 0) pe_str (fun _ _ => rfl)))
  (pss_cons (ps_dput (hu_of hr) (pv 0) pe_str (pe_op op_add (pv 3) pe_int) rfl)
  (pss_cons (ps_set (i := 4) sc_law_draw.nd rfl (Or.inl rfl) (pe_op op_add (pe_op op_mul pe_int (pv 3)) pe_int))
  (pss_cons (ps_if (pt_cmpR (op_neD hr.units) (pe_dget (hu_of hr) (pv 0) pe_str (fun _ _ => rfl)) (pe_lst pa_nil) (nomark _))
    (pss_one (ps_set (i := 4) sc_law_draw.nd rfl (Or.inl rfl) (pe_ix ix_list (pe_dget (hu_of hr) (pv 0) pe_str (fun _ _ => rfl)) (pe_op op_mod (pe_callTy call_int1 rfl T.int (by decide +kernel) (pa_cons (pv 3) pa_nil)) (pe_callB call_len rfl T.len (by decide +kernel) (pa_cons (pe_dget (hu_of hr) (pv 0) pe_str (fun _ _ => rfl)) pa_nil))) (fun _ _ => rfl))))
    pss_nil)
  (pss_cons (ps_if (PW.pt (pw_and (pt_cmpR op_lt (pv 3) (pe_callB call_len rfl T.len (by decide +kernel) (pa_cons (pe_dget (hu_of hr) (pv 0) pe_str (fun _ _ => rfl)) pa_nil)) (nomark _)) (pw_and1 (pt_cmpR op_ge (pe_callB call_abs rfl T.abs (by decide +kernel) (pa_cons (pv 4) pa_nil)) (pe_op op_pow pe_int pe_int) (nomark _)))))
    (pss_cons (ps_dput (hu_of hr) (pv 0) pe_str (pe_op op_fdivW (pe_op op_sub (pe_callB call_abs rfl T.abs (by decide +kernel) (pa_cons (pv 4) pa_nil)) (pe_op op_pow pe_int pe_int)) (pv 1)) rfl)
    (pss_one (ps_ret (pe_op op_mod (pe_callTy call_int1 rfl T.int (by decide +kernel) (pa_cons (pe_op op_sub (pe_callB call_abs rfl T.abs (by decide +kernel) (pa_cons (pv 4) pa_nil)) (pe_op op_pow pe_int pe_int)) pa_nil)) (pv 1)))))
    pss_nil)
  (pss_cons (ps_set (i := 5) sc_law_draw.nd rfl (Or.inl rfl) (pe_op op_add (pe_op op_mul (pe_op op_mod (pe_callTy call_int1 rfl T.int (by decide +kernel) (pa_cons (pv 4) pa_nil)) pe_int) pe_int) (pe_op op_mul (pe_op op_mul pe_int (pv 3)) (pv 3))))
  (pss_cons (ps_set (i := 5) sc_law_draw.nd rfl (Or.inl rfl) (pe_op op_mod (pe_callTy call_int1 rfl T.int (by decide +kernel) (pa_cons (pe_op op_add (pe_op op_add (pv 5) (pe_op op_mul pe_int (pv 3))) pe_int) pa_nil)) pe_int))
  (pss_cons (ps_set (i := 5) sc_law_draw.nd rfl (Or.inl rfl) (pe_op op_mod (pe_callTy call_int1 rfl T.int (by decide +kernel) (pa_cons (pe_op op_add (pe_op op_add (pe_op op_add (pe_op op_mul (pv 5) (pv 5)) (pe_op op_mul pe_int (pv 5))) (pe_op op_mul pe_int (pv 3))) pe_int) pa_nil)) pe_int))
  (pss_cons (ps_set (i := 5) sc_law_draw.nd rfl (Or.inl rfl) (pe_op op_mod (pe_callTy call_int1 rfl T.int (by decide +kernel) (pa_cons (pe_op op_add (pe_op op_add (pe_op op_mul (pv 5) (pv 5)) (pe_op op_mul pe_int (pv 5))) (pv 3)) pa_nil)) pe_int))
  (pss_one (ps_ret (pe_op op_mod (pe_callTy call_int1 rfl T.int (by decide +kernel) (pa_cons (pe_op op_fdivW (pe_op op_mod (pe_callTy call_int1 rfl T.int (by decide +kernel) (pa_cons (pe_op op_mul (pv 5) (pe_op op_add (pv 5) pe_int)) pa_nil)) pe_int) pe_int) pa_nil)) (pv 1)))))))))))))), ?_⟩
  obtain ⟨b, l, hd, hb0, hbn⟩ := p.ex
  have hb : -(2 ^ 64) < b ∧ b < 2 ^ 64 := by omega
  have hdiv : L2.CDivW 0 m := wide_div hm (b := 21) (by omega) (by decide) (by decide)
  have kd : IsDk H d := p.isDk
  refine ⟨_, rfl, d, _, rfl, get_left hd, _, _, rfl, rfl, _, rfl, ?_⟩
  refine ite2 (fun c => ?_) (fun c => ?_)
  · refine ⟨_, rfl, d, _, rfl, get_left hd, .inl ⟨_, rfl, _, rfl, _, _, rfl, rfl, hm, ?_⟩⟩
    refine ⟨_, rfl, d, _, rfl, get_left hd, _, rfl, _, _, rfl, rfl, hdiv, _, rfl, d, _, rfl, put_left hd, _, rfl, ?_⟩
    exact q _ _ (Int.emod_nonneg _ (by omega)) (Int.emod_lt_of_pos _ hm) (keep_put _) (p.put hb0 (by omega))
  · refine ⟨_, rfl, d, _, rfl, get_begun hd, ?_⟩
    refine ⟨_, rfl, _, _, rfl, rfl, _, rfl, d, _, rfl, put_begun hd, ?_⟩
    have h1 : upd H d (.dK (penK L (b + 1) l)) d = some (.dK (penK L (b + 1) l)) := upd_same
    have p1 : Pen K (upd H d (.dK (penK L (b + 1) l))) d L ns (n + 1) := p.put (by omega) (by omega)
    have k1 : Keep d H (upd H d (.dK (penK L (b + 1) l))) := keep_put _
    generalize upd H d (.dK (penK L (b + 1) l)) = H1 at h1 p1 k1 ⊢
    refine ⟨_, rfl, _, _, rfl, rfl, .inl ⟨by decide, by decide⟩, _, _, rfl, rfl, ?_⟩
    refine ⟨_, rfl, d, _, rfl, get_cells h1, by show 0 ≤ sizeLine; decide, fun p0 np0 => ⟨.list (ns.map PyData.int), .list [], .lst ((same_new np0 _).seq p1.cells) (dpAll_ints ns), .lst (SqL.of upd_same) .nil, shaped_ints ns, by decide, _, rfl, ?_⟩⟩
    have h2 := same_new np0 (.lst []) _ _ h1
    have p2 := p1.same (same_new np0 (.lst []))
    have k2 : Keep d H (upd H1 p0 (.lst [])) := k1.trans (Same.toKeep (same_new np0 (.lst [])))
    generalize upd H1 p0 (.lst []) = H2 at h2 p2 k2 ⊢
    rw [eqv_nil]
    have hlen : ∀ x, (ns.map V.int).length = x → ns.length = x := fun x e => by rw [List.length_map] at e; exact e
    generalize hcv : (101 * b + 47 : Int) = c0
    refine ite2 (fun c1 => ?a) (fun c1 => ?b)
    case' a =>
      have hne : 0 < ns.length := by
        cases ns with
        | nil => cases c1
        | cons _ _ => exact Nat.succ_pos _
      have hpos : (0 : Int) < ((ns.map V.int).length : Nat) := by rw [List.length_map]; omega
      have hlt : (b % ((ns.map V.int).length : Nat)).toNat < ns.length := by
        have h3 := Int.emod_nonneg b (b := (((ns.map V.int).length : Nat) : Int)) (by omega)
        have h4 := Int.emod_lt_of_pos b hpos
        rw [List.length_map] at *
        omega
      have hat : atI (ns.map V.int) (b % ((ns.map V.int).length : Nat)) = some (V.int ns[(b % ((ns.map V.int).length : Nat)).toNat]) := by
        have h3 := Int.emod_nonneg b (b := (((ns.map V.int).length : Nat) : Int)) (by omega)
        have e := Int.toNat_of_nonneg h3
        have g := atI_nat (xs := ns.map V.int) (j := (b % ((ns.map V.int).length : Nat)).toNat) (v := V.int ns[(b % ((ns.map V.int).length : Nat)).toNat]) (by rw [List.getElem?_map, List.getElem?_eq_getElem hlt]; rfl)
        rw [e] at g
        exact g
      generalize ns[(b % ((ns.map V.int).length : Nat)).toNat] = c2 at hat
      refine ⟨_, rfl, d, _, rfl, get_cells h2, _, rfl, .inl ⟨_, rfl, _, rfl, d, _, rfl, get_cells h2, _, _, rfl, .inl ⟨_, p2.cells, rfl⟩, _, _, rfl, rfl, hpos, L, _, _, _, rfl, rfl, p2.cells, hat, ?_⟩⟩
    all_goals
      refine ⟨_, rfl, _, rfl, d, _, rfl, get_cells h2, _, _, rfl, .inl ⟨_, p2.cells, rfl⟩, _, _, rfl, rfl, _, rfl, ?_⟩
      refine ite2 (fun c4 => ?_) (fun c4 => ?_)
      refine ⟨_, rfl, _, rfl, _, _, rfl, rfl, ⟨by decide, by decide, by decide⟩, _, _, rfl, rfl, _, rfl, ?_⟩
      refine ite2 (fun c5 => ?_) (fun c5 => ?_)
      refine ⟨_, rfl, _, rfl, _, _, rfl, rfl, ⟨by decide, by decide, by decide⟩, _, _, rfl, rfl, _, rfl, _, _, rfl, rfl, hdiv, _, rfl, d, _, rfl, put_left h2, ?_⟩
      refine ⟨_, rfl, _, rfl, _, _, rfl, rfl, ⟨by decide, by decide, by decide⟩, _, _, rfl, rfl, .inl ⟨_, rfl, _, rfl, _, _, rfl, rfl, hm, ?_⟩⟩
      exact q _ _ (Int.emod_nonneg _ (by omega)) (Int.emod_lt_of_pos _ hm) (k2.trans (keep_put _)) (p2.put (by omega) (by omega))
      all_goals
        refine ⟨_, rfl, .inl ⟨_, rfl, _, _, rfl, rfl, (by show (0 : Int) < 2147483423; decide), _, _, rfl, rfl, .inr ⟨by decide, by decide⟩, _, rfl, _, _, rfl, rfl, .inl ⟨by decide, by decide⟩, _, rfl, _, _, rfl, rfl, .inr hb, _, _, rfl, rfl, ?_⟩⟩
        refine ⟨_, rfl, _, rfl, _, _, rfl, rfl, .inl ⟨by decide, by decide⟩, _, _, rfl, rfl, _, _, rfl, rfl, .inl ⟨_, rfl, _, _, rfl, rfl, (by show (0 : Int) < 2147483399; decide), ?_⟩⟩
        refine ⟨_, rfl, _, rfl, _, _, rfl, rfl, .inl ⟨by omega, by omega⟩, _, rfl, _, _, rfl, rfl, .inl ⟨by decide, by decide⟩, _, _, rfl, rfl, _, rfl, _, _, rfl, rfl, .inl ⟨by decide, by decide⟩, _, _, rfl, rfl, _, _, rfl, rfl, .inl ⟨_, rfl, _, _, rfl, rfl, (by show (0 : Int) < 2147483353; decide), ?_⟩⟩
        refine ⟨_, rfl, _, rfl, _, _, rfl, rfl, .inl ⟨by omega, by omega⟩, _, rfl, _, _, rfl, rfl, .inl ⟨by decide, by decide⟩, _, _, rfl, rfl, _, rfl, _, _, rfl, rfl, .inl ⟨_, rfl, _, _, rfl, rfl, (by show (0 : Int) < 2147483323; decide), ?_⟩⟩
        refine ⟨_, rfl, _, rfl, _, _, rfl, rfl, _, _, rfl, rfl, .inl ⟨by omega, by omega⟩, .inl ⟨_, rfl, _, _, rfl, rfl, (by show (0 : Int) < 2147483269; decide), _, _, rfl, rfl, ⟨by decide, by decide⟩, .inl ⟨_, rfl, _, rfl, _, _, rfl, rfl, hm, ?_⟩⟩⟩
        exact q _ _ (Int.emod_nonneg _ (by omega)) (Int.emod_lt_of_pos _ hm) k2 p2
end
end My

set_option Elab.async false
set_option linter.all false
set_option maxRecDepth 100000
namespace My
open PySem L2 SX
theorem atI_int {α : Type} {xs : List α} {r : Int} (h0 : 0 ≤ r) (h1 : r < (xs.length : Int)) : ∃ x, atI xs r = some x ∧ x ∈ xs := by
  have h : r.toNat < xs.length := by omega
  refine ⟨xs[r.toNat], ?_, List.getElem_mem h⟩
  have e := atI_nat (xs := xs) (j := r.toNat) (v := xs[r.toNat]) (List.getElem?_eq_getElem h)
  rw [Int.toNat_of_nonneg h0] at e
  exact e
theorem joinL_signs : ∀ cs : List Nat, TL.joinL [] (cs.map fun c => [c]) = cs
  | [] => rfl
  | [c] => rfl
  | c :: e :: r => by
    have ih := joinL_signs (e :: r)
    simp only [List.map_cons] at ih ⊢
    unfold TL.joinL
    rw [ih]
    rfl
theorem join_signs (cs : List Nat) : Txt.join (Str.ofString "") (cs.map fun c => (⟨#[c]⟩ : Str)) = S cs := by
  have e := join_S [] (cs.map fun c => [c])
  rw [joinL_signs, List.map_map] at e
  exact e
theorem sum_signs : ∀ cs : List Nat, ((cs.map fun c => (⟨#[c]⟩ : Str)).map (·.length)).sum = cs.length
  | [] => rfl
  | c :: cs => by
    have ih := sum_signs cs
    rw [List.map_cons, List.map_cons, List.sum_cons, ih, List.length_cons]
    show 1 + cs.length = cs.length + 1
    omega
theorem isName_cs {c : Nat} {cs : List Nat} (h : isL c = true) (hs : ∀ x ∈ cs, isLD x = true) (hl : cs.length ≤ 11) : isName (S (c :: cs)) = true := by
  have e := isName_eq (z := S (c :: cs)) (c := c) (by rw [S_len]; exact Nat.succ_pos _) (by rw [S_len, List.length_cons]; omega) rfl
  rw [e, h]
  show (true && (c :: cs).all isLD) = true
  rw [Bool.true_and, List.all_eq_true]
  intro x hx
  rcases List.mem_cons.mp hx with rfl | hx
  · unfold isLD
    rw [h]
    rfl
  · exact hs x hx
theorem isLD_asc {c : Nat} (h : isLD c = true) : c < 128 := by
  rw [← isLD_both] at h
  have h2 := of_decide_eq_true h
  have e : ∀ x ∈ zBoth.cps.toList, x < 128 := by decide +kernel
  exact e c h2
theorem okStr_of_name {z : Str} (h : isName z = true) : okStr z = true := by
  have h12 : 1 ≤ z.length ∧ z.length ≤ 12 := by
    by_cases c : 1 ≤ z.length ∧ z.length ≤ 12
    · exact c
    · rw [isName_out c] at h
      cases h
  obtain ⟨c, hc⟩ := head_some h12.1
  rw [isName_eq h12.1 h12.2 hc] at h
  have h2 := (Bool.and_eq_true_iff.mp h).2
  rw [List.all_eq_true] at h2
  unfold okStr
  rw [decide_eq_true (by omega), Bool.true_and, List.all_eq_true]
  intro x hx
  exact decide_eq_true (isLD_asc (h2 x hx))
theorem name_len {z : Str} (h : isName z = true) : 1 ≤ z.length ∧ z.length ≤ 12 := by
  by_cases c : 1 ≤ z.length ∧ z.length ≤ 12
  · exact c
  · rw [isName_out c] at h
    cases h
abbrev s_law_name : Stmt := top 46
abbrev N_law_name : List Str := ["_law_pen", "_law_letters", "_law_many", "_law_rest", "_law_k"]
abbrev P_law_name : List Str := ["_law_pen"]
theorem sc_law_name : FnScope N_law_name P_law_name (defScope s_law_name) := ⟨rfl, rfl, rfl, by decide +kernel, rfl, by decide +kernel, by decide +kernel⟩
abbrev s_law_names : Stmt := top 47
abbrev N_law_names : List Str := ["_law_pen", "_law_most", "_law_k"]
abbrev P_law_names : List Str := ["_law_pen", "_law_most"]
theorem sc_law_names : FnScope N_law_names P_law_names (defScope s_law_names) := ⟨rfl, rfl, rfl, by decide +kernel, rfl, by decide +kernel, by decide +kernel⟩
def spNameOf (K : PySem.W.Frag) : Sp := fun vs H Q _ => ∃ (d L : Addr) (ns : List Int) (n : Nat), vs = [.ref d] ∧ Pen K H d L ns n ∧ n < 2 ^ 39 ∧
  ∀ z H', isName z = true → Keep d H H' → Pen K H' d L ns (n + 13) → Q (.str z) H'
def spNames (K : PySem.W.Frag) : Sp := fun vs H Q _ => ∃ (d L : Addr) (ns : List Int) (n m : Nat), vs = [.ref d, .int m] ∧ Pen K H d L ns n ∧ n < 2 ^ 38 ∧ 0 < m ∧ m ≤ 100 ∧
  ∀ a zs H', (∀ z ∈ zs, isName z = true) → zs ≠ [] → zs.length ≤ 100 → SqL K H' a (zs.map V.str) → Keep d H H' → Pen K H' d L ns (n + 1 + 13 * m) → Q (.ref a) H'
section
variable {P : Program} {w : World} {K : PySem.W.Frag} {mg : Str → Option Value} {base : Heap} {f : Addr} {fd : FuncData}
theorem ok_law_pick (T : Txt K mg) (F : Fun K "_law_pick" "_law_pick" s_law_pick f fd) (C_law_draw : Cal P w K mg base "_law_draw" 1 ["_law_pen", "_law_span"] (spDraw K)) : FnOk P w K mg base CX0 2 f fd P_law_pick (spPick K) := by
  refine F.ok sc_law_pick (fun vs H Q E h => ?_) (fun cdv A outer s H vs Q E hr h => ?_)
  · obtain ⟨d, L, ns, n, v, rfl, _⟩ := h
    rfl
  obtain ⟨d, L, ns, n, v, rfl, p, hn, h⟩ := h
  refine ⟨_, (pss_one (ps_ret (pe_ix ix_seq (pv 1) (pe_callC C_law_draw hr (pa_cons (pv 0) (pa_cons (pe_callB call_len rfl T.len (by decide +kernel) (pa_cons (pv 1) pa_nil)) pa_nil))) (fun _ _ => rfl)))), ?_⟩
  rcases h with ⟨a, xs, rfl, hS, hne, hl, q⟩ | ⟨z, rfl, h1, h2, q⟩
  · have hpos : 0 < xs.length := by
      cases xs with
      | nil => exact absurd rfl hne
      | cons _ _ => exact Nat.succ_pos _
    refine ⟨_, rfl, _, rfl, _, rfl, _, _, rfl, .inl ⟨xs, hS, rfl⟩, d, L, ns, n, (xs.length : Int), rfl, p, hn, by omega, by omega, fun r H' r0 r1 k p' => ?_⟩
    obtain ⟨x, hx, hm⟩ := atI_int (xs := xs) r0 r1
    exact .inl ⟨a, xs, r, x, rfl, rfl, seqL_keep p.isDk k hS, hx, q x H' hm k p'⟩
  · have hz : z.length ≤ sizeLine := Nat.le_of_lt (small1000 h2)
    refine ⟨_, rfl, _, rfl, _, rfl, _, _, rfl, ⟨hz, rfl⟩, d, L, ns, n, (z.length : Int), rfl, p, hn, by omega, by omega, fun r H' r0 r1 k p' => ?_⟩
    have el : z.cps.toList.length = z.length := Array.length_toList
    obtain ⟨x, hx, hm⟩ := atI_int (xs := z.cps.toList) (r := r) r0 (by rw [el]; exact r1)
    exact .inr (.inr ⟨z, r, x, rfl, rfl, hz, hx, q x H' hm k p'⟩)
theorem ok_law_name (T : Txt K mg) (F : Fun K "_law_name" "_law_name" s_law_name f fd) (C_law_pick : Cal P w K mg base "_law_pick" 2 ["_law_pen", "_law_some"] (spPick K)) : FnOk P w K mg base CX0 3 f fd P_law_name (spNameOf K) := by
  refine F.ok sc_law_name (fun vs H Q E h => ?_) (fun cdv A outer s H vs Q E hr h => ?_)
  · obtain ⟨d, L, ns, n, rfl, _⟩ := h
    rfl
  obtain ⟨d, L, ns, n, rfl, p, hn, q⟩ := h
  refine ⟨_, (pss_cons (ps_set (i := 1) sc_law_name.nd rfl (Or.inr rfl) pe_str)
  (pss_cons (ps_set (i := 2) sc_law_name.nd rfl (Or.inl rfl) (pe_callC C_law_pick hr (pa_cons (pv 0) (pa_cons (pe_lst (pa_cons pe_int (pa_cons pe_int (pa_cons pe_int (pa_cons pe_int (pa_cons pe_int (pa_cons pe_int (pa_cons pe_int pa_nil)))))))) pa_nil))))
  (pss_cons (ps_setLc (i := 3) (own := [("_law_k", 4)]) (g := (gName 4)) rfl sc_law_name.nd rfl rfl (sw_true rfl rfl rfl (by decide +kernel)) (pi_range1 rfl T.range (pa_cons (pv 2) pa_nil)) (blkOk_by (own := [("_law_k", 4)]) (N := N_law_name) (sc := defScope s_law_name) (by decide +kernel)) (fun _ _ _ _ _ => (pg_name (i := 4) sc_law_name.nd rfl (Or.inl rfl))) (fun _ _ _ _ _ => pts_nil) (fun _ _ _ _ _ => (pe_callC C_law_pick hr (pa_cons (pv 0) (pa_cons (pe_op op_add_str (pv 1) pe_str) pa_nil)))))
  (pss_one (ps_ret (pe_join pe_str (pe_op op_cat (pe_lst (pa_cons (pe_callC C_law_pick hr (pa_cons (pv 0) (pa_cons (pv 1) pa_nil))) pa_nil)) (pv 3)))))))), ?_⟩
  refine ⟨_, rfl, by show 7 ≤ sizeLine; decide, fun p0 np0 => ?_⟩
  refine ⟨d, L, ns, n, _, rfl, p.same (same_new np0 _), by omega, .inl ⟨p0, _, rfl, SqL.of upd_same, by simp, by show 7 ≤ 1000; decide, fun x H1 hx k1 p1 => ?_⟩⟩
  have k1' : Keep d H H1 := (Same.toKeep (same_new np0 _)).trans k1
  obtain ⟨m, rfl, hm⟩ : ∃ m : Nat, x = V.int m ∧ m ≤ 11 := by
    simp only [List.mem_cons, List.not_mem_nil, or_false] at hx
    rcases hx with rfl | rfl | rfl | rfl | rfl | rfl | rfl <;>
      first | exact ⟨0, rfl, by decide⟩ | exact ⟨1, rfl, by decide⟩ | exact ⟨2, rfl, by decide⟩ | exact ⟨5, rfl, by decide⟩ | exact ⟨10, rfl, by decide⟩ | exact ⟨11, rfl, by decide⟩
  refine ⟨_, rfl, (m : Int), rfl, by omega, by omega, fun D nD => lc_range (lo := 0) (n := (m : Int).toNat)
    (fun i H' => Keep d H1 H' ∧ Pen K H' d L ns (n + 1 + i) ∧ ∃ cs : List Nat, cs.length = i ∧ (∀ c ∈ cs, isLD c = true) ∧ H' D = some (.lst (cs.map fun c => V.str ⟨#[c]⟩))) ?_ (fun i H2 hi ⟨k2, p2, cs, hcs, hld, e⟩ => ?_) (fun H2 ⟨k2, p2, cs, hcs, hld, e⟩ => ?_)⟩
  · exact ⟨Same.toKeep (same_new nD _), p1.fresh (Keep.refl _ _) p1.cells p1.isDk nD, [], rfl, by simp, upd_same⟩
  · refine ⟨rfl, _, rfl, _, rfl, _, _, rfl, rfl, by decide, ?_⟩
    refine ⟨d, L, ns, n + 1 + i, _, rfl, p2, by omega, .inr ⟨zBoth, rfl, by decide +kernel, by decide +kernel, fun c H3 hc k3 p3 => ?_⟩⟩
    have nDd : D ≠ d := by
      obtain ⟨kvs, ed⟩ := p1.isDk
      exact (ne_of_none ed nD).symm
    refine ⟨_, k3 D _ nDd e, small1000 (by rw [List.length_map]; omega), keep_fresh (k2.trans k3) nD, p3.fresh (k2.trans k3) p1.cells p1.isDk nD, cs ++ [c], by rw [List.length_append, hcs]; rfl, ?_, ?_⟩
    · intro x hx
      rcases List.mem_append.mp hx with hx | hx
      · exact hld x hx
      · rw [List.mem_singleton.mp hx, ← isLD_both]
        exact decide_eq_true hc
    · rw [upd_same, List.map_append]
      rfl
  · have em : (m : Int).toNat = m := Int.toNat_natCast m
    rw [em] at hcs p2
    refine ⟨⟨_, rfl⟩, _, rfl, _, rfl, d, L, ns, n + 1 + m, _, rfl, p2, by omega, .inr ⟨zLetters, rfl, by decide +kernel, by decide +kernel, fun c H3 hc k3 p3 => ⟨by show 1 ≤ sizeLine; decide, fun pA nA => ?_⟩⟩⟩
    have nDd : D ≠ d := by
      obtain ⟨kvs, ed⟩ := p1.isDk
      exact (ne_of_none ed nD).symm
    have e3 := same_new nA (.lst [.str ⟨#[c]⟩]) _ _ (k3 D _ nDd e)
    refine ⟨_, rfl, pA, D, _, _, rfl, rfl, upd_same, e3, Nat.le_of_lt (small1000 (by rw [List.length_map, List.length_singleton]; omega)), fun pB nB => ?_⟩
    have kF : Keep d H (upd (upd H3 pA (.lst [.str ⟨#[c]⟩])) pB (.lst ([V.str ⟨#[c]⟩] ++ cs.map fun c => V.str ⟨#[c]⟩))) :=
      ((k1'.trans k2).trans k3).trans ((Same.toKeep (same_new nA _)).trans (Same.toKeep (same_new nB _)))
    have pF := (p3.same (same_new nA (.lst [.str ⟨#[c]⟩]))).same (same_new nB (.lst ([V.str ⟨#[c]⟩] ++ cs.map fun c => V.str ⟨#[c]⟩)))
    refine ⟨_, pB, (c :: cs).map (fun c => (⟨#[c]⟩ : Str)), rfl, rfl, .inl (SqL.of ?_), ?_, ?_⟩
    · rw [upd_same, List.map_map]
      rfl
    · rw [sum_signs, List.length_map]
      show (c :: cs).length + (c :: cs).length * 0 ≤ 16777216
      rw [List.length_cons]
      omega
    · rw [join_signs]
      exact q _ _ (isName_cs (decide_eq_true hc) hld (by omega)) kF (pF.mono (by omega))
theorem ok_law_names (T : Txt K mg) (F : Fun K "_law_names" "_law_names" s_law_names f fd) (C_law_draw : Cal P w K mg base "_law_draw" 1 ["_law_pen", "_law_span"] (spDraw K)) (C_law_name : Cal P w K mg base "_law_name" 3 ["_law_pen"] (spNameOf K)) : FnOk P w K mg base CX0 4 f fd P_law_names (spNames K) := by
  refine F.ok sc_law_names (fun vs H Q E h => ?_) (fun cdv A outer s H vs Q E hr h => ?_)
  · obtain ⟨d, L, ns, n, m, rfl, _⟩ := h
    rfl
  obtain ⟨d, L, ns, n, m, rfl, p, hn, h0, hm, q⟩ := h
  refine ⟨_, (pss_one (ps_ret (pe_lc (own := [("_law_k", 2)]) (g := (gName 2)) rfl sc_law_names.nd (pi_range1 rfl T.range (pa_cons (pe_op op_add pe_int (pe_callC C_law_draw hr (pa_cons (pv 0) (pa_cons (pv 1) pa_nil)))) pa_nil)) (blkOk_by (own := [("_law_k", 2)]) (N := N_law_names) (sc := defScope s_law_names) (by decide +kernel)) (fun _ _ _ _ _ => (pg_name (i := 2) sc_law_names.nd rfl (Or.inl rfl))) (fun _ _ _ _ _ => pts_nil) (fun _ _ _ _ _ => (pe_callC C_law_name hr (pa_cons (pv 0) pa_nil)))))), ?_⟩
  refine ⟨_, rfl, _, rfl, d, L, ns, n, m, rfl, p, by omega, by omega, by omega, fun r H1 r0 r1 k1 p1 => ?_⟩
  refine ⟨_, _, rfl, rfl, 1 + r, rfl, by omega, by omega, fun D nD => lc_range (lo := 0) (n := (1 + r).toNat)
    (fun i H' => Keep d H1 H' ∧ Pen K H' d L ns (n + 1 + 13 * i) ∧ ∃ zs : List Str, zs.length = i ∧ (∀ z ∈ zs, isName z = true) ∧ H' D = some (.lst (zs.map V.str))) ?_ (fun i H2 hi ⟨k2, p2, zs, hcs, hld, e⟩ => ?_) (fun H2 ⟨k2, p2, zs, hcs, hld, e⟩ => ?_)⟩
  · exact ⟨Same.toKeep (same_new nD _), p1.fresh (Keep.refl _ _) p1.cells p1.isDk nD, [], rfl, by simp, upd_same⟩
  · refine ⟨rfl, _, rfl, d, L, ns, n + 1 + 13 * i, rfl, p2, by omega, fun z H3 hz k3 p3 => ?_⟩
    have nDd : D ≠ d := by
      obtain ⟨kvs, ed⟩ := p1.isDk
      exact (ne_of_none ed nD).symm
    refine ⟨_, k3 D _ nDd e, small1000 (by rw [List.length_map]; omega), keep_fresh (k2.trans k3) nD, (p3.fresh (k2.trans k3) p1.cells p1.isDk nD).mono (by omega), zs ++ [z], by rw [List.length_append, hcs]; rfl, ?_, ?_⟩
    · intro x hx
      rcases List.mem_append.mp hx with hx | hx
      · exact hld x hx
      · rw [List.mem_singleton.mp hx]
        exact hz
    · rw [upd_same, List.map_append]
      rfl
  · refine q D zs H2 hld ?_ (by omega) (SqL.of e) (k1.trans k2) (p2.mono (by omega))
    rintro rfl
    rw [List.length_nil] at hcs
    omega
end
end My

set_option Elab.async false
set_option linter.all false
set_option maxRecDepth 100000
namespace My
open PySem L2 SX
theorem memD_inv {d : PyData} {zs : List Str} (h : memD d zs = true) : ∃ x, d = .str x ∧ x ∈ zs := by
  cases d with
  | str x => exact ⟨x, rfl, of_decide_eq_true h⟩
  | _ => cases h
theorem isNameD_inv {d : PyData} (h : isNameD d = true) : ∃ x, d = .str x ∧ isName x = true := by
  cases d with
  | str x => exact ⟨x, rfl, h⟩
  | _ => cases h
theorem isForm_inv {k : Nat} {D : PyData} (h : isForm k D = true) :
    (∃ w n, D = .tuple [.str w, .str n] ∧ w ∈ leafW ∧ isName n = true) ∨ ∃ j w a b, k = j + 1 ∧ D = .tuple [.str w, a, b] ∧ w ∈ halfW ∧ isForm j a = true ∧ isForm j b = true := by
  by_cases ht : isTupD D = true
  · cases D with
    | tuple ds =>
      match ds with
      | [a, n] =>
        rw [isForm_m2, Bool.and_eq_true] at h
        obtain ⟨w, rfl, hw⟩ := memD_inv h.1
        obtain ⟨x, rfl, hx⟩ := isNameD_inv h.2
        exact .inl ⟨w, x, rfl, hw, hx⟩
      | [a, b, c] =>
        cases k with
        | zero => rw [isForm_tup3_0] at h; cases h
        | succ j =>
          rw [isForm_m3, Bool.and_eq_true, Bool.and_eq_true] at h
          obtain ⟨w, rfl, hw⟩ := memD_inv h.1
          exact .inr ⟨j, w, b, c, rfl, rfl, hw, h.2.1, h.2.2⟩
      | [] => rw [isForm_tup_len _ _ (by simp) (by simp)] at h; cases h
      | [_] => rw [isForm_tup_len _ _ (by simp) (by simp)] at h; cases h
      | _ :: _ :: _ :: _ :: _ => rw [isForm_tup_len _ _ (by simp) (by simp)] at h; cases h
    | _ => cases ht
  · rw [Bool.not_eq_true] at ht
    rw [isForm_not_tup k D ht] at h
    cases h
theorem isForm_leaf (k : Nat) {w n : Str} (hw : w ∈ leafW) (hn : isName n = true) : isForm k (.tuple [.str w, .str n]) = true := by
  rw [isForm_m2]
  show (decide (w ∈ leafW) && isName n) = true
  rw [decide_eq_true hw, hn]
  rfl
theorem isForm_node {k : Nat} {w : Str} {a b : PyData} (hw : w ∈ halfW) (ha : isForm k a = true) (hb : isForm k b = true) : isForm (k + 1) (.tuple [.str w, a, b]) = true := by
  rw [isForm_m3, ha, hb]
  show (decide (w ∈ halfW) && _) = true
  rw [decide_eq_true hw]
  rfl
theorem isForm_up : ∀ {k : Nat} {D : PyData}, isForm k D = true → isForm (k + 1) D = true := by
  intro k
  induction k with
  | zero =>
    intro D h
    rcases isForm_inv h with ⟨w, n, rfl, hw, hn⟩ | ⟨j, w, a, b, e, _⟩
    · exact isForm_leaf _ hw hn
    · cases e
  | succ k ih =>
    intro D h
    rcases isForm_inv h with ⟨w, n, rfl, hw, hn⟩ | ⟨j, w, a, b, e, rfl, hw, ha, hb⟩
    · exact isForm_leaf _ hw hn
    · obtain rfl : k = j := by omega
      exact isForm_node hw (ih ha) (ih hb)
theorem isForm_le {k m : Nat} {D : PyData} (h : isForm k D = true) (l : k ≤ m) : isForm m D = true := by
  induction l with
  | refl => exact h
  | step _ ih => exact isForm_up ih
theorem okStr_leaf : ∀ w ∈ leafW, okStr w = true := by decide +kernel
theorem okStr_half : ∀ w ∈ halfW, okStr w = true := by decide +kernel
theorem short_form : ∀ {k : Nat} {D : PyData}, isForm k D = true → shortD D = true := by
  intro k
  induction k with
  | zero =>
    intro D h
    rcases isForm_inv h with ⟨w, n, rfl, hw, hn⟩ | ⟨j, w, a, b, e, _⟩
    · simp only [shortD, shortAll, okStr_leaf w hw, okStr_of_name hn, Bool.and_self]
    · cases e
  | succ k ih =>
    intro D h
    rcases isForm_inv h with ⟨w, n, rfl, hw, hn⟩ | ⟨j, w, a, b, e, rfl, hw, ha, hb⟩
    · simp only [shortD, shortAll, okStr_leaf w hw, okStr_of_name hn, Bool.and_self]
    · obtain rfl : k = j := by omega
      have h1 := ih ha
      have h2 := ih hb
      unfold shortD
      simp only [shortAll, h1, h2, Bool.and_true]
      unfold shortD
      exact okStr_half w hw
theorem depth_form : ∀ {k : Nat} {D : PyData}, isForm k D = true → D.depth ≤ k + 1 := by
  intro k
  induction k with
  | zero =>
    intro D h
    rcases isForm_inv h with ⟨w, n, rfl, hw, hn⟩ | ⟨j, w, a, b, e, _⟩
    · simp [PyData.depth, PyData.depthAll]
    · cases e
  | succ k ih =>
    intro D h
    rcases isForm_inv h with ⟨w, n, rfl, hw, hn⟩ | ⟨j, w, a, b, e, rfl, hw, ha, hb⟩
    · simp [PyData.depth, PyData.depthAll]
    · obtain rfl : k = j := by omega
      have h1 := ih ha
      have h2 := ih hb
      simp only [PyData.depth, PyData.depthAll]
      omega
theorem arg_eq {x y : V} {G : V → Hp → Prop} {H : Hp} (e : x = y) (h : G y H) : G x H := by
  rw [e]
  exact h
/-- the least depth of a form -/
def Deep (j : Nat) (D : PyData) : Prop := isForm j D = true ∧ ∀ i, i < j → isForm i D = false
theorem deep_node {x y : Nat} {w : Str} {a b : PyData} (hw : w ∈ halfW) (ha : Deep x a) (hb : Deep y b) {m : Nat} (hm : m = x ∨ m = y) (hx : x ≤ m) (hy : y ≤ m) : Deep (m + 1) (.tuple [.str w, a, b]) := by
  refine ⟨isForm_node hw (isForm_le ha.1 hx) (isForm_le hb.1 hy), fun i hi => ?_⟩
  cases i with
  | zero => exact isForm_tup3_0 _ _ _
  | succ i =>
    rw [isForm_m3]
    rcases hm with rfl | rfl
    · rw [ha.2 i (by omega), Bool.false_and, Bool.and_false]
    · rw [hb.2 i (by omega), Bool.and_false, Bool.and_false]
theorem deep_leaf {w n : Str} (hw : w ∈ leafW) (hn : isName n = true) : Deep 0 (.tuple [.str w, .str n]) := ⟨isForm_leaf 0 hw hn, fun i hi => by omega⟩
def lvs : PyData → List PyData
  | .tuple [a, b] => [.tuple [a, b]]
  | .tuple [_, a, b] => lvs a ++ lvs b
  | _ => []
theorem lvs2 (a b : PyData) : lvs (.tuple [a, b]) = [.tuple [a, b]] := by rw [lvs]
theorem lvs3 (w a b : PyData) : lvs (.tuple [w, a, b]) = lvs a ++ lvs b := by rw [lvs]
abbrev s_law_depth : Stmt := top 41
abbrev N_law_depth : List Str := ["_law_form"]
abbrev P_law_depth : List Str := ["_law_form"]
theorem sc_law_depth : FnScope N_law_depth P_law_depth (defScope s_law_depth) := ⟨rfl, rfl, rfl, by decide +kernel, rfl, by decide +kernel, by decide +kernel⟩
abbrev s_law_shape : Stmt := top 48
abbrev N_law_shape : List Str := ["_law_pen", "_law_names_here", "_law_many", "_law_tall", "_law_room", "_law_low", "_law_high", "_law_way", "_law_left", "_law_word", "_law_one"]
abbrev P_law_shape : List Str := ["_law_pen", "_law_names_here", "_law_many", "_law_tall"]
theorem sc_law_shape : FnScope N_law_shape P_law_shape (defScope s_law_shape) := ⟨rfl, rfl, rfl, by decide +kernel, rfl, by decide +kernel, by decide +kernel⟩
abbrev s_law_deeper : Stmt := top 53
abbrev N_law_deeper : List Str := ["_law_form", "_law_tall", "_law_k"]
abbrev P_law_deeper : List Str := ["_law_form", "_law_tall"]
theorem sc_law_deeper : FnScope N_law_deeper P_law_deeper (defScope s_law_deeper) := ⟨rfl, rfl, rfl, by decide +kernel, rfl, by decide +kernel, by decide +kernel⟩
def spDepth (K : PySem.W.Frag) (k : Nat) : Sp := fun vs H Q _ => ∃ (v : V) (D : PyData) (k' : Nat), vs = [v] ∧ k' < k ∧ Dp K H v D ∧ isForm k' D = true ∧ ∀ (j : Nat) H', j ≤ k' → Deep j D → Same H H' → Q (.int j) H'
def spDeeper (K : PySem.W.Frag) : Sp := fun vs H Q _ => ∃ (v : V) (D : PyData) (t : Nat), vs = [v, .int t] ∧ 12 ≤ t ∧ t ≤ 2000 ∧ Dp K H v D ∧ isForm 12 D = true ∧ ∀ v' D' H', Dp K H' v' D' → Deep t D' ∨ (t = 12 ∧ isForm 12 D' = true) → (lvs D').length ≤ (lvs D).length + t → Same H H' → Q v' H'
def spShape (K : PySem.W.Frag) (k : Nat) : Sp := fun vs H Q _ => ∃ (d L : Addr) (ns : List Int) (n : Nat) (a : Addr) (zs : List Str) (m t : Nat), vs = [.ref d, .ref a, .int m, .int t] ∧ t < k ∧ Pen K H d L ns n ∧ n + 5 * m < 2 ^ 39 ∧
  SqL K H a (zs.map V.str) ∧ zs ≠ [] ∧ zs.length ≤ 1000 ∧ (∀ z ∈ zs, isName z = true) ∧ 1 ≤ m ∧ m ≤ 1000 ∧ m ≤ 2 ^ t ∧ t ≤ 60 ∧
  ∀ v D H', Dp K H' v D → isForm t D = true → (lvs D).length = m → Keep d H H' → Pen K H' d L ns (n + (5 * m - 3)) → Q v H'
section
variable {P : Program} {w : World} {K : PySem.W.Frag} {mg : Str → Option Value} {base : Heap} {f : Addr} {fd : FuncData}
theorem ok_law_depth {k : Nat} (T : Txt K mg) (F : Fun K "_law_depth" "_law_depth" s_law_depth f fd) (C_law_depth : Cal P w K mg base "_law_depth" k ["_law_form"] (spDepth K k)) : FnOk P w K mg base CX0 (k + 1) f fd P_law_depth (spDepth K (k + 1)) := by
  refine F.ok sc_law_depth (fun vs H Q E h => ?_) (fun cdv A outer s H vs Q E hr h => ?_)
  · obtain ⟨v, D, k', rfl, _⟩ := h
    rfl
  obtain ⟨v, D, k', rfl, hk, hv, hD, q⟩ := h
  refine ⟨_, (pss_one (ps_ret (pe_ifExp (pt_cmpR op_eq (pe_callB call_len rfl T.len (by decide +kernel) (pa_cons (pv 0) pa_nil)) pe_int (nomark _)) pe_int (pe_op op_add pe_int (pe_callB (cr_max rfl) rfl T.max (by decide +kernel) (pa_cons (pe_lst (pa_cons (pe_callC C_law_depth hr (pa_cons (pe_ix ix_tup (pv 0) pe_int (fun _ _ => rfl)) pa_nil)) (pa_cons (pe_callC C_law_depth hr (pa_cons (pe_ix ix_tup (pv 0) pe_int (fun _ _ => rfl)) pa_nil)) pa_nil))) pa_nil)))))), ?_⟩
  rcases isForm_inv hD with ⟨x, n, rfl, hx, hn⟩ | ⟨j, x, a, b, rfl, rfl, hx, ha, hb⟩
  · cases hv with | @tup p xs _ hT hA => cases hA with | cons h1 hA => cases hA with | cons h2 hN =>
    cases hN
    refine ⟨_, rfl, _, _, rfl, .inr ⟨_, hT, rfl⟩, rfl, _, rfl, ?_⟩
    exact q 0 H (Nat.zero_le _) (deep_leaf hx hn) (Same.refl H)
  · cases hv with | @tup p xs _ hT hA => cases hA with | cons h1 hA => cases hA with | cons h2 hA => cases hA with | cons h3 hN =>
    cases hN
    refine ⟨_, rfl, _, _, rfl, .inr ⟨_, hT, rfl⟩, rfl, _, rfl, ?_⟩
    refine iteF ⟨_, rfl, p, _, _, _, rfl, rfl, hT, rfl, _, a, j, rfl, by omega, h2, ha, fun ja H1 la da S1 => ?_⟩
    refine ⟨_, rfl, p, _, _, _, rfl, rfl, seqT_same S1 hT, rfl, _, b, j, rfl, by omega, dp_same S1 _ _ h3, hb, fun jb H2 lb db S2 => ?_⟩
    refine ⟨by show 2 ≤ sizeLine; decide, fun p2 n2 => ⟨p2, [(ja : Int), (jb : Int)], rfl, SqL.of upd_same, by simp, fun m hm hle => ?_⟩⟩
    obtain ⟨M, rfl⟩ : ∃ M : Nat, m = (M : Int) := by
      simp only [List.mem_cons, List.not_mem_nil, or_false] at hm
      rcases hm with rfl | rfl
      · exact ⟨ja, rfl⟩
      · exact ⟨jb, rfl⟩
    have l1 := hle (ja : Int) (by simp)
    have l2 := hle (jb : Int) (by simp)
    have hM : M = ja ∨ M = jb := by
      simp only [List.mem_cons, List.not_mem_nil, or_false] at hm
      omega
    refine ⟨_, _, rfl, rfl, ?_⟩
    have e : (1 + (M : Int)) = ((M + 1 : Nat) : Int) := by omega
    show Q (.int (1 + (M : Int))) _
    rw [e]
    exact q (M + 1) _ (by omega) (deep_node hx da db hM (by omega) (by omega)) ((S1.trans S2).trans (same_new n2 _))
theorem ok_law_deeper (T : Txt K mg) (F : Fun K "_law_deeper" "_law_deeper" s_law_deeper f fd) (C_law_depth : Cal P w K mg base "_law_depth" 13 ["_law_form"] (spDepth K 13)) : FnOk P w K mg base CX0 14 f fd P_law_deeper (spDeeper K) := by
  refine F.ok sc_law_deeper (fun vs H Q E h => ?_) (fun cdv A outer s H vs Q E hr h => ?_)
  · obtain ⟨v, D, t, rfl, _⟩ := h
    rfl
  obtain ⟨v, D, t, rfl, h12, ht, hv, hD, q⟩ := h
  refine ⟨_, (pss_cons (ps_for PassesOwn.never rfl (pi_range1 rfl T.range (pa_cons (pe_op op_sub (pv 1) (pe_callC C_law_depth hr (pa_cons (pv 0) pa_nil))) pa_nil)) (pg_name (i := 2) sc_law_deeper.nd rfl (Or.inl rfl))
    (pss_one (ps_set (i := 0) sc_law_deeper.nd rfl (Or.inl rfl) (pe_ifExp (pt_cmpR op_eq (pe_op op_mod (pe_callTy call_int1 rfl T.int (by decide +kernel) (pa_cons (pv 2) pa_nil)) pe_int) pe_int (nomark _)) (pe_tup (pa_cons pe_str (pa_cons (pv 0) (pa_cons (pe_tup (pa_cons pe_str (pa_cons pe_str pa_nil))) pa_nil)))) (pe_tup (pa_cons pe_str (pa_cons (pe_tup (pa_cons pe_str (pa_cons pe_str pa_nil))) (pa_cons (pv 0) pa_nil))))))))
  (pss_one (ps_ret (pv 0)))), ?_⟩
  refine ⟨_, rfl, _, rfl, v, D, 12, rfl, by omega, hv, hD, fun j H1 hj dj S1 => ?_⟩
  refine ⟨_, _, rfl, rfl, (t : Int) - (j : Int), rfl, by omega, by omega, ?_⟩
  refine for_range (lo := 0) (n := ((t : Int) - (j : Int)).toNat) (fun i σ H' => Same H H' ∧ ∃ v' x D', σ = [some v', some (.int t), x] ∧ Dp K H' v' D' ∧ Deep (j + i) D' ∧ (lvs D').length ≤ (lvs D).length + i) ⟨S1, v, none, D, rfl, dp_same S1 _ _ hv, dj, Nat.le_refl _⟩
    (fun i σ H2 hi ⟨S2, v', x, D', eσ, hv', dv, lv⟩ => ?_) (fun σ H2 ⟨S2, v', x, D', eσ, hv', dv, lv⟩ => ?_)
  · subst eσ
    refine ⟨_, rfl, .inl ⟨_, rfl, _, _, rfl, rfl, (by show (0 : Int) < 2; decide), rfl, _, rfl, ?_⟩⟩
    have hn : isName (Str.ofString "a") = true := by decide +kernel
    have hn2 : isName (Str.ofString "b") = true := by decide +kernel
    refine ite2 (fun c => ?_) (fun c => ?_)
    · refine ⟨_, rfl, by show 2 ≤ sizeLine; decide, fun p1 n1 => ⟨by show 3 ≤ sizeLine; decide, fun p2 n2 => ?_⟩⟩
      have S3 := same_new n1 (.tup [.str (Str.ofString "good"), .str (Str.ofString "a")])
      have S4 := S3.trans (same_new n2 (.tup [.str (Str.ofString "both"), v', .ref p1]))
      refine ⟨S2.trans S4, .ref p2, _, .tuple [.str (Str.ofString "both"), D', .tuple [.str (Str.ofString "good"), .str (Str.ofString "a")]], rfl, .tup (SqT.of upd_same) (.cons (.str _) (.cons (dp_same S4 _ _ hv') (.cons (.tup (SqT.of (same_new n2 _ _ _ upd_same)) (.cons (.str _) (.cons (.str _) .nil))) .nil))), ?_, by rw [lvs3, lvs2, List.length_append]; simp only [List.length_cons, List.length_nil]; omega⟩
      exact deep_node (x := j + i) (y := 0) (m := j + i) (by decide +kernel) dv (deep_leaf (by decide +kernel) hn) (.inl rfl) (by omega) (by omega)
    · refine ⟨by show 2 ≤ sizeLine; decide, fun p1 n1 => ⟨_, rfl, by show 3 ≤ sizeLine; decide, fun p2 n2 => ?_⟩⟩
      have S3 := same_new n1 (.tup [.str (Str.ofString "counter"), .str (Str.ofString "b")])
      have S4 := S3.trans (same_new n2 (.tup [.str (Str.ofString "chosen"), .ref p1, v']))
      refine ⟨S2.trans S4, .ref p2, _, .tuple [.str (Str.ofString "chosen"), .tuple [.str (Str.ofString "counter"), .str (Str.ofString "b")], D'], rfl, .tup (SqT.of upd_same) (.cons (.str _) (.cons (.tup (SqT.of (same_new n2 _ _ _ upd_same)) (.cons (.str _) (.cons (.str _) .nil))) (.cons (dp_same S4 _ _ hv') .nil))), ?_, by rw [lvs3, lvs2, List.length_append]; simp only [List.length_cons, List.length_nil]; omega⟩
      exact deep_node (x := 0) (y := j + i) (m := j + i) (by decide +kernel) (deep_leaf (by decide +kernel) hn2) dv (.inr rfl) (by omega) (by omega)
  · subst eσ
    have e : j + ((t : Int) - (j : Int)).toNat = t := by omega
    rw [e] at dv
    exact ⟨_, rfl, q v' D' H2 hv' (.inl dv) (by omega) S2⟩
set_option maxHeartbeats 2000000 in
theorem ok_law_shape {k : Nat} (T : Txt K mg) (F : Fun K "_law_shape" "_law_shape" s_law_shape f fd) (C_law_draw : Cal P w K mg base "_law_draw" 1 ["_law_pen", "_law_span"] (spDraw K)) (C_law_pick : Cal P w K mg base "_law_pick" 2 ["_law_pen", "_law_some"] (spPick K))
    (C_law_shape : Cal P w K mg base "_law_shape" (2 + k) P_law_shape (spShape K k)) : FnOk P w K mg base CX0 (2 + k + 1) f fd P_law_shape (spShape K (k + 1)) := by
  refine F.ok sc_law_shape (fun vs H Q E h => ?_) (fun cdv A outer s H vs Q E hr h => ?_)
  · obtain ⟨d, L, ns, n, a, zs, m, t, rfl, _⟩ := h
    rfl
  obtain ⟨d, L, ns, n, a, zs, m, t, rfl, htk, p, hn, hS, hne, hzl, hzs, hm1, hm2, hm3, ht60, q⟩ := h
  refine ⟨_, (pss_cons (ps_if (pt_cmpR op_eq (pv 2) pe_int (nomark _))
    (pss_one (ps_ret (pe_tup (pa_cons (pe_callC C_law_pick hr (pa_cons (pv 0) (pa_cons (pe_lst (pa_cons pe_str (pa_cons pe_str pa_nil))) pa_nil))) (pa_cons (pe_callC C_law_pick hr (pa_cons (pv 0) (pa_cons (pv 1) pa_nil))) pa_nil)))))
    pss_nil)
  (pss_cons (ps_set (i := 4) sc_law_shape.nd rfl (Or.inl rfl) (pe_op op_shl pe_int (pe_op op_sub (pv 3) pe_int)))
  (pss_cons (ps_par (i := 5) (j := 6) (by rfl) sc_law_shape.nd rfl rfl (by decide) rfl rfl (pa_cons (pe_callB (call_max2 rfl) rfl T.max (by decide +kernel) (pa_cons pe_int (pa_cons (pe_op op_sub (pv 2) (pv 4)) pa_nil))) (pa_cons (pe_callB (call_min2 rfl) rfl T.min (by decide +kernel) (pa_cons (pe_op op_sub (pv 2) pe_int) (pa_cons (pv 4) pa_nil))) pa_nil)) (by rfl))
  (pss_cons (ps_set (i := 7) sc_law_shape.nd rfl (Or.inl rfl) (pe_callC C_law_draw hr (pa_cons (pv 0) (pa_cons pe_int pa_nil))))
  (pss_cons (ps_set (i := 8) sc_law_shape.nd rfl (Or.inl rfl) (pe_op op_add (pv 5) (pe_callC C_law_draw hr (pa_cons (pv 0) (pa_cons (pe_op op_add (pe_op op_sub (pv 6) (pv 5)) pe_int) pa_nil)))))
  (pss_cons (ps_if (pt_cmpR op_lt (pv 7) pe_int (nomark _))
    (pss_one (ps_set (i := 8) sc_law_shape.nd rfl (Or.inl rfl) (pe_ifExp (pt_cmpR op_eq (pv 7) pe_int (nomark _)) (pv 5) (pv 6))))
    pss_nil)
  (pss_cons (ps_set (i := 9) sc_law_shape.nd rfl (Or.inl rfl) (pe_callC C_law_pick hr (pa_cons (pv 0) (pa_cons (pe_lst (pa_cons pe_str (pa_cons pe_str (pa_cons pe_str (pa_cons pe_str pa_nil))))) pa_nil))))
  (pss_cons (ps_set (i := 10) sc_law_shape.nd rfl (Or.inl rfl) (pe_callC C_law_shape hr (pa_cons (pv 0) (pa_cons (pv 1) (pa_cons (pv 8) (pa_cons (pe_op op_sub (pv 3) pe_int) pa_nil))))))
  (pss_one (ps_ret (pe_tup (pa_cons (pv 9) (pa_cons (pv 10) (pa_cons (pe_callC C_law_shape hr (pa_cons (pv 0) (pa_cons (pv 1) (pa_cons (pe_op op_sub (pv 2) (pv 8)) (pa_cons (pe_op op_sub (pv 3) pe_int) pa_nil))))) pa_nil)))))))))))))), ?_⟩
  refine ⟨_, rfl, rfl, _, rfl, ?_⟩
  refine ite2 (fun c => ?_) (fun c => ?_)
  · have hm : m = 1 := by
      have := V.int.inj (of_decide_eq_true c)
      omega
    subst hm
    refine ⟨_, rfl, by show 2 ≤ sizeLine; decide, fun p0 np0 => ?_⟩
    refine ⟨d, L, ns, n, _, rfl, p.same (same_new np0 _), by omega, .inl ⟨p0, _, rfl, SqL.of upd_same, by simp, by show 2 ≤ 1000; decide, fun x H1 hx k1 p1 => ?_⟩⟩
    have k1' : Keep d H H1 := (Same.toKeep (same_new np0 _)).trans k1
    refine ⟨_, rfl, _, rfl, d, L, ns, n + 1, _, rfl, p1, by omega, .inl ⟨a, _, rfl, seqL_keep p.isDk k1' hS, by simp [hne], by rw [List.length_map]; exact hzl, fun y H2 hy k2 p2 => ⟨by show 2 ≤ sizeLine; decide, fun p3 n3 => ?_⟩⟩⟩
    obtain ⟨w', rfl, hw⟩ : ∃ w', x = .str w' ∧ w' ∈ leafW := by
      have : x ∈ leafW.map V.str := hx
      obtain ⟨w', hw, e⟩ := List.mem_map.mp this
      exact ⟨w', e.symm, hw⟩
    obtain ⟨z, hz, rfl⟩ := List.mem_map.mp hy
    exact q (.ref p3) (.tuple [.str w', .str z]) _ (.tup (SqT.of upd_same) (.cons (.str _) (.cons (.str _) .nil))) (isForm_leaf _ hw (hzs z hz)) (by first | (rw [lvs2]; done) | (rw [lvs2]; rfl)) ((k1'.trans k2).trans (Same.toKeep (same_new n3 _))) ((p2.same (same_new n3 _)).mono (by omega))
  · have hm : m ≠ 1 := fun e => c (by subst e; rfl)
    obtain ⟨t', rfl⟩ : ∃ t', t = t' + 1 := by
      cases t with
      | zero => simp at hm3; omega
      | succ t' => exact ⟨t', rfl⟩
    have hpow : (2 : Nat) ^ (t' + 1) = 2 * 2 ^ t' := by rw [Nat.pow_succ]; omega
    generalize hR : (2 : Nat) ^ t' = R at hpow
    rw [hpow] at hm3
    have hR1 : 1 ≤ R := by rw [← hR]; exact Nat.one_le_two_pow
    refine ⟨_, rfl, _, _, rfl, rfl, _, _, rfl, rfl, ⟨by omega, by omega, by decide⟩, ?_⟩
    have eR : (1 : Int) * 2 ^ (((t' + 1 : Nat) : Int) - 1).toNat = (R : Int) := by
      have : (((t' + 1 : Nat) : Int) - 1).toNat = t' := by omega
      rw [this, ← hR, Int.one_mul]
      norm_cast
    dsimp only
    rw [eR]
    refine ⟨_, rfl, _, rfl, _, _, rfl, rfl, _, _, rfl, _, rfl, _, _, rfl, rfl, _, rfl, _, _, rfl, _, _, rfl, ?_⟩
    have hE1 : 1 ≤ (if (m : Int) - (R : Int) > 1 then (m : Int) - (R : Int) else 1) ∧ (m : Int) - R ≤ (if (m : Int) - (R : Int) > 1 then (m : Int) - (R : Int) else 1) ∧
        ((if (m : Int) - (R : Int) > 1 then (m : Int) - (R : Int) else 1) = 1 ∨ (if (m : Int) - (R : Int) > 1 then (m : Int) - (R : Int) else 1) = (m : Int) - R) := by
      split <;> omega
    have hE2 : (if (R : Int) < (m : Int) - 1 then (R : Int) else (m : Int) - 1) ≤ (m : Int) - 1 ∧ (if (R : Int) < (m : Int) - 1 then (R : Int) else (m : Int) - 1) ≤ R ∧
        ((if (R : Int) < (m : Int) - 1 then (R : Int) else (m : Int) - 1) = (m : Int) - 1 ∨ (if (R : Int) < (m : Int) - 1 then (R : Int) else (m : Int) - 1) = R) := by
      split <;> omega
    generalize hE1e : (if (m : Int) - (R : Int) > 1 then (m : Int) - (R : Int) else 1) = E1 at hE1 ⊢
    generalize hE2e : (if (R : Int) < (m : Int) - 1 then (R : Int) else (m : Int) - 1) = E2 at hE2 ⊢
    have pick3 : ∀ x : Int, E1 ≤ x → x ≤ E2 → ∃ lf : Nat, x = (lf : Int) ∧ 1 ≤ lf ∧ lf ≤ R ∧ 1 ≤ m - lf ∧ m - lf ≤ R ∧ lf ≤ m := fun x h1 h2 =>
      ⟨x.toNat, by omega, by omega, by omega, by omega, by omega, by omega⟩
    refine ⟨_, rfl, d, L, ns, n, 5, rfl, p, by omega, by decide, by decide, fun way H1 w0 w5 k1 p1 => ?_⟩
    refine ⟨_, rfl, _, rfl, _, rfl, _, rfl, _, _, rfl, rfl, _, _, rfl, rfl, d, L, ns, n + 1, E2 - E1 + 1, rfl, p1, by omega, by omega, by omega, fun r H2 r0 r1 k2 p2 => ?_⟩
    refine ⟨_, _, rfl, rfl, ?_⟩
    refine ⟨_, rfl, _, _, rfl, rfl, _, rfl, ?_⟩
    have k12 := k1.trans k2
    have e1 : ((t' + 1 : Nat) : Int) - 1 = (t' : Int) := by omega
    refine ite2 (fun c2 => ?_) (fun c2 => ?_)
    refine ⟨_, rfl, rfl, _, rfl, ?_⟩
    refine ite2 (fun c3 => ?_) (fun c3 => ?_)
    case' refine_1 =>
      obtain ⟨lf, rfl, l1, l2, l3, l4, l5⟩ := pick3 E1 (by omega) (by omega)
      refine ⟨_, rfl, ?_⟩
    case' refine_2 =>
      obtain ⟨lf, rfl, l1, l2, l3, l4, l5⟩ := pick3 E2 (by omega) (by omega)
      refine ⟨_, rfl, ?_⟩
    case' refine_2.refine_2.refine_2 =>
      obtain ⟨lf, elf, l1, l2, l3, l4, l5⟩ := pick3 (E1 + r) (by omega) (by omega)
      dsimp only
      rw [elf]
    all_goals
      refine ⟨_, rfl, by show 4 ≤ sizeLine; decide, fun p4 n4 => ?_⟩
      refine ⟨d, L, ns, n + 2, _, rfl, p2.same (same_new n4 _), by omega, .inl ⟨p4, _, rfl, SqL.of upd_same, by simp, by show 4 ≤ 1000; decide, fun x H3 hx k3 p3 => ?_⟩⟩
      have k3' := (k12.trans (Same.toKeep (same_new n4 _))).trans k3
      obtain ⟨w', rfl, hw⟩ : ∃ w', x = .str w' ∧ w' ∈ halfW := by
        have : x ∈ halfW.map V.str := hx
        obtain ⟨w', hw, e⟩ := List.mem_map.mp this
        exact ⟨w', e.symm, hw⟩
      refine ⟨_, rfl, _, rfl, _, rfl, _, rfl, _, _, rfl, rfl, d, L, ns, n + 3, a, zs, lf, t', congrArg (fun i => [V.ref d, V.ref a, V.int (lf : Int), V.int i]) e1, by omega, p3, by omega, seqL_keep p.isDk k3' hS, hne, hzl, hzs, l1, by omega, by omega, by omega, fun v1 D1 H4 hd1 hf1 hv1 k4 p4' => ?_⟩
      have k4' := k3'.trans k4
      have e2 : (m : Int) - (lf : Int) = ((m - lf : Nat) : Int) := by omega
      refine ⟨_, rfl, _, rfl, _, rfl, _, rfl, _, rfl, _, rfl, _, _, rfl, rfl, _, rfl, _, _, rfl, rfl, d, L, ns, n + 3 + (5 * lf - 3), a, zs, m - lf, t', ?_, by omega, p4', by omega, seqL_keep p.isDk k4' hS, hne, hzl, hzs, l3, by omega, by omega, by omega, fun v2 D2 H5 hd2 hf2 hv2 k5 p5 => ⟨by show 3 ≤ sizeLine; decide, fun p6 n6 => ?_⟩⟩
      · show [V.ref d, V.ref a, V.int ((m : Int) - (lf : Int)), V.int (((t' + 1 : Nat) : Int) - 1)] = _
        rw [e1, e2]
      · have S6 := same_new n6 (.tup [.str w', v1, v2])
        exact q (.ref p6) (.tuple [.str w', D1, D2]) _ (.tup (SqT.of upd_same) (.cons (.str _) (.cons (dp_same S6 _ _ (dp_keep p4'.isDk k5 _ _ hd1))  (.cons (dp_same S6 _ _ hd2) .nil)))) (isForm_node hw hf1 hf2) (by rw [lvs3, List.length_append, hv1, hv2]; omega) ((k4'.trans k5).trans (Same.toKeep S6)) ((p5.same S6).mono (by omega))
end
end My

set_option Elab.async false
set_option linter.all false
set_option maxRecDepth 100000
namespace My
open PySem PySem.Spec PyProof.Rows L2 SX HT
/-! ### t[::-1] -/
section
variable {prog : Program} {w : World} {A : Around} {E : Value → Shared → Prop} {s : Shared}
theorem back_applied {sl : Addr} {vk : Value} {n : Nat} {Q : Int × Int × Nat → Shared → Prop} (hs : s.heap.IsSliceOf sl .none .none vk) (pk : IsPart vk (some (-1)))
    (h : Q ((n : Int) - 1, -1, n) s) : wpAny (model prog w) A (Builtin.Slice.sliceApplied (.ref sl) (pure (n : Int))) Q E s := by
  obtain ⟨o, ho, hc, hd⟩ := id hs
  unfold Builtin.Slice.sliceApplied Builtin.Slice.sliceFields
  refine wpAny_bind (wpAny_bind (wpAny_field ho hd (x := .none) rfl (wpAny_bind (wpAny_field ho hd (x := .none) rfl (wpAny_bind (wpAny_field ho hd (x := vk) rfl (wpAny_pure ?_)))))))
  refine wpAny_bind (slicePart_ pk ?_)
  show wpAny _ _ (if ((-1 : Int) == 0) = true then _ else _) _ _ s
  rw [if_neg (by decide)]
  refine wpAny_bind (slicePart_none (wpAny_bind (slicePart_none (wpAny_bind (wpAny_pure ?_)))))
  have e : Builtin.Slice.sliceAdjust none none (-1) (n : Int) = ((n : Int) - 1, -1) := rfl
  show wpAny _ _ (match Builtin.Slice.sliceAdjust none none (-1) (n : Int) with | (lo, hi) => pure (lo, (-1 : Int), Builtin.Slice.slicePlaces lo hi (-1))) _ _ s
  rw [e]
  have e2 : Builtin.Slice.slicePlaces ((n : Int) - 1) (-1) (-1) = n := by
    unfold Builtin.Slice.slicePlaces
    rw [if_neg (by decide)]
    by_cases hn : n = 0
    · subst hn; rfl
    · rw [if_pos (by omega)]
      have : ((n : Int) - 1 - -1 - 1) / (- -1) + 1 = (n : Int) := by
        show ((n : Int) - 1 - -1 - 1) / 1 + 1 = (n : Int)
        rw [Int.ediv_one]
        omega
      rw [this, Int.toNat_natCast]
  show wpAny _ _ (pure ((n : Int) - 1, (-1 : Int), Builtin.Slice.slicePlaces ((n : Int) - 1) (-1) (-1))) _ _ s
  rw [e2]
  exact wpAny_pure h
theorem back_picked (xs : Array Value) : ((List.range xs.size).filterMap fun (k : Nat) => xs[(((xs.size : Int) - 1) + (k : Int) * (-1)).toNat]?).toArray = xs.toList.reverse.toArray := by
  have e : (List.range xs.size).filterMap (fun (k : Nat) => xs[(((xs.size : Int) - 1) + (k : Int) * (-1)).toNat]?) = ((List.range xs.size).map fun k => xs.size - 1 - k).filterMap (xs[·]?) := by
    rw [List.filterMap_map]
    congr 1
    funext k
    have : (((xs.size : Int) - 1) + (k : Int) * (-1)).toNat = xs.size - 1 - k := by omega
    rw [this]
    rfl
  rw [e, PySem.W.krv_range, List.filterMap_reverse, PySem.W.krv_all]
theorem back_item {t sl : Addr} {items : Array Value} {vk : Value} {Q : Value → Shared → Prop} (ht : IsTup s.heap t items) (hs : s.heap.IsSliceOf sl .none .none vk) (pk : IsPart vk (some (-1)))
    (h : Q (.ref s.heap.objs.size) { s with heap := s.heap.push { cls := .type "tuple", data := .seq items.toList.reverse.toArray } }) (hz : items.size ≤ sizeLine) : wpAny (model prog w) A (getItem (.ref t) (.ref sl)) Q E s := by
  have hsz : sizeOk (.seq items.toList.reverse.toArray) := by
    show items.toList.reverse.toArray.size ≤ sizeLine
    rw [List.size_toArray, List.length_reverse, Array.length_toList]
    exact hz
  obtain ⟨o, ho, hc, hd⟩ := id hs
  have hT : s.TypeIs (.ref sl) "slice" := ⟨o, ho, hc⟩
  unfold getItem
  try with_reducible refine wpAny_holding ?_
  first | refine wpAny_bind (wpAny_pure ?_) | skip
  refine wpAny_bind (wpAny_sequenceKey ht.typeIs (by decide) (wpAny_bind (wpAny_callSpecial?_slot (name := Str.ofString "__getitem__") ht.typeIs slot_tuple_getitem (wpAny_call_entry slot_tuple_getitem ht.typeIs entry_tuple_getitem ?_ (args_tuple_getitem _ _)))))
  show wpAny _ _ (Builtin.Tuple.tupleItemsOf (.ref t) >>= _) _ _ s
  refine wpAny_bind (tupleItemsOf_ ht (wpAny_bind (wpAny_typeOf hT ?_)))
  rw [if_pos (by decide)]
  refine wpAny_bind (back_applied hs pk ?_)
  have hno : ¬ ((((items.size : Int) - 1) == 0 && (-1 : Int) == 1 && items.size == items.size) = true) := by
    rw [Bool.and_eq_true, Bool.and_eq_true]
    rintro ⟨⟨_, q⟩, _⟩
    exact absurd q (by decide)
  show wpAny _ _ (if (((items.size : Int) - 1) == 0 && (-1 : Int) == 1 && items.size == items.size) = true then _ else _) _ _ s
  rw [if_neg hno, back_picked]
  first
    | exact wpAny_bind (m := Builtin.Tuple.tupleExact _) (wpAny_newObj_type (wpAny_pure ⟨_, rfl, wpAny_pure h⟩) hsz)
    | exact wpAny_bind (m := Builtin.Tuple.tupleExact _) (wpAny_newObj_type (wpAny_bind (wpAny_pure (wpAny_pure ⟨_, rfl, wpAny_pure h⟩))) hsz)
    | exact wpAny_bind (wpAny_bind (m := Builtin.Tuple.tupleExact _) (wpAny_newObj_type (wpAny_pure (wpAny_pure ⟨_, rfl, wpAny_pure h⟩)) hsz))
    | exact wpAny_bind (wpAny_bind (m := Builtin.Tuple.tupleExact _) (wpAny_newObj_type (wpAny_pure ⟨_, rfl, wpAny_pure h⟩) hsz))
end
section
variable {X : Cx}
def tRevT (K : PySem.W.Frag) (te : TE) : TE := fun σ H Q => te σ H fun x H1 => ∃ a xs, x = .ref a ∧ SqT K H1 a xs ∧ ∀ p, H1 p = none → Q (.ref p) (upd H1 p (.tup xs.reverse))
theorem pe_revT {e : Expr} {te : TE} {k : Nat} {p1 p2 p3 pos : Pos} (he : PE X e te) : PE X (.Subscript e (.Slice none none (some (.UnaryOp .USub (.Constant (.int 1) k p1) p2)) p3) pos) (tRevT X.K te) := by
  refine ⟨fun pins s σ H Q I h => Subscript_ (thn (he.run pins s σ H _ I h) fun v s1 ⟨x, H1, I1, r1, a, xs, ex, hx, q⟩ => ?_)⟩
  subst ex
  cases r1
  have hst : PO X (some (.UnaryOp .USub (.Constant (.int 1) k p1) p2)) (tPart (tUn (rU fun i => .int (-i)) (tC (.int 1)))) := po_some (pe_un un_neg pe_int)
  refine wpAny_Slice (thn (po_none.run pins s1 σ H1 (fun o H2 => o = none ∧ H2 = H1) I1 ⟨rfl, rfl⟩) fun vl s2 ⟨l, H2, I2, pl, el, e2⟩ => ?_)
  subst el e2
  refine thn (po_none.run pins s2 σ H2 (fun o H3 => o = none ∧ H3 = H2) I2 ⟨rfl, rfl⟩) fun vu s3 ⟨u, H3, I3, pu, eu, e3⟩ => ?_
  subst eu e3
  refine thn (hst.run pins s3 σ H3 (fun o H4 => o = some (-1) ∧ H4 = H3) I3 ⟨1, rfl, -1, rfl, rfl, rfl⟩) fun vs s4 ⟨o, H4, I4, ps, eo, e4⟩ => ?_
  subst eo e4
  cases pl
  cases pu
  have I5 : Inv X pins σ H4 { s4 with heap := s4.heap.push { cls := .type "slice", data := .fields #[.none, .none, vs] } } := I4.kept (t' := s4.toks) fun b ob q => Heap.get?_push_of_some _ q
  obtain ⟨its, r, ht, hz⟩ := I5.tuple hx
  have hlen := r.length
  show wpAny (model X.prog X.w) X.A (subscriptTail e (.Slice none none (some (.UnaryOp .USub (.Constant (.int 1) k p1) p2)) p3) (.ref a) (.ref s4.heap.objs.size)) (EP X pins σ Q) X.xe { s4 with heap := s4.heap.push { cls := .type "slice", data := .fields #[.none, .none, vs] } }
  refine tail_any (ops := [.ref a, .ref s4.heap.objs.size]) ht.typeIs (slot_tuple_getitem.lookup) ?_ (by with_unfolding_all rfl)
  refine back_item ht (Heap.IsSliceOf.new _ .none .none vs) ps ?_ (by rw [List.size_toArray]; omega)
  refine ⟨.ref _, _, I5.laid (t' := s4.toks) (o := .tup xs.reverse) (fun b ob q => Heap.get?_push_of_some _ q) (Nat.le_refl _) ?_, rfl, q _ (I5.hok.fresh (Nat.le_refl _))⟩
  exact ⟨by rw [List.length_reverse]; exact hz, its.reverse, r.reverse, _, Heap.get?_push_size _ rfl, rfl, _, rfl⟩
end
/-! ### texts that are short and of plain signs -/
theorem okS {z : Str} : okStr z = true ↔ z.length ≤ 1000 ∧ ∀ c ∈ z.cps.toList, c < 128 := by
  unfold okStr
  rw [Bool.and_eq_true, List.all_eq_true]
  constructor
  · exact fun h => ⟨of_decide_eq_true h.1, fun c hc => of_decide_eq_true (h.2 c hc)⟩
  · exact fun h => ⟨decide_eq_true h.1, fun c hc => decide_eq_true (h.2 c hc)⟩
theorem tl_len (z : Str) : z.cps.toList.length = z.length := Array.length_toList
theorem cut_tl (z : Str) (lo hi : Option Int) : (cutS z lo hi).cps.toList = (z.cps.toList.drop (HT.sIx z.length 0 lo)).take (HT.sIx z.length z.length hi - HT.sIx z.length 0 lo) := rfl
theorem cut_len (z : Str) (lo hi : Option Int) : (cutS z lo hi).length ≤ z.length := by
  rw [← tl_len, cut_tl, List.length_take, List.length_drop, tl_len]
  omega
theorem cut_asc {z : Str} (lo hi : Option Int) (h : ∀ c ∈ z.cps.toList, c < 128) : ∀ c ∈ (cutS z lo hi).cps.toList, c < 128 := fun c hc => by
  rw [cut_tl] at hc
  exact h c (List.mem_of_mem_drop (List.mem_of_mem_take hc))
theorem cat_tl (a b : Str) : (a ++ b).cps.toList = a.cps.toList ++ b.cps.toList := TL.tl_append a b
theorem cat_len (a b : Str) : (a ++ b).length = a.length + b.length := by
  rw [← tl_len, cat_tl, List.length_append, tl_len, tl_len]
theorem cat_asc {a b : Str} (ha : ∀ c ∈ a.cps.toList, c < 128) (hb : ∀ c ∈ b.cps.toList, c < 128) : ∀ c ∈ (a ++ b).cps.toList, c < 128 := fun c hc => by
  rw [cat_tl] at hc
  rcases List.mem_append.mp hc with hc | hc
  · exact ha c hc
  · exact hb c hc
theorem one_asc {c : Nat} (h : c < 128) : ∀ x ∈ (⟨#[c]⟩ : Str).cps.toList, x < 128 := fun x hx => by
  rw [List.mem_singleton.mp hx]
  exact h
theorem upper_ok {z : Str} (h : ∀ c ∈ z.cps.toList, c < 128) : (Txt.upper z).length = z.length ∧ ∀ c ∈ (Txt.upper z).cps.toList, c < 128 := by
  have e := upper_S (a := z.cps.toList) (by rw [List.all_eq_true]; exact fun c hc => decide_eq_true (h c hc))
  rw [S_tl] at e
  rw [e]
  refine ⟨by rw [S_len, List.length_map, tl_len], fun c hc => ?_⟩
  obtain ⟨x, hx, rfl⟩ := List.mem_map.mp (show c ∈ z.cps.toList.map up1 from hc)
  have := h x hx
  unfold up1
  split <;> omega
end My

set_option Elab.async false
set_option linter.all false
set_option maxRecDepth 100000
namespace My
open PySem L2 SX
abbrev s_law_bent_name : Stmt := top 51
abbrev N_law_bent_name : List Str := ["_law_pen", "_law_name_here", "_law_at", "_law_sign", "_law_way"]
abbrev P_law_bent_name : List Str := ["_law_pen", "_law_name_here"]
theorem sc_law_bent_name : FnScope N_law_bent_name P_law_bent_name (defScope s_law_bent_name) := ⟨rfl, rfl, rfl, by decide +kernel, rfl, by decide +kernel, by decide +kernel⟩
mutual
def widD : PyData → Bool
  | .list xs => decide (xs.length ≤ 1000) && widAll xs
  | .tuple xs => decide (xs.length ≤ 1000) && widAll xs
  | .dict _ => false
  | _ => true
def widAll : List PyData → Bool
  | [] => true
  | d :: ds => widD d && widAll ds
end
theorem wid_form : ∀ {k : Nat} {D : PyData}, isForm k D = true → widD D = true := by
  intro k
  induction k with
  | zero =>
    intro D h
    rcases isForm_inv h with ⟨w, n, rfl, hw, hn⟩ | ⟨j, w, a, b, e, _⟩
    · rfl
    · cases e
  | succ k ih =>
    intro D h
    rcases isForm_inv h with ⟨w, n, rfl, hw, hn⟩ | ⟨j, w, a, b, e, rfl, hw, ha, hb⟩
    · rfl
    · obtain rfl : k = j := by omega
      show (true && (true && (widD a && (widD b && true)))) = true
      rw [ih ha, ih hb]
      rfl
def spBentName (K : PySem.W.Frag) : Sp := fun vs H Q _ => ∃ (d L : Addr) (ns : List Int) (n : Nat) (z : Str), vs = [.ref d, .str z] ∧ Pen K H d L ns n ∧ n < 2 ^ 39 ∧ isName z = true ∧
  ∀ v D H', Dp K H' v D → shortD D = true → widD D = true → D.depth ≤ 1 → Keep d H H' → Pen K H' d L ns (n + 4) → Q v H'
def zSigns : Str := Str.ofString "AZ_-~ .,()*|&+09az\n\t"
theorem signs_asc : ∀ c ∈ zSigns.cps.toList, c < 128 := by decide +kernel
theorem add_fit {a b : Str} (ha : a.length ≤ 400) (hb : b.length ≤ 400) : a.length + b.length ≤ sizeLine := Nat.le_of_lt (small1000 (by omega))
section
variable {P : Program} {w : World} {K : PySem.W.Frag} {mg : Str → Option Value} {base : Heap} {f : Addr} {fd : FuncData}
theorem ok_law_bent_name (T : Txt K mg) (F : Fun K "_law_bent_name" "_law_bent_name" s_law_bent_name f fd) (C_law_draw : Cal P w K mg base "_law_draw" 1 ["_law_pen", "_law_span"] (spDraw K)) (C_law_pick : Cal P w K mg base "_law_pick" 2 ["_law_pen", "_law_some"] (spPick K)) :
    FnOk P w K mg base CX0 3 f fd P_law_bent_name (spBentName K) := by
  refine F.ok sc_law_bent_name (fun vs H Q E h => ?_) (fun cdv A outer s H vs Q E hr h => ?_)
  · obtain ⟨d, L, ns, n, z, rfl, _⟩ := h
    rfl
  obtain ⟨d, L, ns, n, z, rfl, p, hn, hname, q⟩ := h
  refine ⟨_, (pss_cons (ps_par (i := 2) (j := 3) (by rfl) sc_law_bent_name.nd rfl rfl (by decide) rfl rfl (pa_cons (pe_callC C_law_draw hr (pa_cons (pv 0) (pa_cons (pe_callB call_len rfl T.len (by decide +kernel) (pa_cons (pv 1) pa_nil)) pa_nil))) (pa_cons (pe_callC C_law_pick hr (pa_cons (pv 0) (pa_cons pe_str pa_nil))) pa_nil)) (by rfl))
  (pss_cons (ps_set (i := 4) sc_law_bent_name.nd rfl (Or.inl rfl) (pe_callC C_law_draw hr (pa_cons (pv 0) (pa_cons pe_int pa_nil))))
  (pss_cons (ps_if (pt_cmpR op_lt (pv 4) pe_int (nomark _))
    (pss_one (ps_ret (pe_op op_add_str (pe_op op_add_str (pe_slice sl_str (pv 1) po_none (po_some (pv 2))) (pv 3)) (pe_slice sl_str (pv 1) (po_some (pe_op op_add (pv 2) pe_int)) po_none))))
    pss_nil)
  (pss_cons (ps_if (pt_cmpR op_lt (pv 4) pe_int (nomark _))
    (pss_one (ps_ret (pe_op op_add_str (pe_op op_add_str (pe_slice sl_str (pv 1) po_none (po_some (pv 2))) (pv 3)) (pe_slice sl_str (pv 1) (po_some (pv 2)) po_none))))
    pss_nil)
  (pss_cons (ps_if (pt_cmpR op_lt (pv 4) pe_int (nomark _))
    (pss_one (ps_ret (pe_slice sl_str (pe_op op_add_str (pv 1) pe_str) po_none (po_some (pe_op op_add pe_int (pe_callC C_law_draw hr (pa_cons (pv 0) (pa_cons pe_int pa_nil))))))))
    pss_nil)
  (pss_one (ps_ret (pe_ix ix_list (pe_lst (pa_cons (pe_op op_add_str (pe_slice sl_str (pv 1) po_none (po_some (pv 2))) (pe_slice sl_str (pv 1) (po_some (pe_op op_add (pv 2) pe_int)) po_none)) (pa_cons (pe_op op_add_str (pv 1) (pv 3)) (pa_cons (pe_upper (pv 1)) (pa_cons (pe_lst (pa_cons (pv 1) pa_nil)) (pa_cons pe_int pa_nil)))))) (pe_op op_sub (pv 4) pe_int) (fun _ _ => rfl))))))))), ?_⟩
  have hl12 := name_len hname
  have hz : z.length ≤ sizeLine := Nat.le_of_lt (small1000 (by omega))
  have hasc := (okS.mp (okStr_of_name hname)).2
  have hcl : ∀ lo hi, (cutS z lo hi).length ≤ 12 := fun lo hi => Nat.le_trans (cut_len z lo hi) hl12.2
  refine ⟨_, rfl, _, rfl, _, _, rfl, ⟨hz, rfl⟩, d, L, ns, n, _, rfl, p, by omega, by omega, by omega, fun at_ H1 a0 a1 k1 p1 => ?_⟩
  refine ⟨_, rfl, d, L, ns, n + 1, _, rfl, p1, by omega, .inr ⟨zSigns, rfl, by decide +kernel, by decide +kernel, fun c H2 hc k2 p2 => ⟨_, _, rfl, ?_⟩⟩⟩
  have hc1 := one_asc (signs_asc c hc)
  have l1 : (⟨#[c]⟩ : Str).length = 1 := rfl
  refine ⟨_, rfl, d, L, ns, n + 2, 12, rfl, p2, by omega, by decide, by decide, fun way H3 w0 w1 k3 p3 => ?_⟩
  have kk := (k1.trans k2).trans k3
  refine ⟨_, rfl, _, _, rfl, rfl, _, rfl, ?_⟩
  have fin : ∀ (t : Str) H', t.length ≤ 400 → (∀ c ∈ t.cps.toList, c < 128) → Keep d H H' → Pen K H' d L ns (n + 4) → Q (.str t) H' := fun t H' hl ha hk hp =>
    q (.str t) (.str t) H' (.str t) (by unfold shortD; exact okS.mpr ⟨by omega, ha⟩) rfl (by simp [PyData.depth]) hk hp
  refine ite2 (fun c1 => ?_) (fun c1 => ?_)
  · refine ⟨_, rfl, _, rfl, _, rfl, z, rfl, hz, _, rfl, _, _, rfl, rfl, add_fit (by have := hcl none (some at_); omega) (by omega), _, rfl, _, rfl, _, _, rfl, rfl, _, rfl, z, rfl, hz, _, _, rfl, rfl, add_fit (by rw [cat_len]; have := hcl none (some at_); omega) (by have := hcl (some (at_ + 1)) none; omega), ?_⟩
    refine fin _ _ ?_ (cat_asc (cat_asc (cut_asc _ _ hasc) hc1) (cut_asc _ _ hasc)) kk (p3.mono (by omega))
    rw [cat_len, cat_len]
    have h1 := hcl none (some at_)
    have h2 := hcl (some (at_ + 1)) none
    omega
  refine ⟨_, rfl, _, _, rfl, rfl, _, rfl, ?_⟩
  refine ite2 (fun c2 => ?_) (fun c2 => ?_)
  · refine ⟨_, rfl, _, rfl, _, rfl, z, rfl, hz, _, rfl, _, _, rfl, rfl, add_fit (by have := hcl none (some at_); omega) (by omega), _, rfl, _, rfl, _, rfl, z, rfl, hz, _, _, rfl, rfl, add_fit (by rw [cat_len]; have := hcl none (some at_); omega) (by have := hcl (some at_) none; omega), ?_⟩
    refine fin _ _ ?_ (cat_asc (cat_asc (cut_asc _ _ hasc) hc1) (cut_asc _ _ hasc)) kk (p3.mono (by omega))
    rw [cat_len, cat_len]
    have h1 := hcl none (some at_)
    have h2 := hcl (some at_) none
    omega
  refine ⟨_, rfl, _, _, rfl, rfl, _, rfl, ?_⟩
  refine ite2 (fun c3 => ?_) (fun c3 => ?_)
  · have hm : (Str.ofString "a1b2c3d4e5f6").length ≤ 100 := by decide +kernel
    have hm2 : ∀ c ∈ (Str.ofString "a1b2c3d4e5f6").cps.toList, c < 128 := by decide +kernel
    refine ⟨_, rfl, _, _, rfl, rfl, add_fit (by omega) (by omega), _, rfl, d, L, ns, n + 3, 2, rfl, p3, by omega, by decide, by decide, fun r H4 r0 r1 k4 p4 => ?_⟩
    refine ⟨_, _, rfl, rfl, _, rfl, _, rfl, by rw [cat_len]; exact Nat.le_of_lt (small1000 (by omega)), ?_⟩
    refine fin _ _ ?_ (cut_asc _ _ (cat_asc hasc hm2)) (kk.trans k4) (p4.mono (by omega))
    refine Nat.le_trans (cut_len _ _ _) ?_
    rw [cat_len]
    omega
  · have c3' : ¬ way < 7 := fun z => c3 (decide_eq_true z)
    refine ⟨_, rfl, _, rfl, _, rfl, z, rfl, hz, _, rfl, _, rfl, _, _, rfl, rfl, _, rfl, z, rfl, hz, _, _, rfl, rfl, add_fit (by have := hcl none (some at_); omega) (by have := hcl (some (at_ + 1)) none; omega), ?_⟩
    refine ⟨_, rfl, _, rfl, _, _, rfl, rfl, add_fit (by omega) (by omega), _, rfl, ⟨_, rfl⟩, _, rfl, rfl, by omega, _, rfl, by show 1 ≤ sizeLine; decide, fun p5 n5 => ⟨by show 5 ≤ sizeLine; decide, fun p6 n6 => ?_⟩⟩
    have kf : Keep d H (upd (upd H3 p5 (.lst [.str z])) p6 (.lst [.str (cutS z none (some at_) ++ cutS z (some (at_ + 1)) none), .str (z ++ ⟨#[c]⟩), .str (Txt.upper z), .ref p5, .int 5])) := kk.trans ((Same.toKeep (same_new n5 _)).trans (Same.toKeep (same_new n6 _)))
    have pf := (((p3.same (same_new n5 (.lst [.str z]))).same (same_new n6 (.lst [.str (cutS z none (some at_) ++ cutS z (some (at_ + 1)) none), .str (z ++ ⟨#[c]⟩), .str (Txt.upper z), .ref p5, .int 5]))).mono (show n + 2 + 1 ≤ n + 4 by omega))
    have e5 := same_new n6 (.lst [.str (cutS z none (some at_) ++ cutS z (some (at_ + 1)) none), .str (z ++ ⟨#[c]⟩), .str (Txt.upper z), .ref p5, .int 5]) _ _ (upd_same (H := H3) (a := p5) (o := .lst [.str z]))
    have hup := upper_ok hasc
    have hway : way = 7 ∨ way = 8 ∨ way = 9 ∨ way = 10 ∨ way = 11 := by omega
    rcases hway with rfl | rfl | rfl | rfl | rfl
    · refine ⟨_, rfl, _, _, rfl, rfl, p6, _, _, _, rfl, rfl, SqL.of upd_same, rfl, ?_⟩
      refine fin _ _ ?_ (cat_asc (cut_asc _ _ hasc) (cut_asc _ _ hasc)) kf pf
      rw [cat_len]
      have h1 := hcl none (some at_)
      have h2 := hcl (some (at_ + 1)) none
      omega
    · refine ⟨_, rfl, _, _, rfl, rfl, p6, _, _, _, rfl, rfl, SqL.of upd_same, rfl, ?_⟩
      refine fin _ _ ?_ (cat_asc hasc hc1) kf pf
      rw [cat_len]
      omega
    · refine ⟨_, rfl, _, _, rfl, rfl, p6, _, _, _, rfl, rfl, SqL.of upd_same, rfl, ?_⟩
      exact fin _ _ (by omega) hup.2 kf pf
    · refine ⟨_, rfl, _, _, rfl, rfl, p6, _, _, _, rfl, rfl, SqL.of upd_same, rfl, ?_⟩
      refine q (.ref p5) (.list [.str z]) _ (.lst (SqL.of e5) (.cons (.str z) .nil)) ?_ rfl (by simp [PyData.depth, PyData.depthAll]) kf pf
      simp only [shortD, shortAll, okStr_of_name hname, Bool.and_self]
    · refine ⟨_, rfl, _, _, rfl, rfl, p6, _, _, _, rfl, rfl, SqL.of upd_same, rfl, ?_⟩
      exact q (.int 5) (.int 5) _ (.int 5) (by simp only [shortD]) rfl (by simp [PyData.depth]) kf pf
end
end My

set_option Elab.async false
set_option linter.all false
set_option maxRecDepth 100000
namespace My
open PySem PySem.Spec PyProof.Rows L2 SX
/-! ### the same rules, the heap behind them left open -/
/-- a new object -/
def New (o : HO) (Q : VK) (H : Hp) : Prop := ∀ p H', Same H H' → H' p = some o → Q (.ref p) H'
/-- a tuple, new or not -/
def NewT (K : PySem.W.Frag) (xs : List V) (Q : VK) (H : Hp) : Prop := ∀ p H', Same H H' → SqT K H' p xs → Q (.ref p) H'
theorem New.go {o : HO} {Q : VK} {H : Hp} (h : New o Q H) : ∀ p, H p = none → Q (.ref p) (upd H p o) := fun p np => h p _ (same_new np o) upd_same
theorem NewT.go {K : PySem.W.Frag} {xs : List V} {Q : VK} {H : Hp} (h : NewT K xs Q H) : ∀ p, H p = none → Q (.ref p) (upd H p (.tup xs)) := fun p np => h p _ (same_new np _) (SqT.of upd_same)
theorem le1k {n : Nat} (h : Nat.ble n 1000 = true := by rfl) : n ≤ 1000 := Nat.le_of_ble_eq_true h
theorem fit1000 {n : Nat} (h : n ≤ 1000) : n ≤ sizeLine := Nat.le_of_lt (small1000 h)
def nTup (K : PySem.W.Frag) (t : TA) : TE := fun σ H Q => t σ H fun xs H1 => xs.length ≤ 1000 ∧ NewT K xs Q H1
def nLst (t : TA) : TE := fun σ H Q => t σ H fun xs H1 => xs.length ≤ 1000 ∧ New (.lst xs) Q H1
def nCatT (K : PySem.W.Frag) : R2 := fun x y H Q => ∃ a b xs ys, x = .ref a ∧ y = .ref b ∧ SqT K H a xs ∧ SqT K H b ys ∧ xs.length + ys.length ≤ 1000 ∧ NewT K (xs ++ ys) Q H
def nCatL : R2 := fun x y H Q => ∃ l b xs zs, x = .ref l ∧ y = .ref b ∧ H l = some (.lst xs) ∧ H b = some (.lst zs) ∧ xs.length + zs.length ≤ 1000 ∧ New (.lst (xs ++ zs)) Q H
def nSlT (K : PySem.W.Frag) : V → Option Int → Option Int → Hp → VK → Prop := fun x lo hi H Q => ∃ a xs, x = .ref a ∧ SqT K H a xs ∧ NewT K (cutV xs lo hi) Q H
def nListOf (K : PySem.W.Frag) : List V → Hp → VK → Prop := fun xs H Q => ∃ p ys, xs = [.ref p] ∧ (SqL K H p ys ∨ SqT K H p ys) ∧ New (.lst ys) Q H
section
variable {X : Cx} {es : List Expr} {t : TA} {pos : Pos}
theorem pe_tupN {x1} (h : PA X es t) : PE X (.Tuple es x1 pos) (nTup X.K t) := by
  refine ⟨fun pins s σ H Q I hq => wpAny_Tuple_spliced (thn (h.run pos pins s σ H _ I hq) fun us s1 ⟨xs, H1, I1, r, z, q⟩ => ⟨by rw [← r.length]; exact fit1000 z, ?_⟩)⟩
  have hf := I1.hok.fresh (Nat.le_refl s1.heap.objs.size)
  exact ⟨.ref s1.heap.objs.size, upd H1 s1.heap.objs.size (.tup xs), I1.laid (t' := s1.toks) (fun b u e => Heap.get?_push_of_some _ e) (Nat.le_refl _) ⟨fit1000 z, us, r, ⟨_, Heap.get?_push_size _ rfl, rfl, _, rfl⟩⟩, rfl, q.go _ hf⟩
theorem pe_lstN (h : PA X es t) : PE X (.List es pos) (nLst t) := by
  refine ⟨fun pins s σ H Q I hq => wpAny_List_spliced (thn (h.run pos pins s σ H _ I hq) fun us s1 ⟨xs, H1, I1, r, z, q⟩ => ⟨by rw [← r.length]; exact fit1000 z, ?_⟩)⟩
  have hf := I1.hok.fresh (Nat.le_refl s1.heap.objs.size)
  exact ⟨.ref s1.heap.objs.size, upd H1 s1.heap.objs.size (.lst xs), I1.laid (t' := s1.toks) (fun b u e => Heap.get?_push_of_some _ e) (Nat.le_refl _) ⟨fit1000 z, us, 0, r, Heap.get?_push_size _ rfl⟩, rfl, q.go _ hf⟩
theorem op_catTN : OpR X (binaryOp .Add) (nCatT X.K) := by
  intro pins s σ H x y v u Q I rx ry ⟨a, b, xs, ys, ex, ey, hx, hy, hl, q⟩
  refine op_catA pins s σ H x y v u Q I rx ry ⟨a, b, xs, ys, ex, ey, hx, hy, fit1000 hl, fun e => ?_, fun _ e => ?_, fun _ _ => q.go⟩
  · subst e
    exact q b H (Same.refl H) hy
  · subst e
    exact q a H (Same.refl H) (by rw [List.append_nil]; exact hx)
theorem op_catLN : OpR X (binaryOp .Add) nCatL := by
  intro pins s σ H x y v u Q I rx ry ⟨l, b, xs, zs, ex, ey, hx, hy, hl, q⟩
  exact op_cat pins s σ H x y v u Q I rx ry ⟨l, b, xs, zs, ex, ey, hx, hy, fit1000 hl, q.go⟩
theorem sl_tupN : SlR X (nSlT X.K) := by
  intro pins s σ H x v vl vu lo hi sl Q I rx hs pl pu ⟨a, xs, ex, hx, q⟩
  refine sl_tupA pins s σ H x v vl vu lo hi sl Q I rx hs pl pu ⟨a, xs, ex, hx, fun ⟨e1, e2⟩ => ?_, fun _ => q.go⟩
  refine q a H (Same.refl H) ?_
  have e : cutV xs lo hi = xs := by
    unfold cutV
    rw [e1, e2, List.drop_zero, Nat.sub_zero, List.take_length]
  rw [e]
  exact hx
theorem call_listN : CallR X (.type "list") (nListOf X.K) := by
  intro pins s σ H xs us Q I r ⟨p, ys, ex, hy, q⟩
  exact call_list_of pins s σ H xs us Q I r ⟨p, ys, ex, hy, q.go⟩
end
abbrev s_law_bent : Stmt := top 52
abbrev N_law_bent : List Str := ["_law_pen", "_law_form", "_law_at", "_law_rest", "_law_odd"]
abbrev P_law_bent : List Str := ["_law_pen", "_law_form"]
theorem sc_law_bent : FnScope N_law_bent P_law_bent (defScope s_law_bent) := ⟨rfl, rfl, rfl, by decide +kernel, rfl, by decide +kernel, by decide +kernel⟩
def spBent (K : PySem.W.Frag) (k : Nat) : Sp := fun vs H Q _ => ∃ (d L : Addr) (ns : List Int) (n : Nat) (v : V) (D : PyData) (k' : Nat), vs = [.ref d, v] ∧ k' < k ∧ k' ≤ 40 ∧ Pen K H d L ns n ∧ n + 3 * k' < 2 ^ 38 ∧ Dp K H v D ∧ isForm k' D = true ∧
  ∀ v' D' H', Dp K H' v' D' → shortD D' = true → widD D' = true → D'.depth ≤ k' + 4 → Keep d H H' → Pen K H' d L ns (n + (2 * k' + 5)) → Q v' H'
theorem okStr_s : ∀ w ∈ leafW ++ halfW, okStr (w ++ Str.ofString "s") = true := by decide +kernel
theorem word_len : ∀ w ∈ leafW ++ halfW, w.length ≤ 100 := by decide +kernel
section
variable {P : Program} {w : World} {K : PySem.W.Frag} {mg : Str → Option Value} {base : Heap} {f : Addr} {fd : FuncData}
set_option maxHeartbeats 4000000 in
theorem ok_law_bent {k : Nat} (T : Txt K mg) (F : Fun K "_law_bent" "_law_bent" s_law_bent f fd) (C_law_draw : Cal P w K mg base "_law_draw" 1 ["_law_pen", "_law_span"] (spDraw K)) (C_law_pick : Cal P w K mg base "_law_pick" 2 ["_law_pen", "_law_some"] (spPick K))
    (C_law_bent_name : Cal P w K mg base "_law_bent_name" 3 P_law_bent_name (spBentName K)) (C_law_bent : Cal P w K mg base "_law_bent" (3 + k) P_law_bent (spBent K k)) : FnOk P w K mg base CX0 (3 + k + 1) f fd P_law_bent (spBent K (k + 1)) := by
  refine F.ok sc_law_bent (fun vs H Q E h => ?_) (fun cdv A outer s H vs Q E hr h => ?_)
  · obtain ⟨d, L, ns, n, v, D, k', rfl, _⟩ := h
    rfl
  obtain ⟨d, L, ns, n, v, D, k', rfl, hk, hk40, p, hn, hv, hD, q⟩ := h
  refine ⟨_, (pss_cons (ps_if (PW.pt (pw_and (pt_cmpR op_eq (pe_callB call_len rfl T.len (by decide +kernel) (pa_cons (pv 1) pa_nil)) pe_int (nomark _)) (pw_and1 (pt_cmpR op_gt (pe_callC C_law_draw hr (pa_cons (pv 0) (pa_cons pe_int pa_nil))) pe_int (nomark _)))))
    (pss_cons (ps_set (i := 2) sc_law_bent.nd rfl (Or.inl rfl) (pe_op op_add pe_int (pe_callC C_law_draw hr (pa_cons (pv 0) (pa_cons pe_int pa_nil)))))
    (pss_one (ps_ret (pe_op op_catTN (pe_op op_catTN (pe_slice sl_tupN (pv 1) po_none (po_some (pv 2))) (pe_tupN (pa_cons (pe_callC C_law_bent hr (pa_cons (pv 0) (pa_cons (pe_ix ix_tup (pv 1) (pv 2) (fun _ _ => rfl)) pa_nil))) pa_nil))) (pe_slice sl_tupN (pv 1) (po_some (pe_op op_add (pv 2) pe_int)) po_none)))))
    pss_nil)
  (pss_cons (ps_if (PW.pt (pw_and (pt_cmpR op_eq (pe_callB call_len rfl T.len (by decide +kernel) (pa_cons (pv 1) pa_nil)) pe_int (nomark _)) (pw_and1 (pt_cmpR op_eq (pe_callC C_law_draw hr (pa_cons (pv 0) (pa_cons pe_int pa_nil))) pe_int (nomark _)))))
    (pss_one (ps_ret (pe_tupN (pa_cons (pe_ix ix_tup (pv 1) pe_int (fun _ _ => rfl)) (pa_cons (pe_callC C_law_bent_name hr (pa_cons (pv 0) (pa_cons (pe_ix ix_tup (pv 1) pe_int (fun _ _ => rfl)) pa_nil))) pa_nil)))))
    pss_nil)
  (pss_cons (ps_set (i := 3) sc_law_bent.nd rfl (Or.inl rfl) (pe_slice sl_tupN (pv 1) (po_some pe_int) po_none))
  (pss_cons (ps_set (i := 4) sc_law_bent.nd rfl (Or.inl rfl) (pe_lstN (pa_cons (pe_callTy call_listN rfl T.list (by decide +kernel) (pa_cons (pv 1) pa_nil)) (pa_cons (pe_op op_catTN (pv 1) (pe_tupN (pa_cons (pe_ix ix_tup (pv 1) (pe_un un_neg pe_int) (fun _ _ => rfl)) pa_nil))) (pa_cons (pe_slice sl_tupN (pv 1) po_none (po_some (pe_un un_neg pe_int))) (pa_cons (pe_op op_catTN (pe_tupN (pa_cons (pe_op op_add_str (pe_ix ix_tup (pv 1) pe_int (fun _ _ => rfl)) pe_str) pa_nil)) (pv 3)) (pa_cons (pe_op op_catTN (pe_tupN (pa_cons pe_int pa_nil)) (pv 3)) (pa_cons (pe_ix ix_tup (pv 1) pe_int (fun _ _ => rfl)) (pa_cons pe_non (pa_cons pe_bl (pa_cons (pe_tupN pa_nil) pa_nil)))))))))))
  (pss_cons (ps_set (i := 4) sc_law_bent.nd rfl (Or.inl rfl) (pe_op op_catLN (pv 4) (pe_lstN (pa_cons (pe_op op_catTN (pe_tupN (pa_cons pe_str pa_nil)) (pv 3)) (pa_cons (pe_op op_catTN (pe_tupN (pa_cons pe_str pa_nil)) (pv 3)) (pa_cons (pe_revT (pv 1)) (pa_cons (pe_op op_catTN (pe_tupN (pa_cons (pe_ix ix_tup (pv 1) pe_int (fun _ _ => rfl)) (pa_cons (pe_lstN (pa_cons (pe_ix ix_tup (pv 1) pe_int (fun _ _ => rfl)) pa_nil)) pa_nil))) (pe_slice sl_tupN (pv 1) (po_some pe_int) po_none)) (pa_cons (pe_tupN (pa_cons (pv 1) pa_nil)) pa_nil))))))))
  (pss_one (ps_ret (pe_callC C_law_pick hr (pa_cons (pv 0) (pa_cons (pv 4) pa_nil)))))))))), ?_⟩
  have kd := p.isDk
  have hshort := short_form hD
  have hdep := depth_form hD
  -- what is left when the form itself is changed, for both sorts of forms
  rcases isForm_inv hD with ⟨wd, nm, rfl, hw, hnm⟩ | ⟨j, wd, a, b, rfl, rfl, hw, ha, hb⟩
  · cases hv with | @tup t xs _ hT hA => cases hA with | @cons x0 xs1 _ _ h0 hA => cases hA with | @cons x1 xs2 _ _ h1 hN =>
    cases hN
    cases h0
    cases h1
    refine ⟨_, rfl, _, _, rfl, .inr ⟨_, hT, rfl⟩, rfl, _, rfl, ?_⟩
    refine iteF ⟨_, rfl, _, _, rfl, .inr ⟨_, hT, rfl⟩, rfl, _, rfl, ?_⟩
    refine iteT ⟨_, rfl, d, L, ns, n, 2, rfl, p, by omega, by decide, by decide, fun r H1 r0 r1 k1 p1 => ⟨rfl, _, rfl, ?_⟩⟩
    refine ite2 (fun c1 => ?_) (fun c1 => ?_)
    · refine ⟨_, rfl, t, _, _, _, rfl, rfl, seqT_keep kd k1 hT, rfl, _, rfl, _, rfl, t, _, _, _, rfl, rfl, seqT_keep kd k1 hT, rfl, d, L, ns, n + 1, nm, rfl, p1, by omega, hnm, fun v' D' H2 hd' hs' hw' hdp' k2 p2 => ⟨by show 2 ≤ 1000; decide, fun c3 H3 S3 g3 => ?_⟩⟩
      refine q (.ref c3) (.tuple [.str wd, D']) H3 (.tup g3 (.cons (.str _) (.cons (dp_same S3 _ _ hd') .nil))) ?_ ?_ ?_ ((k1.trans k2).trans (Same.toKeep S3)) ((p2.same S3).mono (by omega))
      · simp only [shortD, shortAll, okStr_leaf wd hw, hs', Bool.and_self]
      · simp [widD, widAll, hw']
      · simp only [PyData.depth, PyData.depthAll]
        omega
    · have okw := okStr_leaf wd hw
      have oks := okStr_s wd (List.mem_append_left _ hw)
      have okb : okStr (Str.ofString "both") = true := by decide +kernel
      have okc : okStr (Str.ofString "counter") = true := by decide +kernel
      have sa : okStr nm = true := okStr_of_name hnm
      have hwl := word_len wd (List.mem_append_left _ hw)
      have hT1 := seqT_keep kd k1 hT
      have W0 : Same H1 H1 := Same.refl H1
      refine ⟨_, rfl, _, rfl, t, _, rfl, (seqT_same W0 hT1), fun cR hp1 S1 g1 => ?_⟩
      have W1 := W0.trans S1
      refine ⟨_, rfl, t, _, rfl, .inr (seqT_same W1 hT1), fun l1 hp2 S2 g2 => ?_⟩
      have W2 := W1.trans S2
      refine ⟨_, rfl, _, rfl, _, rfl, t, _, _, _, rfl, rfl, (seqT_same W2 hT1), rfl, le1k, fun c2 hp3 S3 g3 => ?_⟩
      have W3 := W2.trans S3
      refine ⟨t, c2, _, _, rfl, rfl, (seqT_same W3 hT1), g3, le1k, fun c3 hp4 S4 g4 => ?_⟩
      have W4 := W3.trans S4
      refine ⟨_, rfl, _, rfl, _, rfl, t, _, rfl, (seqT_same W4 hT1), fun c4 hp5 S5 g5 => ?_⟩
      have W5 := W4.trans S5
      refine ⟨_, rfl, t, _, _, _, rfl, rfl, (seqT_same W5 hT1), rfl, _, _, rfl, rfl, add_fit (by omega) (by decide +kernel), le1k, fun c5 hp6 S6 g6 => ?_⟩
      have W6 := W5.trans S6
      refine ⟨_, rfl, c5, cR, _, _, rfl, rfl, g6, (seqT_same (((((S2).trans S3).trans S4).trans S5).trans S6) g1), le1k, fun c6 hp7 S7 g7 => ?_⟩
      have W7 := W6.trans S7
      refine ⟨le1k, fun c7 hp8 S8 g8 => ?_⟩
      have W8 := W7.trans S8
      refine ⟨_, rfl, c7, cR, _, _, rfl, rfl, g8, (seqT_same (((((((S2).trans S3).trans S4).trans S5).trans S6).trans S7).trans S8) g1), le1k, fun c8 hp9 S9 g9 => ?_⟩
      have W9 := W8.trans S9
      refine ⟨_, rfl, t, _, _, _, rfl, rfl, (seqT_same W9 hT1), rfl, le1k, fun c9 hp10 S10 g10 => ?_⟩
      have W10 := W9.trans S10
      refine ⟨le1k, fun l2 hp11 S11 g11 => ?_⟩
      have W11 := W10.trans S11
      refine ⟨_, rfl, le1k, fun c11 hp12 S12 g12 => ?_⟩
      have W12 := W11.trans S12
      refine ⟨_, rfl, c11, cR, _, _, rfl, rfl, g12, (seqT_same (((((((((((S2).trans S3).trans S4).trans S5).trans S6).trans S7).trans S8).trans S9).trans S10).trans S11).trans S12) g1), le1k, fun c12 hp13 S13 g13 => ?_⟩
      have W13 := W12.trans S13
      refine ⟨le1k, fun c13 hp14 S14 g14 => ?_⟩
      have W14 := W13.trans S14
      refine ⟨_, rfl, c13, cR, _, _, rfl, rfl, g14, (seqT_same (((((((((((((S2).trans S3).trans S4).trans S5).trans S6).trans S7).trans S8).trans S9).trans S10).trans S11).trans S12).trans S13).trans S14) g1), le1k, fun c14 hp15 S15 g15 => ?_⟩
      have W15 := W14.trans S15
      refine ⟨_, rfl, t, _, rfl, (seqT_same W15 hT1), fun c15 n15 => ?_⟩
      obtain ⟨hp16, e16, S16, g16⟩ : ∃ h, upd hp15 c15 (.tup ([.str wd, .str nm] : List V).reverse) = h ∧ Same hp15 h ∧ SqT K h c15 ([.str wd, .str nm] : List V).reverse := ⟨_, rfl, same_new n15 _, SqT.of upd_same⟩
      rw [e16]
      have W16 := W15.trans S16
      refine ⟨_, rfl, t, _, _, _, rfl, rfl, (seqT_same W16 hT1), rfl, _, rfl, t, _, _, _, rfl, rfl, (seqT_same W16 hT1), rfl, le1k, fun l16 hp17 S17 g17 => ?_⟩
      have W17 := W16.trans S17
      refine ⟨le1k, fun c17 hp18 S18 g18 => ?_⟩
      have W18 := W17.trans S18
      refine ⟨_, rfl, _, rfl, t, _, rfl, (seqT_same W18 hT1), fun c18 hp19 S19 g19 => ?_⟩
      have W19 := W18.trans S19
      refine ⟨c17, c18, _, _, rfl, rfl, (seqT_same (S19) g18), g19, le1k, fun c19 hp20 S20 g20 => ?_⟩
      have W20 := W19.trans S20
      refine ⟨_, rfl, le1k, fun c20 hp21 S21 g21 => ?_⟩
      have W21 := W20.trans S21
      refine ⟨le1k, fun l21 hp22 S22 g22 => ?_⟩
      have W22 := W21.trans S22
      refine ⟨l2, l21, _, _, rfl, rfl, (((((((((((S12).trans S13).trans S14).trans S15).trans S16).trans S17).trans S18).trans S19).trans S20).trans S21).trans S22) _ _ g11, g22, le1k, fun l22 hp23 S23 g23 => ?_⟩
      have W23 := W22.trans S23
      have pV := p1.same W23
      refine ⟨_, rfl, _, rfl, d, L, ns, n + 1, _, rfl, pV, by omega, .inl ⟨l22, _, rfl, SqL.of g23, by simp, le1k, fun x HW hx kW pW => ?_⟩⟩
      have kF := (k1.trans (Same.toKeep W23)).trans kW
      have kdV := pV.isDk
      have two : ∀ i : Nat, i = i := fun _ => rfl
      have fin : ∀ D' : PyData, Dp K HW x D' → shortD D' = true → widD D' = true → D'.depth ≤ k' + 4 → Q x HW := fun D' e1 e2 ew e3 => q x D' HW e1 e2 ew e3 kF (pW.mono (by omega))
      simp only [List.cons_append, List.nil_append, List.mem_cons, List.not_mem_nil, or_false] at hx
      rcases hx with rfl | rfl | rfl | rfl | rfl | rfl | rfl | rfl | rfl | rfl | rfl | rfl | rfl | rfl
      · refine fin (.list [.str wd, .str nm]) (.lst (seqL_keep kdV kW (SqL.of ((((((((((((((((((((((S3).trans S4).trans S5).trans S6).trans S7).trans S8).trans S9).trans S10).trans S11).trans S12).trans S13).trans S14).trans S15).trans S16).trans S17).trans S18).trans S19).trans S20).trans S21).trans S22).trans S23) _ _ g2))) (.cons (.str _) (.cons (.str nm) .nil))) ?_ ?_ ?_
        · first | exact sa | simp only [shortD, shortAll, okw, oks, okb, okc, sa, Bool.and_self]
        · first | rfl | simp [widD, widAll]
        · first | omega | (simp only [PyData.depth, PyData.depthAll]; omega)
      · refine fin (.tuple [.str wd, .str nm, .str nm]) (.tup (seqT_keep kdV kW (seqT_same (((((((((((((((((((S5).trans S6).trans S7).trans S8).trans S9).trans S10).trans S11).trans S12).trans S13).trans S14).trans S15).trans S16).trans S17).trans S18).trans S19).trans S20).trans S21).trans S22).trans S23) g4)) (.cons (.str _) (.cons (.str nm) (.cons (.str nm) .nil)))) ?_ ?_ ?_
        · first | exact sa | simp only [shortD, shortAll, okw, oks, okb, okc, sa, Bool.and_self]
        · first | rfl | simp [widD, widAll]
        · first | omega | (simp only [PyData.depth, PyData.depthAll]; omega)
      · refine fin (.tuple [.str wd]) (.tup (seqT_keep kdV kW (seqT_same ((((((((((((((((((S6).trans S7).trans S8).trans S9).trans S10).trans S11).trans S12).trans S13).trans S14).trans S15).trans S16).trans S17).trans S18).trans S19).trans S20).trans S21).trans S22).trans S23) g5)) (.cons (.str _) .nil)) ?_ ?_ ?_
        · first | exact sa | simp only [shortD, shortAll, okw, oks, okb, okc, sa, Bool.and_self]
        · first | rfl | simp [widD, widAll]
        · first | omega | (simp only [PyData.depth, PyData.depthAll]; omega)
      · refine fin (.tuple [.str (wd ++ Str.ofString "s"), .str nm]) (.tup (seqT_keep kdV kW (seqT_same ((((((((((((((((S8).trans S9).trans S10).trans S11).trans S12).trans S13).trans S14).trans S15).trans S16).trans S17).trans S18).trans S19).trans S20).trans S21).trans S22).trans S23) g7)) (.cons (.str _) (.cons (.str nm) .nil))) ?_ ?_ ?_
        · first | exact sa | simp only [shortD, shortAll, okw, oks, okb, okc, sa, Bool.and_self]
        · first | rfl | simp [widD, widAll]
        · first | omega | (simp only [PyData.depth, PyData.depthAll]; omega)
      · refine fin (.tuple [.int 1, .str nm]) (.tup (seqT_keep kdV kW (seqT_same ((((((((((((((S10).trans S11).trans S12).trans S13).trans S14).trans S15).trans S16).trans S17).trans S18).trans S19).trans S20).trans S21).trans S22).trans S23) g9)) (.cons (.int _) (.cons (.str nm) .nil))) ?_ ?_ ?_
        · first | exact sa | simp only [shortD, shortAll, okw, oks, okb, okc, sa, Bool.and_self]
        · first | rfl | simp [widD, widAll]
        · first | omega | (simp only [PyData.depth, PyData.depthAll]; omega)
      · refine fin (.str nm) (.str nm) ?_ ?_ ?_
        · first | exact sa | simp only [shortD, shortAll, okw, oks, okb, okc, sa, Bool.and_self]
        · first | rfl | simp [widD, widAll]
        · first | omega | (simp only [PyData.depth, PyData.depthAll]; omega)
      · refine fin (.none) .non ?_ ?_ ?_
        · first | exact sa | simp only [shortD, shortAll, okw, oks, okb, okc, sa, Bool.and_self]
        · first | rfl | simp [widD, widAll]
        · first | omega | (simp only [PyData.depth, PyData.depthAll]; omega)
      · refine fin (.bool true) (.bl true) ?_ ?_ ?_
        · first | exact sa | simp only [shortD, shortAll, okw, oks, okb, okc, sa, Bool.and_self]
        · first | rfl | simp [widD, widAll]
        · first | omega | (simp only [PyData.depth, PyData.depthAll]; omega)
      · refine fin (.tuple []) (.tup (seqT_keep kdV kW (seqT_same (((((((((((((S11).trans S12).trans S13).trans S14).trans S15).trans S16).trans S17).trans S18).trans S19).trans S20).trans S21).trans S22).trans S23) g10)) .nil) ?_ ?_ ?_
        · first | exact sa | simp only [shortD, shortAll, okw, oks, okb, okc, sa, Bool.and_self]
        · first | rfl | simp [widD, widAll]
        · first | omega | (simp only [PyData.depth, PyData.depthAll]; omega)
      · refine fin (.tuple [.str (Str.ofString "both"), .str nm]) (.tup (seqT_keep kdV kW (seqT_same ((((((((((S14).trans S15).trans S16).trans S17).trans S18).trans S19).trans S20).trans S21).trans S22).trans S23) g13)) (.cons (.str _) (.cons (.str nm) .nil))) ?_ ?_ ?_
        · first | exact sa | simp only [shortD, shortAll, okw, oks, okb, okc, sa, Bool.and_self]
        · first | rfl | simp [widD, widAll]
        · first | omega | (simp only [PyData.depth, PyData.depthAll]; omega)
      · refine fin (.tuple [.str (Str.ofString "counter"), .str nm]) (.tup (seqT_keep kdV kW (seqT_same ((((((((S16).trans S17).trans S18).trans S19).trans S20).trans S21).trans S22).trans S23) g15)) (.cons (.str _) (.cons (.str nm) .nil))) ?_ ?_ ?_
        · first | exact sa | simp only [shortD, shortAll, okw, oks, okb, okc, sa, Bool.and_self]
        · first | rfl | simp [widD, widAll]
        · first | omega | (simp only [PyData.depth, PyData.depthAll]; omega)
      · refine fin (.tuple [.str nm, .str wd]) (.tup (seqT_keep kdV kW (seqT_same (((((((S17).trans S18).trans S19).trans S20).trans S21).trans S22).trans S23) g16)) (.cons (.str _) (.cons (.str _) .nil))) ?_ ?_ ?_
        · first | exact sa | simp only [shortD, shortAll, okw, oks, okb, okc, sa, Bool.and_self]
        · first | rfl | simp [widD, widAll]
        · first | omega | (simp only [PyData.depth, PyData.depthAll]; omega)
      · refine fin (.tuple [.str wd, .list [.str nm]]) (.tup (seqT_keep kdV kW (seqT_same (((S21).trans S22).trans S23) g20)) (.cons (.str _) (.cons (.lst (seqL_keep kdV kW (SqL.of (((((((S18).trans S19).trans S20).trans S21).trans S22).trans S23) _ _ g17))) (.cons (.str nm) .nil)) .nil))) ?_ ?_ ?_
        · first | exact sa | simp only [shortD, shortAll, okw, oks, okb, okc, sa, Bool.and_self]
        · first | rfl | simp [widD, widAll]
        · first | omega | (simp only [PyData.depth, PyData.depthAll]; omega)
      · refine fin (.tuple [.tuple [.str wd, .str nm]]) (.tup (seqT_keep kdV kW (seqT_same ((S22).trans S23) g21)) (.cons (.tup (seqT_keep kd kF hT) (.cons (.str _) (.cons (.str nm) .nil))) .nil)) ?_ ?_ ?_
        · first | exact sa | simp only [shortD, shortAll, okw, oks, okb, okc, sa, Bool.and_self]
        · first | rfl | simp [widD, widAll]
        · first | omega | (simp only [PyData.depth, PyData.depthAll]; omega)
  · cases hv with | @tup t xs _ hT hA => cases hA with | @cons x0 xs1 _ _ h0 hA => cases hA with | @cons x1 xs2 _ _ h1 hA => cases hA with | @cons x2 xs3 _ _ h2 hN =>
    cases hN
    cases h0
    refine ⟨_, rfl, _, _, rfl, .inr ⟨_, hT, rfl⟩, rfl, _, rfl, ?_⟩
    refine iteT ⟨_, rfl, d, L, ns, n, 4, rfl, p, by omega, by decide, by decide, fun r H1 r0 r1 k1 p1 => ⟨_, _, rfl, rfl, _, rfl, ?_⟩⟩
    refine ite2 (fun c1 => ?_) (fun c1 => ?_)
    · refine ⟨_, rfl, d, L, ns, n + 1, 2, rfl, p1, by omega, by decide, by decide, fun r2 H2 r20 r21 k2 p2 => ⟨_, _, rfl, rfl, ?_⟩⟩
      have kk := k1.trans k2
      have hr2 : r2 = 0 ∨ r2 = 1 := by omega
      rcases hr2 with rfl | rfl
      · refine ⟨_, rfl, _, rfl, _, rfl, t, _, rfl, seqT_keep kd kk hT, fun c1 H3 S3 g3 => ?_⟩
        refine ⟨_, rfl, _, rfl, _, rfl, t, _, _, x1, rfl, rfl, seqT_same S3 (seqT_keep kd kk hT), rfl, d, L, ns, n + 2, x1, a, j, rfl, by omega, by omega, p2.same S3, by omega, dp_same S3 _ _ (dp_keep kd kk _ _ h1), ha, fun v' D' H4 hd' hs' hw' hdp' k4 p4 => ⟨by show 1 ≤ 1000; decide, fun c2 H5 S5 g5 => ?_⟩⟩
        refine ⟨c1, c2, _, _, rfl, rfl, seqT_same S5 (seqT_keep (p2.same S3).isDk k4 g3), g5, le1k, fun c3 H6 S6 g6 => ?_⟩
        have kx := ((kk.trans (Same.toKeep S3)).trans k4).trans (Same.toKeep (S5.trans S6))
        refine ⟨_, rfl, _, rfl, _, _, rfl, rfl, _, rfl, t, _, rfl, seqT_keep kd kx hT, fun c4 H7 S7 g7 => ?_⟩
        refine ⟨c3, c4, _, _, rfl, rfl, seqT_same S7 g6, g7, le1k, fun c5 H8 S8 g8 => ?_⟩
        refine q (.ref c5) (.tuple [.str wd, D', b]) H8 (.tup (show SqT K H8 c5 [.str wd, v', x2] from g8) (.cons (.str _) (.cons (dp_same (S5.trans (S6.trans (S7.trans S8))) _ _ hd') (.cons (dp_keep kd (kx.trans (Same.toKeep (S7.trans S8))) _ _ h2) .nil)))) ?_ ?_ ?_ (kx.trans (Same.toKeep (S7.trans S8))) ((p4.same (S5.trans (S6.trans (S7.trans S8)))).mono (by omega))
        · simp only [shortD, shortAll, okStr_half wd hw, hs', short_form hb, Bool.and_self]
        · simp [widD, widAll, hw', wid_form hb]
        · have hdb := depth_form hb
          simp only [PyData.depth, PyData.depthAll]
          omega
      · refine ⟨_, rfl, _, rfl, _, rfl, t, _, rfl, seqT_keep kd kk hT, fun c1 H3 S3 g3 => ?_⟩
        refine ⟨_, rfl, _, rfl, _, rfl, t, _, _, x2, rfl, rfl, seqT_same S3 (seqT_keep kd kk hT), rfl, d, L, ns, n + 2, x2, b, j, rfl, by omega, by omega, p2.same S3, by omega, dp_same S3 _ _ (dp_keep kd kk _ _ h2), hb, fun v' D' H4 hd' hs' hw' hdp' k4 p4 => ⟨by show 1 ≤ 1000; decide, fun c2 H5 S5 g5 => ?_⟩⟩
        refine ⟨c1, c2, _, _, rfl, rfl, seqT_same S5 (seqT_keep (p2.same S3).isDk k4 g3), g5, le1k, fun c3 H6 S6 g6 => ?_⟩
        have kx := ((kk.trans (Same.toKeep S3)).trans k4).trans (Same.toKeep (S5.trans S6))
        refine ⟨_, rfl, _, rfl, _, _, rfl, rfl, _, rfl, t, _, rfl, seqT_keep kd kx hT, fun c4 H7 S7 g7 => ?_⟩
        refine ⟨c3, c4, _, _, rfl, rfl, seqT_same S7 g6, g7, le1k, fun c5 H8 S8 g8 => ?_⟩
        refine q (.ref c5) (.tuple [.str wd, a, D']) H8 (.tup (show SqT K H8 c5 [.str wd, x1, v'] from g8) (.cons (.str _) (.cons (dp_keep kd (kx.trans (Same.toKeep (S7.trans S8))) _ _ h1) (.cons (dp_same (S5.trans (S6.trans (S7.trans S8))) _ _ hd') .nil)))) ?_ ?_ ?_ (kx.trans (Same.toKeep (S7.trans S8))) ((p4.same (S5.trans (S6.trans (S7.trans S8)))).mono (by omega))
        · simp only [shortD, shortAll, okStr_half wd hw, hs', short_form ha, Bool.and_self]
        · simp [widD, widAll, hw', wid_form ha]
        · have hda := depth_form ha
          simp only [PyData.depth, PyData.depthAll]
          omega
    · refine ⟨_, rfl, _, _, rfl, .inr ⟨_, seqT_keep kd k1 hT, rfl⟩, rfl, _, rfl, ?_⟩
      have okw := okStr_half wd hw
      have oks := okStr_s wd (List.mem_append_right _ hw)
      have okb : okStr (Str.ofString "both") = true := by decide +kernel
      have okc : okStr (Str.ofString "counter") = true := by decide +kernel
      have sa := short_form ha
      have sb := short_form hb
      have wa := wid_form ha
      have wb := wid_form hb
      have hda := depth_form ha
      have hdb := depth_form hb
      have hwl := word_len wd (List.mem_append_right _ hw)
      have hT1 := seqT_keep kd k1 hT
      have W0 : Same H1 H1 := Same.refl H1
      refine ⟨_, rfl, _, rfl, t, _, rfl, (seqT_same W0 hT1), fun cR hp1 S1 g1 => ?_⟩
      have W1 := W0.trans S1
      refine ⟨_, rfl, t, _, rfl, .inr (seqT_same W1 hT1), fun l1 hp2 S2 g2 => ?_⟩
      have W2 := W1.trans S2
      refine ⟨_, rfl, _, rfl, _, rfl, t, _, _, _, rfl, rfl, (seqT_same W2 hT1), rfl, le1k, fun c2 hp3 S3 g3 => ?_⟩
      have W3 := W2.trans S3
      refine ⟨t, c2, _, _, rfl, rfl, (seqT_same W3 hT1), g3, le1k, fun c3 hp4 S4 g4 => ?_⟩
      have W4 := W3.trans S4
      refine ⟨_, rfl, _, rfl, _, rfl, t, _, rfl, (seqT_same W4 hT1), fun c4 hp5 S5 g5 => ?_⟩
      have W5 := W4.trans S5
      refine ⟨_, rfl, t, _, _, _, rfl, rfl, (seqT_same W5 hT1), rfl, _, _, rfl, rfl, add_fit (by omega) (by decide +kernel), le1k, fun c5 hp6 S6 g6 => ?_⟩
      have W6 := W5.trans S6
      refine ⟨_, rfl, c5, cR, _, _, rfl, rfl, g6, (seqT_same (((((S2).trans S3).trans S4).trans S5).trans S6) g1), le1k, fun c6 hp7 S7 g7 => ?_⟩
      have W7 := W6.trans S7
      refine ⟨le1k, fun c7 hp8 S8 g8 => ?_⟩
      have W8 := W7.trans S8
      refine ⟨_, rfl, c7, cR, _, _, rfl, rfl, g8, (seqT_same (((((((S2).trans S3).trans S4).trans S5).trans S6).trans S7).trans S8) g1), le1k, fun c8 hp9 S9 g9 => ?_⟩
      have W9 := W8.trans S9
      refine ⟨_, rfl, t, _, _, _, rfl, rfl, (seqT_same W9 hT1), rfl, le1k, fun c9 hp10 S10 g10 => ?_⟩
      have W10 := W9.trans S10
      refine ⟨le1k, fun l2 hp11 S11 g11 => ?_⟩
      have W11 := W10.trans S11
      refine ⟨_, rfl, le1k, fun c11 hp12 S12 g12 => ?_⟩
      have W12 := W11.trans S12
      refine ⟨_, rfl, c11, cR, _, _, rfl, rfl, g12, (seqT_same (((((((((((S2).trans S3).trans S4).trans S5).trans S6).trans S7).trans S8).trans S9).trans S10).trans S11).trans S12) g1), le1k, fun c12 hp13 S13 g13 => ?_⟩
      have W13 := W12.trans S13
      refine ⟨le1k, fun c13 hp14 S14 g14 => ?_⟩
      have W14 := W13.trans S14
      refine ⟨_, rfl, c13, cR, _, _, rfl, rfl, g14, (seqT_same (((((((((((((S2).trans S3).trans S4).trans S5).trans S6).trans S7).trans S8).trans S9).trans S10).trans S11).trans S12).trans S13).trans S14) g1), le1k, fun c14 hp15 S15 g15 => ?_⟩
      have W15 := W14.trans S15
      refine ⟨_, rfl, t, _, rfl, (seqT_same W15 hT1), fun c15 n15 => ?_⟩
      obtain ⟨hp16, e16, S16, g16⟩ : ∃ h, upd hp15 c15 (.tup ([.str wd, x1, x2] : List V).reverse) = h ∧ Same hp15 h ∧ SqT K h c15 ([.str wd, x1, x2] : List V).reverse := ⟨_, rfl, same_new n15 _, SqT.of upd_same⟩
      rw [e16]
      have W16 := W15.trans S16
      refine ⟨_, rfl, t, _, _, _, rfl, rfl, (seqT_same W16 hT1), rfl, _, rfl, t, _, _, _, rfl, rfl, (seqT_same W16 hT1), rfl, le1k, fun l16 hp17 S17 g17 => ?_⟩
      have W17 := W16.trans S17
      refine ⟨le1k, fun c17 hp18 S18 g18 => ?_⟩
      have W18 := W17.trans S18
      refine ⟨_, rfl, _, rfl, t, _, rfl, (seqT_same W18 hT1), fun c18 hp19 S19 g19 => ?_⟩
      have W19 := W18.trans S19
      refine ⟨c17, c18, _, _, rfl, rfl, (seqT_same (S19) g18), g19, le1k, fun c19 hp20 S20 g20 => ?_⟩
      have W20 := W19.trans S20
      refine ⟨_, rfl, le1k, fun c20 hp21 S21 g21 => ?_⟩
      have W21 := W20.trans S21
      refine ⟨le1k, fun l21 hp22 S22 g22 => ?_⟩
      have W22 := W21.trans S22
      refine ⟨l2, l21, _, _, rfl, rfl, (((((((((((S12).trans S13).trans S14).trans S15).trans S16).trans S17).trans S18).trans S19).trans S20).trans S21).trans S22) _ _ g11, g22, le1k, fun l22 hp23 S23 g23 => ?_⟩
      have W23 := W22.trans S23
      have pV := p1.same W23
      refine ⟨_, rfl, _, rfl, d, L, ns, n + 1, _, rfl, pV, by omega, .inl ⟨l22, _, rfl, SqL.of g23, by simp, le1k, fun x HW hx kW pW => ?_⟩⟩
      have kF := (k1.trans (Same.toKeep W23)).trans kW
      have kdV := pV.isDk
      have two : ∀ i : Nat, i = i := fun _ => rfl
      have fin : ∀ D' : PyData, Dp K HW x D' → shortD D' = true → widD D' = true → D'.depth ≤ j + 1 + 4 → Q x HW := fun D' e1 e2 ew e3 => q x D' HW e1 e2 ew e3 kF (pW.mono (by omega))
      simp only [List.cons_append, List.nil_append, List.mem_cons, List.not_mem_nil, or_false] at hx
      rcases hx with rfl | rfl | rfl | rfl | rfl | rfl | rfl | rfl | rfl | rfl | rfl | rfl | rfl | rfl
      · refine fin (.list [.str wd, a, b]) (.lst (seqL_keep kdV kW (SqL.of ((((((((((((((((((((((S3).trans S4).trans S5).trans S6).trans S7).trans S8).trans S9).trans S10).trans S11).trans S12).trans S13).trans S14).trans S15).trans S16).trans S17).trans S18).trans S19).trans S20).trans S21).trans S22).trans S23) _ _ g2))) (.cons (.str _) (.cons (dp_keep kd kF _ _ h1) (.cons (dp_keep kd kF _ _ h2) .nil)))) ?_ ?_ ?_
        · first | exact sa | simp only [shortD, shortAll, okw, oks, okb, okc, sa, sb, Bool.and_self]
        · first | rfl | exact wa | exact wb | simp [widD, widAll, wa, wb]
        · first | omega | (simp only [PyData.depth, PyData.depthAll]; omega)
      · refine fin (.tuple [.str wd, a, b, b]) (.tup (seqT_keep kdV kW (seqT_same (((((((((((((((((((S5).trans S6).trans S7).trans S8).trans S9).trans S10).trans S11).trans S12).trans S13).trans S14).trans S15).trans S16).trans S17).trans S18).trans S19).trans S20).trans S21).trans S22).trans S23) g4)) (.cons (.str _) (.cons (dp_keep kd kF _ _ h1) (.cons (dp_keep kd kF _ _ h2) (.cons (dp_keep kd kF _ _ h2) .nil))))) ?_ ?_ ?_
        · first | exact sa | simp only [shortD, shortAll, okw, oks, okb, okc, sa, sb, Bool.and_self]
        · first | rfl | exact wa | exact wb | simp [widD, widAll, wa, wb]
        · first | omega | (simp only [PyData.depth, PyData.depthAll]; omega)
      · refine fin (.tuple [.str wd, a]) (.tup (seqT_keep kdV kW (seqT_same ((((((((((((((((((S6).trans S7).trans S8).trans S9).trans S10).trans S11).trans S12).trans S13).trans S14).trans S15).trans S16).trans S17).trans S18).trans S19).trans S20).trans S21).trans S22).trans S23) g5)) (.cons (.str _) (.cons (dp_keep kd kF _ _ h1) .nil))) ?_ ?_ ?_
        · first | exact sa | simp only [shortD, shortAll, okw, oks, okb, okc, sa, sb, Bool.and_self]
        · first | rfl | exact wa | exact wb | simp [widD, widAll, wa, wb]
        · first | omega | (simp only [PyData.depth, PyData.depthAll]; omega)
      · refine fin (.tuple [.str (wd ++ Str.ofString "s"), a, b]) (.tup (seqT_keep kdV kW (seqT_same ((((((((((((((((S8).trans S9).trans S10).trans S11).trans S12).trans S13).trans S14).trans S15).trans S16).trans S17).trans S18).trans S19).trans S20).trans S21).trans S22).trans S23) g7)) (.cons (.str _) (.cons (dp_keep kd kF _ _ h1) (.cons (dp_keep kd kF _ _ h2) .nil)))) ?_ ?_ ?_
        · first | exact sa | simp only [shortD, shortAll, okw, oks, okb, okc, sa, sb, Bool.and_self]
        · first | rfl | exact wa | exact wb | simp [widD, widAll, wa, wb]
        · first | omega | (simp only [PyData.depth, PyData.depthAll]; omega)
      · refine fin (.tuple [.int 1, a, b]) (.tup (seqT_keep kdV kW (seqT_same ((((((((((((((S10).trans S11).trans S12).trans S13).trans S14).trans S15).trans S16).trans S17).trans S18).trans S19).trans S20).trans S21).trans S22).trans S23) g9)) (.cons (.int _) (.cons (dp_keep kd kF _ _ h1) (.cons (dp_keep kd kF _ _ h2) .nil)))) ?_ ?_ ?_
        · first | exact sa | simp only [shortD, shortAll, okw, oks, okb, okc, sa, sb, Bool.and_self]
        · first | rfl | exact wa | exact wb | simp [widD, widAll, wa, wb]
        · first | omega | (simp only [PyData.depth, PyData.depthAll]; omega)
      · refine fin (a) (dp_keep kd kF _ _ h1) ?_ ?_ ?_
        · first | exact sa | simp only [shortD, shortAll, okw, oks, okb, okc, sa, sb, Bool.and_self]
        · first | rfl | exact wa | exact wb | simp [widD, widAll, wa, wb]
        · first | omega | (simp only [PyData.depth, PyData.depthAll]; omega)
      · refine fin (.none) .non ?_ ?_ ?_
        · first | exact sa | simp only [shortD, shortAll, okw, oks, okb, okc, sa, sb, Bool.and_self]
        · first | rfl | exact wa | exact wb | simp [widD, widAll, wa, wb]
        · first | omega | (simp only [PyData.depth, PyData.depthAll]; omega)
      · refine fin (.bool true) (.bl true) ?_ ?_ ?_
        · first | exact sa | simp only [shortD, shortAll, okw, oks, okb, okc, sa, sb, Bool.and_self]
        · first | rfl | exact wa | exact wb | simp [widD, widAll, wa, wb]
        · first | omega | (simp only [PyData.depth, PyData.depthAll]; omega)
      · refine fin (.tuple []) (.tup (seqT_keep kdV kW (seqT_same (((((((((((((S11).trans S12).trans S13).trans S14).trans S15).trans S16).trans S17).trans S18).trans S19).trans S20).trans S21).trans S22).trans S23) g10)) .nil) ?_ ?_ ?_
        · first | exact sa | simp only [shortD, shortAll, okw, oks, okb, okc, sa, sb, Bool.and_self]
        · first | rfl | exact wa | exact wb | simp [widD, widAll, wa, wb]
        · first | omega | (simp only [PyData.depth, PyData.depthAll]; omega)
      · refine fin (.tuple [.str (Str.ofString "both"), a, b]) (.tup (seqT_keep kdV kW (seqT_same ((((((((((S14).trans S15).trans S16).trans S17).trans S18).trans S19).trans S20).trans S21).trans S22).trans S23) g13)) (.cons (.str _) (.cons (dp_keep kd kF _ _ h1) (.cons (dp_keep kd kF _ _ h2) .nil)))) ?_ ?_ ?_
        · first | exact sa | simp only [shortD, shortAll, okw, oks, okb, okc, sa, sb, Bool.and_self]
        · first | rfl | exact wa | exact wb | simp [widD, widAll, wa, wb]
        · first | omega | (simp only [PyData.depth, PyData.depthAll]; omega)
      · refine fin (.tuple [.str (Str.ofString "counter"), a, b]) (.tup (seqT_keep kdV kW (seqT_same ((((((((S16).trans S17).trans S18).trans S19).trans S20).trans S21).trans S22).trans S23) g15)) (.cons (.str _) (.cons (dp_keep kd kF _ _ h1) (.cons (dp_keep kd kF _ _ h2) .nil)))) ?_ ?_ ?_
        · first | exact sa | simp only [shortD, shortAll, okw, oks, okb, okc, sa, sb, Bool.and_self]
        · first | rfl | exact wa | exact wb | simp [widD, widAll, wa, wb]
        · first | omega | (simp only [PyData.depth, PyData.depthAll]; omega)
      · refine fin (.tuple [b, a, .str wd]) (.tup (seqT_keep kdV kW (seqT_same (((((((S17).trans S18).trans S19).trans S20).trans S21).trans S22).trans S23) g16)) (.cons (dp_keep kd kF _ _ h2) (.cons (dp_keep kd kF _ _ h1) (.cons (.str _) .nil)))) ?_ ?_ ?_
        · first | exact sa | simp only [shortD, shortAll, okw, oks, okb, okc, sa, sb, Bool.and_self]
        · first | rfl | exact wa | exact wb | simp [widD, widAll, wa, wb]
        · first | omega | (simp only [PyData.depth, PyData.depthAll]; omega)
      · refine fin (.tuple [.str wd, .list [a], b]) (.tup (seqT_keep kdV kW (seqT_same (((S21).trans S22).trans S23) g20)) (.cons (.str _) (.cons (.lst (seqL_keep kdV kW (SqL.of (((((((S18).trans S19).trans S20).trans S21).trans S22).trans S23) _ _ g17))) (.cons (dp_keep kd kF _ _ h1) .nil)) (.cons (dp_keep kd kF _ _ h2) .nil)))) ?_ ?_ ?_
        · first | exact sa | simp only [shortD, shortAll, okw, oks, okb, okc, sa, sb, Bool.and_self]
        · first | rfl | exact wa | exact wb | simp [widD, widAll, wa, wb]
        · first | omega | (simp only [PyData.depth, PyData.depthAll]; omega)
      · refine fin (.tuple [.tuple [.str wd, a, b]]) (.tup (seqT_keep kdV kW (seqT_same ((S22).trans S23) g21)) (.cons (.tup (seqT_keep kd kF hT) (.cons (.str _) (.cons (dp_keep kd kF _ _ h1) (.cons (dp_keep kd kF _ _ h2) .nil)))) .nil)) ?_ ?_ ?_
        · first | exact sa | simp only [shortD, shortAll, okw, oks, okb, okc, sa, sb, Bool.and_self]
        · first | rfl | exact wa | exact wb | simp [widD, widAll, wa, wb]
        · first | omega | (simp only [PyData.depth, PyData.depthAll]; omega)
end
end My

set_option Elab.async false
set_option linter.all false
set_option maxRecDepth 100000
/-! closures as values: a lambda without parameters that is handed on to defs, and called there -/
namespace Clo
open PySem PySem.Spec PyProof.Rows L2 LamX
/-- the object at c is just o -/
def Pin (c : Addr) (o : Obj) : HO := .ext fun h => h.get? c = some o
theorem pin_ok {P : Program} {w : World} {H : Hp} {h : Heap} {c : Addr} {o : Obj} (e : h.get? c = some o) : ObjOk P w H h c (Pin c o) :=
  ⟨e, ⟨o, e⟩, fun h1 h2 q st => st _ q⟩
theorem pin_get {P : Program} {w : World} {H : Hp} {h : Heap} {c : Addr} {o : Obj} (hok : HOk P w H h) (e : H c = some (Pin c o)) : h.get? c = some o := (hok c _ e).1
/-- the cells at C known to the object; .. forgotten -/
def plus (C : Addr → Option Obj) (H : Hp) : Hp := fun b => match C b with | some o => some (Pin b o) | none => H b
def minus (C : Addr → Option Obj) (H : Hp) : Hp := fun b => match C b with | some _ => none | none => H b
section
variable {C : Addr → Option Obj} {H H' : Hp} {b : Addr} {o : Obj} {u : HO}
theorem plus_in (e : C b = some o) : plus C H b = some (Pin b o) := by unfold plus; rw [e]
theorem plus_out (e : C b = none) : plus C H b = H b := by unfold plus; rw [e]
theorem minus_in (e : C b = some o) : minus C H b = none := by unfold minus; rw [e]
theorem minus_out (e : C b = none) : minus C H b = H b := by unfold minus; rw [e]
theorem out_of (e : H b = some u) (f : ∀ c o, C c = some o → H c = none) : C b = none := by
  cases q : C b with
  | none => rfl
  | some o =>
    rw [f b o q] at e
    cases e
theorem pin_own {c x : Addr} : Pin c o ≠ .own x := fun z => by
  have z' : HO.ext _ = HO.own x := z
  cases z'
theorem pin_tup {c : Addr} {xs : List V} : Pin c o ≠ .tup xs := fun z => by
  have z' : HO.ext _ = HO.tup xs := z
  cases z'
theorem pin_frz {c : Addr} {p : Obj} : Pin c o ≠ .frz p u := fun z => by
  have z' : HO.ext _ = HO.frz p u := z
  cases z'
theorem pin_tbl {c : Addr} {ps : Array Value} : Pin c o ≠ .tbl ps := fun z => by
  have z' : HO.ext _ = HO.tbl ps := z
  cases z'
/-- Hm is H without the cells -/
structure Less (C : Addr → Option Obj) (Hm H : Hp) (h : Heap) : Prop where
  inn : ∀ c o, C c = some o → Hm c = none ∧ H c = some (Pin c o) ∧ h.get? c = some o
  out : ∀ b, C b = none → Hm b = H b
theorem less_plus {h : Heap} (f : ∀ c o, C c = some o → H c = none ∧ h.get? c = some o) : Less C H (plus C H) h :=
  ⟨fun c o e => ⟨(f c o e).1, plus_in e, (f c o e).2⟩, fun b e => (plus_out e).symm⟩
theorem less_minus {P : Program} {w : World} {h : Heap} (hok : HOk P w H h) (f : ∀ c o, C c = some o → H c = some (Pin c o)) : Less C (minus C H) H h :=
  ⟨fun c o e => ⟨minus_in e, f c o e, (hok c _ (f c o e)).1⟩, fun b e => minus_out e⟩
end
section
variable {P : Program} {w : World} {C : Addr → Option Obj} {H Hm H' : Hp} {h h' : Heap} {fs : List Addr}
theorem Less.cells (L : Less C Hm H h) {b : Addr} {u : HO} (e : H b = some u) (n : ∀ o, u ≠ Pin b o) : C b = none := by
  cases q : C b with
  | none => rfl
  | some o =>
    rw [(L.inn b o q).2.1] at e
    exact absurd (Option.some.inj e).symm (n o)
theorem Less.hok (L : Less C Hm H h) (k : HOk P w Hm h) : HOk P w H h := fun b u e => by
  cases q : C b with
  | some o =>
    rw [(L.inn b o q).2.1] at e
    cases e
    exact pin_ok (L.inn b o q).2.2
  | none =>
    rw [← L.out b q] at e
    refine (k b u e).stay (fun _ _ _ z => z) (fun c z => ?_) fun c xs z => ?_
    · cases qc : C c with
      | none => rw [← L.out c qc]; exact z
      | some o => rw [(L.inn c o qc).1] at z; cases z
    · cases qc : C c with
      | none => rw [← L.out c qc]; exact z
      | some o => rw [(L.inn c o qc).1] at z; cases z
theorem Less.hokm (L : Less C Hm H h) (k : HOk P w H h) : HOk P w Hm h := fun b u e => by
  have qb : C b = none := by
    cases q : C b with
    | none => rfl
    | some o => rw [(L.inn b o q).1] at e; cases e
  rw [L.out b qb] at e
  refine (k b u e).stay (fun _ _ _ z => z) (fun c z => ?_) fun c xs z => ?_
  · rw [L.out c (L.cells z fun o => Ne.symm pin_own)]; exact z
  · rw [L.out c (L.cells z fun o => Ne.symm pin_tup)]; exact z
/-- what is kept over Hm is kept over H, the cells told again -/
theorem un_plus (L : Less C Hm H h) (u : Un fs [] Hm H' h h') (nf : ∀ c o, C c = some o → c ∉ fs) : Un fs [] H (plus C H') h h' ∧ (∀ c o, C c = some o → h'.get? c = some o ∧ H' c = none) := by
  have cell : ∀ c o, C c = some o → h'.get? c = some o ∧ H' c = none := fun c o e => by
    have i := L.inn c o e
    exact ⟨u.keep c o i.2.2 i.1 (nf c o e) (by simp), u.free c o i.2.2 i.1 (by simp)⟩
  have nn : ∀ {b}, H b = none → C b = none := fun {b} n => by
    cases q : C b with
    | none => rfl
    | some o => rw [(L.inn b o q).2.1] at n; cases n
  refine ⟨⟨fun b o e n hb hx => ?_, fun b o e n hb hx => ?_, fun b o e n hx => ?_, u.there, fun b xs e => ?_, fun b o v e => ?_, fun b ps e => ?_⟩, cell⟩
  · exact u.keep b o e (by rw [L.out b (nn n)]; exact n) hb hx
  · exact u.slot b o e (by rw [L.out b (nn n)]; exact n) hb hx
  · rw [plus_out (nn n)]
    exact u.free b o e (by rw [L.out b (nn n)]; exact n) hx
  · have q := L.cells e fun o => Ne.symm pin_tup
    rw [plus_out q]
    exact u.tups b xs (by rw [L.out b q]; exact e)
  · have q := L.cells e fun o' => Ne.symm pin_frz
    rw [plus_out q]
    exact u.frzs b o v (by rw [L.out b q]; exact e)
  · have q := L.cells e fun o => Ne.symm pin_tbl
    rw [plus_out q]
    exact u.tbls b ps (by rw [L.out b q]; exact e)
/-- what is kept over H, the cells known behind it too, is kept over Hm -/
theorem un_minus (L : Less C Hm H h) (u : Un fs [] H H' h h') (hok : HOk P w H' h') (st : ∀ c o, C c = some o → H' c = some (Pin c o)) : Un fs [] Hm (minus C H') h h' := by
  have cell : ∀ c o, C c = some o → h'.get? c = some o := fun c o e => (hok c _ (st c o e)).1
  refine ⟨fun b o e n hb hx => ?_, fun b o e n hb hx => ?_, fun b o e n hx => ?_, u.there, fun b xs e => ?_, fun b o v e => ?_, fun b ps e => ?_⟩
  · cases q : C b with
    | some o' =>
      have := (L.inn b o' q).2.2
      rw [e] at this
      cases this
      exact cell b o q
    | none => exact u.keep b o e (by rw [← L.out b q]; exact n) hb hx
  · cases q : C b with
    | some o' =>
      have := (L.inn b o' q).2.2
      rw [e] at this
      cases this
      exact ⟨o.slots, cell b o q⟩
    | none => exact u.slot b o e (by rw [← L.out b q]; exact n) hb hx
  · cases q : C b with
    | some o' => exact minus_in q
    | none =>
      rw [minus_out q]
      exact u.free b o e (by rw [← L.out b q]; exact n) hx
  · have q : C b = none := by
      cases q : C b with
      | none => rfl
      | some o => rw [(L.inn b o q).1] at e; cases e
    rw [minus_out q]
    exact u.tups b xs (by rw [← L.out b q]; exact e)
  · have q : C b = none := by
      cases q : C b with
      | none => rfl
      | some o => rw [(L.inn b o q).1] at e; cases e
    rw [minus_out q]
    exact u.frzs b o v (by rw [← L.out b q]; exact e)
  · have q : C b = none := by
      cases q : C b with
      | none => rfl
      | some o => rw [(L.inn b o q).1] at e; cases e
    rw [minus_out q]
    exact u.tbls b ps (by rw [← L.out b q]; exact e)
end
section
variable {P : Program} {w : World} {C : Addr → Option Obj} {H Hm : Hp} {s s' : Shared} {outer : List Env}
theorem ce_plus {Q : VK} {u : Value} (L : Less C Hm H s.heap) (nf : ∀ c o, C c = some o → c ∉ frs outer) (h : CE outer P w Hm s (fun v H' => (∀ c o, C c = some o → H' c = none) → Q v (plus C H')) u s') : CE outer P w H s Q u s' := by
  obtain ⟨v, H', os, bare, un, hok, r, q⟩ := h
  obtain ⟨un', cell⟩ := un_plus L un nf
  exact ⟨v, plus C H', os, bare, un', (less_plus fun c o e => ⟨(cell c o e).2, (cell c o e).1⟩).hok hok, r, q fun c o e => (cell c o e).2⟩
theorem ce_minus {Q : VK} {u : Value} (L : Less C Hm H s.heap) (h : CE outer P w H s (fun v H' => (∀ c o, C c = some o → H' c = some (Pin c o)) ∧ Q v (minus C H')) u s') : CE outer P w Hm s Q u s' := by
  obtain ⟨v, H', os, bare, un, hok, r, st, q⟩ := h
  exact ⟨v, minus C H', os, bare, un_minus L un hok st, (less_minus hok st).hokm hok, r, q⟩
theorem cx_plus {E : XK} {u : Value} (L : Less C Hm H s.heap) (nf : ∀ c o, C c = some o → c ∉ frs outer) (h : L2.CX P w outer Hm s (fun cls d H' => (∀ c o, C c = some o → H' c = none) → E cls d (plus C H')) u s') : L2.CX P w outer H s E u s' := by
  obtain ⟨a, B, H', cls, d, eu, fl, hok, ub, na, os, ag, q⟩ := h
  have nn : ∀ {b}, H b = none → C b = none := fun {b} n => by
    cases q : C b with
    | none => rfl
    | some o => rw [(L.inn b o q).2.1] at n; cases n
  have cell : ∀ c o, C c = some o → B.get? c = some o ∧ H' c = none := fun c o e => by
    have i := L.inn c o e
    exact ⟨ub.keep c o i.2.2 i.1 (nf c o e), ub.free c o i.2.2 i.1⟩
  refine ⟨a, B, plus C H', cls, d, eu, fl, (less_plus fun c o e => ⟨(cell c o e).2, (cell c o e).1⟩).hok hok, ⟨fun b o e n hb => ?_, ub.slot, fun b o e n => ?_, ub.there, fun b xs e => ?_, fun b o v e => ?_, fun b ps e => ?_⟩, ?_, os, ag, q fun c o e => (cell c o e).2⟩
  · exact ub.keep b o e (by rw [L.out b (nn n)]; exact n) hb
  · rw [plus_out (nn n)]
    exact ub.free b o e (by rw [L.out b (nn n)]; exact n)
  · have q := L.cells e fun o => Ne.symm pin_tup
    rw [plus_out q]
    exact ub.tups b xs (by rw [L.out b q]; exact e)
  · have q := L.cells e fun o' => Ne.symm pin_frz
    rw [plus_out q]
    exact ub.frzs b o v (by rw [L.out b q]; exact e)
  · have q := L.cells e fun o => Ne.symm pin_tbl
    rw [plus_out q]
    exact ub.tbls b ps (by rw [L.out b q]; exact e)
  · have qa : C a = none := by
      cases q : C a with
      | none => rfl
      | some o =>
        have h1 := (cell a o q).1
        rw [fl.2.1] at h1
        cases h1
    rw [plus_out qa]
    exact na
end

/-! ### the cells of a frame -/
/-- C: the objects of the cells that env knows, with the values of the names -/
structure CellsAt (env : Env) (N : List Str) (σ : L2.St) (C : Addr → Option Obj) : Prop where
  all : ∀ x c, env.cells.lookup x = some c → ∃ o v, C c = some o ∧ o.data = .cell v
  val : ∀ (i : Nat) (x : Str) (v : V) (c : Addr), N[i]? = some x → σ[i]? = some (some v) → (env.kindOf x = some .cell ∨ env.kindOf x = some .free) → env.cells.lookup x = some c → ∃ o u, C c = some o ∧ o.data = .cell (some u) ∧ RelV v u
section
variable {X : Cx} {pins : List (Addr × Obj)} {σ : L2.St} {H : Hp} {s : Shared}
open Classical in
theorem cells_of (I : Inv X pins σ H s) : ∃ C : Addr → Option Obj, CellsAt X.env X.N σ C ∧ (∀ c o, C c = some o → s.heap.get? c = some o ∧ H c = none ∧ ∃ x, X.env.cells.lookup x = some c) := by
  refine ⟨fun c => if ∃ x, X.env.cells.lookup x = some c then s.heap.get? c else none, ⟨fun x c e => ?_, fun i x v c hn hs hk e => ?_⟩, fun c o e => ?_⟩
  · obtain ⟨v, o, ho, hd⟩ := I.cell x c e
    exact ⟨o, v, by rw [if_pos ⟨x, e⟩]; exact ho, hd⟩
  · obtain ⟨m, hm, hl⟩ := I.loc
    have vis : Vis X.env.scope x := hk.elim (fun k => .inr (.inl k)) (fun k => .inr (.inr k))
    obtain ⟨u, ru, q⟩ := hl i x v hn hs vis
    rcases q with ⟨k', _⟩ | ⟨_, c', e', o, ho, hd⟩
    · rcases hk with k | k <;> rw [k] at k' <;> cases k'
    · rw [e] at e'
      cases e'
      exact ⟨o, u, by rw [if_pos ⟨x, e⟩]; exact ho, hd, ru⟩
  · have e : (if ∃ x, X.env.cells.lookup x = some c then s.heap.get? c else none) = some o := e
    by_cases hx : ∃ x, X.env.cells.lookup x = some c
    · rw [if_pos hx] at e
      obtain ⟨x, ex⟩ := hx
      exact ⟨e, I.freeC x c ex, x, ex⟩
    · rw [if_neg hx] at e
      cases e
end
section
variable {X : Cx} {σ : L2.St} {C : Addr → Option Obj} {HZ : Hp} {s1 : Shared}
/-- the lambda's body, entered anywhere while the cells lie as C tells -/
theorem lam_start3 {A : Around} {outer : List Env} {E : XK} {scope : Scope} {f c' : Addr} {h₁ : Heap} {tk : Nat} (ok : X.Ok) (len : σ.length = X.N.length) (L : LamS X.env.scope scope) (KC : CellsAt X.env X.N σ C) (lie : ∀ c o, C c = some o → s1.heap.get? c = some o) (off : ∀ c o, C c = some o → HZ c = none)
    (e0 : Env0 X.prog X.w X.K X.mg X.base A outer s1 HZ) (hd : A.handled = none) (hns : h₁.Ns s1.heap.objs.size fun y => ([] : List (Str × Value)).reverse.lookup y) (kp : ∀ b o, s1.heap.get? b = some o → h₁.get? b = some o) :
    Inv (lamCx X A outer s1 HZ E scope f c') [] σ HZ { s1 with heap := h₁, toks := tk } := by
  have old : ∀ {x c}, (cloFrom X.env.cells scope.names []).lookup x = some c → X.env.cells.lookup x = some c := fun {x c} lk => by
    rcases cloFrom_mem (PySem.mem_of_lookup lk) with z | ⟨nm, at_⟩
    · exact absurd z (by simp)
    · obtain ⟨d, hl⟩ := L.has ok _ nm rfl
      have hl : X.env.cells.lookup x = some d := hl
      rw [at_, hl]
      rfl
  have seek : ∀ {x}, scope.names.lookup x = some .free → ∃ c, (cloFrom X.env.cells scope.names []).lookup x = some c := fun {x} lk =>
    mem_lookup (cloFrom_has (cells := X.env.cells) (acc := []) (PySem.mem_of_lookup lk))
  have noE : ∀ b : Addr, b ∉ (lamCx X A outer s1 HZ E scope f c').ex := fun b z => nomatch (show b ∈ ([] : List Addr) from z)
  refine ⟨⟨e0.mod, L.kind, rfl, rfl, Nat.le_refl _, fun x y c l1 l2 => ok.inj x y c (old l1) (old l2), fun x kx => ?_, fun x c z => ?_, fun _ => hd, Around.frames_deeper e0.frames, .inr ⟨rfl, rfl⟩, fun b z => (noE b z).elim, e0.bs, e0.bsz, fun b _ _ => noE b, fun b z => (noE b z).elim, e0.funs, e0.frf⟩,
    rfl, e0.bare, Un.kept kp, ⟨_, hns, fun i x v l1 l2 vs => ?_⟩, fun x c lk => ?_, e0.hok.fresh (Nat.le_refl _), fun x c lk => ?_, fun p z => (nomatch (show p ∈ ([] : List (Addr × Obj)) ++ [] from z)), e0.hok.kept kp, len⟩
  · have kx : scope.names.lookup x = some .cell ∨ scope.names.lookup x = some .free := kx
    rcases kx with k | k
    · exact ((L.own _ (PySem.mem_of_lookup k)).2 rfl).elim
    · exact seek k
  · exact nomatch (show false = true from z)
  · have vs : Vis scope x := vs
    rcases vs with k | k | k
    · exact ((L.own _ (PySem.mem_of_lookup k)).1 rfl).elim
    · exact ((L.own _ (PySem.mem_of_lookup k)).2 rfl).elim
    · have kk : X.env.kindOf x = some .cell ∨ X.env.kindOf x = some .free := L.free _ (PySem.mem_of_lookup k) rfl
      obtain ⟨c, lk⟩ := seek k
      obtain ⟨o, u, co, od, ru⟩ := KC.val i x v c l1 l2 kk (old lk)
      exact ⟨u, ru, .inr ⟨.inr k, c, lk, o, kp _ _ (lie c o co), od⟩⟩
  · obtain ⟨o, v, co, od⟩ := KC.all x c (old lk)
    exact ⟨v, o, kp _ _ (lie c o co), od⟩
  · obtain ⟨o, v, co, od⟩ := KC.all x c (old lk)
    exact off c o co
end

/-! ### a closure -/
/-- what a call of the object at f, without arguments, does -/
def Act (P : Program) (w : World) (K : PySem.W.Frag) (mg : Str → Option Value) (base : Heap) (k : Nat) (f : Addr) (tl : Hp → VK → XK → Prop) : Prop :=
  ∀ (A : Around) (outer : List Env) (s : Shared) (H : Hp) (Q : VK) (E : XK), Room k A → Env0 P w K mg base A outer s H → tl H Q E →
    codeAny (model P w) A (.call (.ref f) ⟨[], []⟩) (CR (L2.CX P w) outer P w H s Q E) s
theorem Act.mono {P : Program} {w : World} {K : PySem.W.Frag} {mg : Str → Option Value} {base : Heap} {j k : Nat} {f : Addr} {tl : Hp → VK → XK → Prop} (a : Act P w K mg base j f tl) (h : j ≤ k) : Act P w K mg base k f tl :=
  fun A outer s H Q E r => a A outer s H Q E (r.mono h)
/-- the reading of a lambda's call, wherever it comes: its object and the cells are known, the body's reading holds without them -/
def tlX (f c' : Addr) (fo : Obj) (q : Str) (C : Addr → Option Obj) (σ : L2.St) (t : XK → TE) : Hp → VK → XK → Prop := fun H Q E =>
  H f = some (Pin f fo) ∧ H c' = some (CodeO c' q) ∧ (∀ c o, C c = some o → H c = some (Pin c o)) ∧ t (fun cls d H' => (∀ c o, C c = some o → H' c = none) → E cls d (plus C H')) σ (minus C H) (fun v H' => (∀ c o, C c = some o → H' c = none) → Q v (plus C H'))
section
variable {X : Cx} {σ : L2.St} {C : Addr → Option Obj}
theorem act_ok {f c' : Addr} {pm ctv : Value} {params : Arguments} {body : Expr} {scope : Scope} {k : Nat} {t : XK → TE} (ok : X.Ok) (len : σ.length = X.N.length) (L : LamS X.env.scope scope) (KC : CellsAt X.env X.N σ C)
    (hbind : bindArgs (PySem.W.kla_fn "<lambda>" (X.env.qual ++ "<lambda>") params body scope (cloFrom X.env.cells scope.names []) pm (.ref c') ctv) ⟨[], []⟩ = pure [])
    (hbody : ∀ (A : Around) (outer : List Env) (s : Shared) (H : Hp) (E : XK), Room k (A.deeper (lamEnv X scope s.heap.objs.size f c')) → PE (lamCx X A outer s H E scope f c') body (t E)) :
    Act X.prog X.w X.K X.mg X.base (k + 1) f (tlX f c' (PySem.W.kla_obj "<lambda>" (X.env.qual ++ "<lambda>") params body scope (cloFrom X.env.cells scope.names []) pm c' ctv) (X.env.qual ++ "<lambda>") C σ t) := by
  intro A outer s H Q E hr e0 h
  obtain ⟨hf, hc, hC, ht⟩ := h
  have gf := pin_get e0.hok hf
  obtain ⟨⟨oc, vs, tq, g1, g2, g3⟩, _, _⟩ := e0.hok c' _ hc
  have LS : Less C (minus C H) H s.heap := less_minus e0.hok hC
  have nf : ∀ c o, C c = some o → c ∉ frs outer := fun c o e z => by
    have := e0.frf c z
    rw [hC c o e] at this
    cases this
  have e1 : Env0 X.prog X.w X.K X.mg X.base A outer s (minus C H) := ⟨e0.frames, e0.mod, fun b o e => ⟨(e0.bs b o e).1, by
      cases q : C b with
      | some o' => exact minus_in q
      | none => rw [minus_out q]; exact (e0.bs b o e).2⟩, e0.bsz, e0.funs, fun b hb => by
      cases q : C b with
      | some o' => exact minus_in q
      | none => rw [minus_out q]; exact e0.frf b hb, LS.hokm e0.hok, e0.bare⟩
  have lim : s.heap.NoLimit := e0.mod.nolimit.keeps fun b o e => (e0.bs b o e).1
  refine PySem.W.kla_callFunE hr.depth gf rfl L.co L.gen rfl ⟨c', oc, vs, tq, rfl, g1, g2, g3⟩ ?_
  rw [hbind]
  refine wpAny_pure (wpAny_newFunctionEnv (fun y hy => (L.own y hy).2) (fun y hy => nomatch hy) (fun h₁ hns hsb => ⟨lim.fresh _ hsb, ?_⟩) L.kind)
  show codeAny _ _ (.expr body (lamEnv X scope s.heap.objs.size f c')) _ _
  have kp : ∀ b o, s.heap.get? b = some o → h₁.get? b = some o := fun b o g => hsb.extBut b o (Nat.ne_of_lt (Heap.lt_size g)) (Heap.get?_push_of_some _ g)
  have J : Inv (lamCx X A outer s (minus C H) (fun cls d H' => (∀ c o, C c = some o → H' c = none) → E cls d (plus C H')) scope f c') [] σ (minus C H) { s with heap := h₁, toks := s.toks + ([] : List (Str × Value)).length } :=
    lam_start3 ok len L KC (fun c o e => (LS.inn c o e).2.2) (fun c o e => (LS.inn c o e).1) e1 hr.hd hns kp
  refine PySem.W.kla_codeExpr (wpAny_mono ((hbody A outer s (minus C H) _ (hr.deeper _)).run [] _ _ _ _ J ht) (fun v s' hq => ?_) fun e s' hq => ?_)
  · obtain ⟨v', H', J', rv, q⟩ := hq
    exact ce_plus LS nf ⟨v', H', J'.os, J'.bare, J'.base, J'.hok, rv, q⟩
  · exact wpAny_mono hq (fun _ s2 z => cx_plus LS nf z) fun e2 s2 z => cx_plus LS nf z
end

/-! ### a lambda is made -/
section
variable {X : Cx} {pins : List (Addr × Obj)} {σ : L2.St} {H : Hp} {s : Shared}
theorem pin_lay {h' : Heap} {o : Obj} {tk : Nat} (nf : o.isFreed = false) (I : Inv X pins σ H { s with heap := h', toks := tk }) : Inv X pins σ (upd H h'.objs.size (Pin h'.objs.size o)) { s with heap := h'.push o, toks := tk } :=
  I.laid (t' := tk) (fun b u g => Heap.get?_push_of_some _ g) (Nat.le_refl _) (pin_ok (Heap.get?_push_size _ nf))
theorem new_same {p : Addr} {o : HO} (n : H p = none) : ∀ b u, H b = some u → upd H p o b = some u := fun b u g => by
  rw [upd_ne (ne_of_none g n)]
  exact g
/-- a lambda is made, and known from then on -/
theorem lam_make3 {T : List (Addr × Str)} {c P : Addr} {params : Arguments} {body : Expr} {scope : Scope} {pos : Pos} {E : Value → Shared → Prop} {Q : Value → Shared → Prop} (I : Inv X pins σ H s) (TB : TabB X.base X.mg c P) (hcode : X.env.code = .ref c)
    (inT : (P, X.env.qual ++ "<lambda>") ∈ T) (one : ∀ p ∈ T, p.1 = P → p.2 = X.env.qual ++ "<lambda>") (tabs : Tabs T H) (nodef : defaultsOf params X.env = ([], [])) (free : ∀ y ∈ scope.names, y.2 = .free → ∃ c, X.env.cells.lookup y.1 = some c)
    (h : ∀ (f c' : Addr) (pm ctv : Value) (H1 : Hp) (s' : Shared), Inv X pins σ H1 s' → ExtN H H1 → Tabs T H1 → H f = none →
      H1 f = some (Pin f (PySem.W.kla_obj "<lambda>" (X.env.qual ++ "<lambda>") params body scope (cloFrom X.env.cells scope.names []) pm c' ctv)) → H1 c' = some (CodeO c' (X.env.qual ++ "<lambda>")) → Q (.ref f) s') :
    wpAny (model X.prog X.w) X.A (eval (.Lambda params body scope pos) X.env) Q E s := by
  obtain ⟨ps, tP, tOk, tAll⟩ := tabs _ inT
  have bP : s.heap.BuiltinsAt X.mg P := TB.bm.keeps I.bk
  have gP : s.heap.get? P = some { cls := .none, data := .fields ps } := I.hok P _ tP
  refine PySem.W.kla_eval nodef ?_
  cases among : codeAmong pos ps.toList with
  | some cv =>
    obtain ⟨c', rfl, known⟩ := tAll pos cv among
    refine PySem.W.kla_makeFunctionHit (mg := X.mg) (c := c) (P := P) (ps := ps) (closure_ok free) I.ok.glob (I.mod.glob.keeps I.bk) hcode (TB.code.keeps I.bk) gP tOk among bP fun ctv h' tk kept bigger => ?_
    have J : Inv X pins σ H { s with heap := h', toks := tk } := I.kept kept
    have n := J.hok.fresh (Nat.le_refl h'.objs.size)
    exact h _ c' _ ctv _ _ (pin_lay rfl J) (ExtN.of (new_same n)) (tabs.ext (new_same n)) n upd_same (new_same n _ _ known)
  | none =>
    refine PySem.W.kla_makeFunction (mg := X.mg) (c := c) (P := P) (ps := ps) (closure_ok free) I.ok.glob (I.mod.glob.keeps I.bk) hcode (TB.code.keeps I.bk) gP tOk among TB.gP bP fun c' ctv h' tk but ge lt rc tab => ?_
    obtain ⟨c2, oc, vs, tq, ec, g1, g2, g3⟩ := rc
    cases ec
    have J := inv_table (q := X.env.qual ++ "<lambda>") (t' := tk) (more := #[rawInt pos.line, rawInt pos.col, .ref c']) (h' := h') I tP (fun b o nb g => but b o nb g) tab ge ⟨oc, vs, tq, g1, g2, g3⟩
    have nc : H c' = none := I.hok.fresh ge
    have n := J.hok.fresh (Nat.le_refl h'.objs.size)
    have nH : H h'.objs.size = none := I.hok.fresh (Nat.le_trans ge (Nat.le_of_lt lt))
    have E1 : ExtN H (upd (upd H P (.tbl (ps ++ #[rawInt pos.line, rawInt pos.col, .ref c']))) c' (CodeO c' (X.env.qual ++ "<lambda>"))) := fun b u g no => by
      have nP : b ≠ P := fun z => no ps (Option.some.inj (g.symm.trans (z ▸ tP)))
      rw [upd_ne (ne_of_none g nc), upd_ne nP]
      exact g
    have T1 : Tabs T (upd (upd H P (.tbl (ps ++ #[rawInt pos.line, rawInt pos.col, .ref c']))) c' (CodeO c' (X.env.qual ++ "<lambda>"))) := fun p hp => by
      by_cases eP : p.1 = P
      · rw [one p hp eP, eP]
        refine ⟨ps ++ #[rawInt pos.line, rawInt pos.col, .ref c'], by rw [upd_ne (ne_of_none tP nc), upd_same], ?_, fun pos' cv hcv => ?_⟩
        · rw [Array.toList_append]
          exact PySem.TriplesOk_snoc _ _ _ _ tOk
        · rw [Array.toList_append] at hcv
          rcases among_app _ tOk hcv with z | z
          · obtain ⟨d, ed, kd⟩ := tAll pos' cv z
            exact ⟨d, ed, E1 _ _ kd codeO_ne⟩
          · exact ⟨c', z, upd_same⟩
      · obtain ⟨qs, b1, b2, b3⟩ := tabs p hp
        refine ⟨qs, by rw [upd_ne (ne_of_none b1 nc), upd_ne eP]; exact b1, b2, fun pos' cv hcv => ?_⟩
        obtain ⟨d, ed, kd⟩ := b3 pos' cv hcv
        exact ⟨d, ed, E1 _ _ kd codeO_ne⟩
    refine h _ c' _ ctv _ _ (pin_lay rfl J) (fun b u g no => new_same n _ _ (E1 b u g no)) (T1.ext (new_same n)) nH upd_same (new_same n _ _ upd_same)
end

/-- a def's object -/
def FnObj (o : Obj) : Prop := ∃ (oc : Value) (od : Option Addr) (fd : FuncData) (osl : Array (Option Value)), o = ⟨oc, od, .func fd, osl⟩
/-- the expression lambda: body -/
def tLam3 (X : Cx) (T : List (Addr × Str)) (k : Nat) (t : XK → TE) : TE := fun σ H Q => Tabs T H ∧ ∀ (f : Addr) (fo : Obj) (c' : Addr) (H1 : Hp), ExtN H H1 → Tabs T H1 → H f = none → H1 f = some (Pin f fo) → H1 c' = some (CodeO c' (X.env.qual ++ "<lambda>")) →
  FnObj fo → (∀ C, CellsAt X.env X.N σ C → Act X.prog X.w X.K X.mg X.base (k + 1) f (tlX f c' fo (X.env.qual ++ "<lambda>") C σ t)) → Q (.ref f) H1
/-- a call of v, without arguments, from here -/
def Does (P : Program) (w : World) (K : PySem.W.Frag) (mg : Str → Option Value) (base : Heap) (k : Nat) (v : V) (H : Hp) (Q : VK) (E : XK) : Prop :=
  ∃ (f : Addr) (fo : Obj) (tl : Hp → VK → XK → Prop), v = .ref f ∧ FnObj fo ∧ H f = some (Pin f fo) ∧ Act P w K mg base k f tl ∧ tl H Q E
theorem Does.mono {P : Program} {w : World} {K : PySem.W.Frag} {mg : Str → Option Value} {base : Heap} {j k : Nat} {v : V} {H : Hp} {Q : VK} {E : XK} (d : Does P w K mg base j v H Q E) (h : j ≤ k) : Does P w K mg base k v H Q E := by
  obtain ⟨f, fo, tl, e, n, p, a, t⟩ := d
  exact ⟨f, fo, tl, e, n, p, a.mono h, t⟩
/-- x(), x the slot i -/
def tAct (P : Program) (w : World) (K : PySem.W.Frag) (mg : Str → Option Value) (base : Heap) (i k : Nat) (E : L2.St → XK) : TE := fun σ H Q => ∃ v, σ[i]? = some (some v) ∧ Does P w K mg base k v H Q (E σ)
/-- a def's call, the caller's cells known while it runs -/
def tCallT (X : Cx) (sp : Sp) (t : TA) : TE := fun σ H Q => t σ H fun vs H1 => ∀ C, CellsAt X.env X.N σ C → (∀ c o, C c = some o → H1 c = none) →
  sp vs (plus C H1) (fun v H' => (∀ c o, C c = some o → H' c = some (Pin c o)) ∧ Q v (minus C H')) C8.E0
section
variable {X : Cx}
theorem pe_lam {T : List (Addr × Str)} {c P : Addr} {k : Nat} {params : Arguments} {body : Expr} {scope : Scope} {t : XK → TE} {pos : Pos} (TB : TabB X.base X.mg c P) (hcode : X.env.code = .ref c)
    (inT : (P, X.env.qual ++ "<lambda>") ∈ T) (one : ∀ p ∈ T, p.1 = P → p.2 = X.env.qual ++ "<lambda>") (L : LamS X.env.scope scope) (nodef : defaultsOf params X.env = ([], []))
    (hbind : ∀ (q : Str) (cl : List (Str × Addr)) (pm cv ctv : Value), bindArgs (PySem.W.kla_fn "<lambda>" q params body scope cl pm cv ctv) ⟨[], []⟩ = pure [])
    (hbody : ∀ (A : Around) (outer : List Env) (s : Shared) (H : Hp) (E : XK) (f c' : Addr), Room k (A.deeper (lamEnv X scope s.heap.objs.size f c')) → PE (lamCx X A outer s H E scope f c') body (t E)) :
    PE X (.Lambda params body scope pos) (tLam3 X T k t) := by
  refine ⟨fun pins s σ H Q I h => ?_⟩
  obtain ⟨tabs, h⟩ := h
  refine lam_make3 I TB hcode inT one tabs nodef (L.has I.ok) fun f c' pm ctv H1 s1 I1 x1 t1 n1 k1 k2 => ?_
  exact ⟨.ref f, H1, I1, rfl, h f _ c' H1 x1 t1 n1 k1 k2 ⟨_, _, _, _, rfl⟩ fun C KC => act_ok I1.ok I1.len L KC (hbind _ _ _ _ _) fun A outer s H E r => hbody A outer s H E f c' r⟩
theorem pe_act3 {i k : Nat} {a : Str} {E : L2.St → XK} {p1 p2 : Pos} (hr : Room k X.A) (hx : ∀ σ, PassesAt (L2.CX X.prog X.w) X σ (E σ)) (hN : X.N[i]? = some a) (hv : Vis X.env.scope a)
    (hd : (a == ("__debug__" : Str)) = false := by decide) (hcd : (a == ("__classdict__" : Str)) = false := by decide) : PE X (.Call (.Name a p1) [] [] p2) (tAct X.prog X.w X.K X.mg X.base i k E) := by
  refine ⟨fun pins s σ H Q I h => ?_⟩
  obtain ⟨w, hs, f, fo, tl, ew, ⟨oc, od, fd, osl, efo⟩, hf, act, ht⟩ := h
  subst ew
  refine wpAny_Call_Name_kw (thn ((pe_var (pos := p1) (i := i) hN hv hd hcd).run pins s σ H (fun v H1 => v = .ref f ∧ H1 = H) I ⟨.ref f, hs, rfl, rfl⟩) fun u s1 hu => ?_)
  obtain ⟨v, H1, I1, rv, ev, eH⟩ := hu
  subst ev
  rw [eH] at I1
  obtain rfl : u = Value.ref f := rv
  have gf := pin_get I1.hok hf
  refine PySem.W.callWith_F0 ⟨oc, od, fd, osl, by rw [gf, efo]⟩ ?_
  refine wpAny_call (codeAny_mono (act X.A X.stack s1 H Q (E σ) hr I1.env0 ht) fun r s2 hq => ?_)
  cases r with
  | error e => exact hx σ pins H s1 e s2 I1 hq
  | ok fl =>
    cases fl with
    | ret u => exact I1.after hq
    | next => exact False.elim hq
    | brk => exact False.elim hq
    | cont => exact False.elim hq
/-- f(..), the caller's cells known while it runs -/
theorem pe_callT {k : Nat} {f : Addr} {fd : FuncData} {ps : List Str} {sp : Sp} {x : Str} {p pos : Pos} {e : Expr} {es : List Expr} {t : TA} (F : FnOk X.prog X.w X.K X.mg X.base C8.CX0 k f fd ps sp) (hr : Room k X.A) (hg : Gl X x) (hm : X.mg x = some (.ref f)) (hk : PySem.W.keepIn X.K (.ref f) = true)
    (hb : Binds X.K fd ps []) (hfn : ∀ x, X.fn x = true) (ha : PA X (e :: es) t) (hdb : (x == ("__debug__" : Str)) = false := by decide) (he : starEach (e :: es) X.env = (false, eval e X.env) :: starEach es X.env := by rfl)
    (hpl : (backTo pos (starEach es X.env)).any (·.1) = false := by rfl) : PE X (.Call (.Name x p) (e :: es) [] pos) (tCallT X sp t) := by
  refine ⟨fun pins s σ H Q I h => ?_⟩
  refine wpAny_Call_Name_kw (ld_glob I hg hm ?_ hdb)
  refine PySem.W.callWith_K (h₀ := X.base) I.ok.mod.kin hk (thn (ha.run pos pins s σ H _ I h) fun us s1 ⟨vs, H1, I1, r, q⟩ => ⟨I1.kIn, ?_⟩) he hpl
  obtain ⟨C, KC, hC⟩ := cells_of I1
  have q := q C KC fun c o e => (hC c o e).2.1
  have LS : Less C H1 (plus C H1) s1.heap := less_plus fun c o e => ⟨(hC c o e).2.1, (hC c o e).1⟩
  have big : ∀ c o, C c = some o → X.s_0.heap.objs.size ≤ c := fun c o e => by
    obtain ⟨y, ey⟩ := (hC c o e).2.2
    exact I1.ok.cab y c (hfn y) ey
  have none_of : ∀ b, b < X.s_0.heap.objs.size → C b = none := fun b lt => by
    cases z : C b with
    | none => rfl
    | some o => exact absurd (Nat.lt_of_lt_of_le lt (big b o z)) (Nat.lt_irrefl _)
  have e0 := I1.env0
  have e1 : Env0 X.prog X.w X.K X.mg X.base X.A X.stack s1 (plus C H1) := ⟨e0.frames, e0.mod, fun b o g => ⟨(e0.bs b o g).1, by
      rw [plus_out (none_of b (Nat.lt_of_lt_of_le (Heap.lt_size g) I1.ok.bsz))]
      exact (e0.bs b o g).2⟩, e0.bsz, e0.funs, fun b hb => by
      have nb : C b = none := by
        rcases List.mem_cons.mp (I1.stkSub b hb) with z | z
        · rw [z]
          cases w : C X.env.locals with
          | none => rfl
          | some o =>
            obtain ⟨y, ey⟩ := (hC _ o w).2.2
            exact absurd rfl (I1.cne y _ ey)
        · obtain ⟨_, o, ho, _⟩ := I1.ok.funs.mem z
          exact none_of b (Heap.lt_size ho)
      rw [plus_out nb]
      exact e0.frf b hb, LS.hok e0.hok, e0.bare⟩
  have hl : us.length = ps.length := by rw [← r.length]; exact F.len _ _ _ _ q
  have b := hb s1 us I1.kIn (by rw [List.append_nil]; exact hl)
  rw [List.append_nil] at b
  refine wpAny_call (codeAny_mono (F.run X.A X.stack s1 (plus C H1) ⟨us, []⟩ us vs _ C8.E0 hr e1 b r q) fun rr s2 hq => ?_)
  cases rr with
  | error e => exact (show False from hq).elim
  | ok fl =>
    cases fl with
    | ret u => exact I1.after (ce_minus LS hq)
    | next => exact False.elim hq
    | brk => exact False.elim hq
    | cont => exact False.elim hq
end
end Clo

set_option Elab.async false
set_option linter.all false
set_option maxRecDepth 100000
/-! several except clauses, each with a name (the same one) -/
namespace Clo
open PySem PySem.Spec PyProof.Rows L2 LamX
/-- the ends of a suite behind which its name is gone -/
def goneD (i : Nat) (D : Ends) : Ends where
  nx := fun τ G => D.nx (τ.set i none) G
  rt := D.rt
  bk := fun τ G => D.bk (τ.set i none) G
  ct := fun τ G => D.ct (τ.set i none) G
/-- what the clauses wish, one behind the other; the caught one stands in slot i -/
def wNam (K : PySem.W.Frag) (i : Nat) (Wout : WX) (D : Ends) : List (Value × (Addr → Value → Option Addr → TS)) → WX
  | [] => Wout
  | (k, ts) :: more => fun cls d τ G => ∃ b, PySem.W.exmOne K cls k = some b ∧ (b = true → ∀ a, G a = none → ts a cls d (goneD i D) (τ.set i (some (.ref a))) G) ∧ (b = false → wNam K i Wout D more cls d τ G)
inductive HdsN (X : Cx) (n : Str) : List ExceptHandler → List (Value × (Addr → Value → Option Addr → TS)) → Prop
  | nil : HdsN X n [] []
  | cons {x : Str} {k : Value} {ts : Addr → Value → Option Addr → TS} {st : Stmt} {sts : List Stmt} {p1 p2 : Pos} {more : List ExceptHandler} {l : List (Value × (Addr → Value → Option Addr → TS))} (nm : Names X x k)
      (su : ∀ (a : Addr) (oe : Obj) (cls : Value) (d : Option Addr) (pn : List (Addr × Obj)), Zc cls d oe → (∃ vs, oe.data = .fields vs) → PSs (X.suite a ((a, oe) :: pn)) (st :: sts) (ts a cls d)) (r : HdsN X n more l) :
      HdsN X n (.ExceptHandler (some (.Name x p1)) (some n) (st :: sts) p2 :: more) ((k, ts) :: l)
section
variable {X : Cx} {body : List Stmt} {h₀ : ExceptHandler} {hds : List ExceptHandler} {l : List (Value × (Addr → Value → Option Addr → TS))} {pos : Pos} {tb : WX → TS} {Wout : WX} {n : Str} {i : Nat}
theorem ps_try_nam (st : X.stack = X.env :: X.outer) (fr : X.env.frame = some X.env.locals) (nd : X.N.Nodup) (at_ : X.N[i]? = some n) (lc : X.env.kindOf n = some .local) (tk : Takes X Wout)
    (hb : ∀ (W : WX) (pn : List (Addr × Obj)) (xe : Value → Shared → Prop), Takes (X.tr pn xe) W → PassesOwn (model X.prog X.w) X.A X.env xe → PSs (X.tr pn xe) body (tb W)) (hh : HdsN X n (h₀ :: hds) l) :
    PS X (.Try body (h₀ :: hds) [] [] pos) (fun D τ G => tb (wNam X.K i Wout D l) D τ G) := by
  refine ⟨fun pins s τ G D I hyp => ?_⟩
  have ok := I.ok
  have frames : X.A.frames = some (X.env :: X.outer) := by
    rw [ok.frames, st]
  refine wpAny_Try_except (wpAny_mono ((hb (wNam X.K i Wout D l) (X.pn ++ pins)
    (fun e s₁ => wpAny (model X.prog X.w) X.A (noteFrame e X.env) (fun _ s₂ => wpAny (model X.prog X.w) X.A (setFlight e none)
      (fun _ s₃ => wpAny (model X.prog X.w) X.A (handleBy e X.env (h₀ :: hds)) (SP X pins D) X.xe s₃) X.xe s₂) X.xe s₁)
    (fun u s' air => ?_) PassesOwn.looking).run [] s τ G D (I.toTry _) hyp) (fun f s1 z => ?_) (fun e s1 z => z))
  · obtain ⟨a, B, sI, pins', τ', G', cls, d, rfl, J', below, up, sky, new, os, bare, wish⟩ := air
    have J : Inv X pins τ' G' sI := J'.ofTry ok
    have sky1 : Sky B (X.env :: X.outer) a (Zc cls d) X.env.locals s'.heap := by
      rw [← st]
      exact sky
    show wpAny (model X.prog X.w) X.A (noteFrame (.ref a) X.env) _ _ _
    refine Sky.land Zc.steady frames fr sky1 fun h3 fly up3 => ?_
    have J3 : Inv X pins τ' G' { s' with heap := h3 } := J.landed below fly.1 (up.trans up3) os bare
    obtain ⟨oe, vs, ge, ze, de⟩ := fly.there
    have noFrame : a ∉ frs (X.env :: X.outer) := fun m => by
      obtain ⟨_, o', g', other⟩ := fly.2.2.1.mem m
      rw [ge] at g'
      cases g'
      exact other _ de
    have noLoc : a ≠ X.env.locals := fun z => noFrame (List.mem_filterMap.mpr ⟨X.env, List.mem_cons_self, by rw [fr, z]⟩)
    have noOut : a ∉ X.fs := fun m => by
      obtain ⟨e, me, q⟩ := List.mem_filterMap.mp m
      exact noFrame (List.mem_filterMap.mpr ⟨e, List.mem_cons_of_mem _ me, q⟩)
    have S3 := J3.suite ge de new noLoc noOut
    have go : ∀ {hs : List ExceptHandler} {ll : List (Value × (Addr → Value → Option Addr → TS))}, HdsN X n hs ll → wNam X.K i Wout D ll cls d τ' G' → wpAny (model X.prog X.w) X.A (handleBy (.ref a) X.env hs) (SP X pins D) X.xe { s' with heap := h3 } := by
      intro hs ll hk
      induction hk with
      | nil =>
        intro wish
        refine wpAny_handleBy_nil ?_
        obtain ⟨_, _, _, oe', vs', T, oT, tt, ge', _, de', g1, _⟩ := id fly
        have out : wpAny (model X.prog X.w) X.A (setFlight (.ref a) X.env.frame) (fun _ s4 => wpAny (model X.prog X.w) X.A (throw (.ref a) : Sem Flow) (SP X pins D) X.xe s4) X.xe { s' with heap := h3 } := by
          rw [fr]
          exact HandSPX.setFlight_upZ fly fun h4 hh4 up4 => wpAny_throw (tk _ _ ⟨a, B, sI, pins, τ', G', cls, d, rfl, J, below, (up.trans up3).trans up4, .inr (.inr (by rw [st]; exact hh4)), new, os, bare, wish⟩)
        unfold PySem.passOn
        refine wpAny_bind (wpAny_field ge' de' g1 ?_)
        rw [if_neg (show ¬ (Value.ref T == Value.none) = true from by simp)]
        first
          | exact wpAny_bind (wpAny_pure (wpAny_bind out))
          | exact wpAny_bind out
      | @cons x k ts st0 sts p1 p2 more ll nm su r ih =>
        intro wish
        obtain ⟨b, decided, yes, no⟩ := wish
        refine wpAny_handleBy_cons (codeAny_handlers_test ?_) (by intro q; cases q)
        have tyOf : PySem.W.Looks (model X.prog X.w) h3 (typeOf (.ref a)) cls := fun A Q E s k q => wpAny_typeOf_ref (k _ _ ge) (by rw [ze.1]; exact q)
        have named : ∀ {Q : Value → Shared → Prop} {E : Value → Shared → Prop}, Q k { s' with heap := h3 } → wpAny (model X.prog X.w) (X.A.mark (some (.ref a))) (eval (.Name x p1) X.env) Q E { s' with heap := h3 } := fun {Q E} q => by
          obtain ⟨g, dbg, m | ⟨m, v, nn⟩⟩ := nm
          · exact ld_glob (X := X.suite a ((a, oe) :: (X.pn ++ pins))) S3 g m q dbg
          · exact ld_blt (X := X.suite a ((a, oe) :: (X.pn ++ pins))) S3 g m v q nn dbg
        refine named ((PySem.W.exm_one (M := model X.prog X.w) (J3.kIn) tyOf decided).here ?_)
        cases b with
        | false =>
          show wpAny _ X.A (handleBy (.ref a) X.env more) _ _ _
          exact ih (no rfl)
        | true =>
          refine codeAny_handlers_suite_as (HandSPX.lands_againZ fly fun h4 fly4 up4 => ?_)
          have J4 : Inv X pins τ' G' { s' with heap := h4 } := J.landed below fly4.1 ((up.trans up3).trans up4) os bare
          obtain ⟨oe4, vs4, ge4, ze4, de4⟩ := fly4.there
          refine store_ok (X := X.suite a ((a, oe4) :: (X.pn ++ pins))) (v := .ref a) (J4.suite ge4 de4 new noLoc noOut) nd at_ (.inl lc) rfl (fun s5 S5 => ?_) (.inr lc)
          refine wpAny_mono ((su a oe4 cls d (X.pn ++ pins) ze4 ⟨_, de4⟩).run [] s5 _ G' _ S5 (yes rfl a new)) (fun f s6 z => ?_) (fun _ _ z => z.elim)
          have away : ∀ {τ6 : L2.St} {G6 : Hp} {Q : Shared → Prop}, Inv (X.suite a ((a, oe4) :: (X.pn ++ pins))) [] τ6 G6 s6 → (∀ s7, Inv X pins (τ6.set i none) G6 s7 → Q s7) →
              wpAny (model X.prog X.w) X.A (do bindName X.env n .none; unbindBehindTheSuite X.env n p2) (fun _ s7 => Q s7) X.xe s6 := fun S6 hq => gone_ok (S6.unsuite ok) nd at_ lc hq
          cases f with
          | next =>
            obtain ⟨τ6, G6, S6, q6⟩ := z
            exact away S6 fun s7 J7 => ⟨_, _, J7, q6⟩
          | brk =>
            obtain ⟨τ6, G6, S6, q6⟩ := z
            exact away S6 fun s7 J7 => ⟨_, _, J7, q6⟩
          | cont =>
            obtain ⟨τ6, G6, S6, q6⟩ := z
            exact away S6 fun s7 J7 => ⟨_, _, J7, q6⟩
          | ret u =>
            obtain ⟨v6, τ6, G6, S6, r6, q6⟩ := z
            exact away S6 fun s7 J7 => ⟨_, _, _, J7, r6, q6⟩
    exact go hh wish
  · cases f with
    | next =>
      obtain ⟨τ', G', J', q⟩ := z
      exact wpAny_execs_nil ⟨τ', G', J'.ofTry ok, q⟩
    | brk =>
      obtain ⟨τ', G', J', q⟩ := z
      exact ⟨τ', G', J'.ofTry ok, q⟩
    | cont =>
      obtain ⟨τ', G', J', q⟩ := z
      exact ⟨τ', G', J'.ofTry ok, q⟩
    | ret u =>
      obtain ⟨v, τ', G', J', r, q⟩ := z
      exact ⟨v, τ', G', J'.ofTry ok, r, q⟩
end
end Clo

set_option Elab.async false
set_option linter.all false
set_option maxRecDepth 100000
namespace My
open PySem L2
/-- a written dict with text keys, all of it: at a, these entries -/
structure SDict (K : PySem.W.Frag) (w : World) (a : Addr) (kvs : List (Key × V)) : Prop where
  ex : ∃ (es : Array DictEntry) (n : Nat), K.lookup a = some ⟨.type "dict", none, .dict es n, #[]⟩ ∧ PySem.W.KeysLit w.params es.toList ∧ (a == sysModules) = false ∧
    Paired (fun (e : DictEntry) (kv : Key × V) => ∃ x t, e.key = .str x t ∧ kv.1 = .inr x ∧ RelV kv.2 e.val) es.toList kvs ∧ (kvs.map (·.1)).Nodup ∧ kvs.length ≤ sizeLine
theorem sdict_pairs {P : Program} {w : World} : ∀ {es : List DictEntry} {kvs : List (Key × V)}, Paired (fun (e : DictEntry) (kv : Key × V) => ∃ x t, e.key = .str x t ∧ kv.1 = .inr x ∧ RelV kv.2 e.val) es kvs →
    ∃ vs : List (Key × Value), PySem.Pairs (mixKind P w) es vs ∧ KV kvs vs ∧ vs.map (·.1) = kvs.map (·.1)
  | _, _, .nil => ⟨[], .nil, .nil, rfl⟩
  | _, _, @Paired.cons _ _ _ e kv es kvs h t => by
    obtain ⟨x, tk, e1, e2, e3⟩ := h
    obtain ⟨vs, h1, h2, h3⟩ := sdict_pairs (P := P) (w := w) t
    refine ⟨(.inr x, e.val) :: vs, .cons ?_ rfl h1, .cons ⟨e2, e3⟩ h2, by rw [List.map_cons, List.map_cons, h3, e2]⟩
    show keyIs (.inr x) e.key = true
    rw [e1]
    exact keyIs_str x tk
theorem SDict.at {K : PySem.W.Frag} {P : Program} {w : World} {a : Addr} {kvs : List (Key × V)} (D : SDict K w a kvs) {h : Heap} (X : K.In h) : kvs.length ≤ sizeLine ∧ (a == sysModules) = false ∧ ∃ vs, KV kvs vs ∧ h.DictOf (mixKind P w) a vs := by
  obtain ⟨es, n, hl, hk, lo, hp, nd, sz⟩ := D.ex
  obtain ⟨vs, h1, h2, h3⟩ := sdict_pairs (P := P) (w := w) hp
  refine ⟨sz, lo, vs, h2, _, es, n, X _ _ hl, ⟨rfl, rfl, rfl⟩, rfl, fun e he => ?_, h1, by rw [h3]; exact nd⟩
  obtain ⟨x, t, e1, e2⟩ := hk.all e (Array.mem_toList_iff.mpr he)
  refine ⟨.inr x, ?_, e2⟩
  show keyIs (.inr x) e.key = true
  rw [e1]
  exact keyIs_str x t
/-- dict(d), d a written dict: a copy -/
theorem call_dictS {X : Cx} : CallR X (.type "dict") (fun xs H Q => ∃ (a : Addr) (kvs : List (Key × V)), xs = [.ref a] ∧ SDict X.K X.w a kvs ∧ ∀ p, H p = none → Q (.ref p) (upd H p (.dK kvs))) := by
  intro pins s σ H xs us Q I r q
  obtain ⟨a, kvs, ex, hd, q⟩ := q
  subst ex
  obtain ⟨u, eu, rx⟩ := vals1 r
  subst eu
  cases rx
  obtain ⟨z, lo, vs, rel, dd⟩ := hd.at (P := X.prog) I.kIn
  refine kt_call_dict lo dd (by rw [← rel.length]; exact z) fun h' d' hs => ?_
  have hm : (s.heap.objs.size == sysModules) = false := beq_eq_false_iff_ne.mpr (Nat.ne_of_gt I.big)
  exact ⟨.ref s.heap.objs.size, upd H s.heap.objs.size (.dK kvs), I.laid (t' := s.toks) (fun b u e => (hs.2 b (Nat.ne_of_lt (Heap.lt_size e))).trans (Heap.get?_push_of_some _ e)) (Nat.le_refl _)
    (show ObjOk X.prog X.w _ _ _ (.dK kvs) from ⟨z, hm, vs, rel, d'⟩), rfl, q _ (I.hok.fresh (Nat.le_refl _))⟩
end My

set_option Elab.async false
set_option linter.all false
set_option maxRecDepth 100000
namespace My
open PySem L2
/-! ### two values that are the same in all their parts -/
def flatv : V → Bool
  | .non => true
  | .bl _ => true
  | .int _ => true
  | .str _ => true
  | _ => false
def Tw (K : PySem.W.Frag) (H : Hp) : Nat → V → V → Prop
  | 0, _, _ => False
  | n + 1, v, u => (v = u ∧ flatv v = true) ∨ (∃ (a : Addr) (kvs : List (Key × V)), v = .ref a ∧ u = .ref a ∧ H a = some (.dK kvs) ∧ (kvs.map (·.1)).Nodup ∧ ∀ p ∈ kvs, flatB p.2 = true) ∨
    (∃ (a b : Addr) (xs ys : List V), v = .ref a ∧ u = .ref b ∧ SqT K H a xs ∧ SqT K H b ys ∧ xs.length ≤ 1000 ∧ Paired (Tw K H n) xs ys) ∨
    (∃ (a b : Addr) (xs ys : List V), v = .ref a ∧ u = .ref b ∧ SqL K H a xs ∧ SqL K H b ys ∧ xs.length ≤ 1000 ∧ Paired (Tw K H n) xs ys)
theorem paired_imp {α β : Type} {r s : α → β → Prop} (h : ∀ x y, r x y → s x y) : ∀ {xs : List α} {ys : List β}, Paired r xs ys → Paired s xs ys
  | _, _, .nil => .nil
  | _, _, .cons a b => .cons (h _ _ a) (paired_imp h b)
theorem paired_at {α β : Type} {r : α → β → Prop} : ∀ {xs : List α} {ys : List β} {i : Nat} {x : α} {y : β}, Paired r xs ys → xs[i]? = some x → ys[i]? = some y → r x y
  | _, _, _, _, _, .nil, e, _ => by simp at e
  | _, _, 0, _, _, .cons a _, e1, e2 => by
    simp at e1 e2
    rw [← e1, ← e2]
    exact a
  | _, _, i + 1, _, _, .cons _ b, e1, e2 => paired_at (i := i) b (by simpa using e1) (by simpa using e2)
variable {K : PySem.W.Frag}
theorem tw_same {H H' : Hp} (s : Same H H') : ∀ {n : Nat} {v u : V}, Tw K H n v u → Tw K H' n v u
  | 0, _, _, h => h
  | n + 1, v, u, h => by
    rcases h with h | ⟨a, kvs, e1, e2, ha, h1, h2⟩ | ⟨a, b, xs, ys, e1, e2, sa, sb, hl, hp⟩ | ⟨a, b, xs, ys, e1, e2, sa, sb, hl, hp⟩
    · exact .inl h
    · exact .inr (.inl ⟨a, kvs, e1, e2, s _ _ ha, h1, h2⟩)
    · exact .inr (.inr (.inl ⟨a, b, xs, ys, e1, e2, seqT_same s sa, seqT_same s sb, hl, paired_imp (fun _ _ => tw_same s) hp⟩))
    · exact .inr (.inr (.inr ⟨a, b, xs, ys, e1, e2, s.seq sa, s.seq sb, hl, paired_imp (fun _ _ => tw_same s) hp⟩))
theorem tw_mono {H : Hp} : ∀ {n m : Nat} {v u : V}, n ≤ m → Tw K H n v u → Tw K H m v u
  | 0, _, _, _, _, h => h.elim
  | n + 1, 0, _, _, hm, _ => absurd hm (by omega)
  | n + 1, m + 1, v, u, hm, h => by
    have le : n ≤ m := by omega
    rcases h with h | h | ⟨a, b, xs, ys, e1, e2, sa, sb, hl, hp⟩ | ⟨a, b, xs, ys, e1, e2, sa, sb, hl, hp⟩
    · exact .inl h
    · exact .inr (.inl h)
    · exact .inr (.inr (.inl ⟨a, b, xs, ys, e1, e2, sa, sb, hl, paired_imp (fun _ _ => tw_mono le) hp⟩))
    · exact .inr (.inr (.inr ⟨a, b, xs, ys, e1, e2, sa, sb, hl, paired_imp (fun _ _ => tw_mono le) hp⟩))
theorem widAll_cons {d : PyData} {ds : List PyData} (h : widAll (d :: ds) = true) : widD d = true ∧ widAll ds = true := by
  unfold widAll at h
  exact Bool.and_eq_true_iff.mp h
mutual
theorem tw_dp {H : Hp} : ∀ (D : PyData) (v u : V), widD D = true → Dp K H v D → Dp K H u D → Tw K H (D.depth + 1) v u
  | .none, _, _, _, h, g => by cases h; cases g; exact .inl ⟨rfl, rfl⟩
  | .bool b, _, _, _, h, g => by cases h; cases g; exact .inl ⟨rfl, rfl⟩
  | .int i, _, _, _, h, g => by cases h; cases g; exact .inl ⟨rfl, rfl⟩
  | .str x, _, _, _, h, g => by cases h; cases g; exact .inl ⟨rfl, rfl⟩
  | .list ds, _, _, s, h, g => by
    unfold widD at s
    obtain ⟨s1, s2⟩ := Bool.and_eq_true_iff.mp s
    cases h with
    | lst hs ha =>
    cases g with
    | lst gs ga =>
      simp only [PyData.depth]
      exact .inr (.inr (.inr ⟨_, _, _, _, rfl, rfl, hs, gs, by rw [dpAll_len ha]; exact of_decide_eq_true s1, tw_dpAll ds _ _ s2 ha ga⟩))
  | .tuple ds, _, _, s, h, g => by
    unfold widD at s
    obtain ⟨s1, s2⟩ := Bool.and_eq_true_iff.mp s
    cases h with
    | tup hs ha =>
    cases g with
    | tup gs ga =>
      simp only [PyData.depth]
      exact .inr (.inr (.inl ⟨_, _, _, _, rfl, rfl, hs, gs, by rw [dpAll_len ha]; exact of_decide_eq_true s1, tw_dpAll ds _ _ s2 ha ga⟩))
  | .dict _, _, _, _, h, _ => by cases h
theorem tw_dpAll {H : Hp} : ∀ (ds : List PyData) (xs ys : List V), widAll ds = true → DpAll K H xs ds → DpAll K H ys ds → Paired (Tw K H (PyData.depthAll ds + 1)) xs ys
  | [], _, _, _, h, g => by cases h; cases g; exact .nil
  | d :: ds, _, _, s, h, g => by
    obtain ⟨s1, s2⟩ := widAll_cons s
    cases h with
    | cons h1 h2 =>
    cases g with
    | cons g1 g2 =>
      have a := tw_dp d _ _ s1 h1 g1
      have b := tw_dpAll ds _ _ s2 h2 g2
      simp only [PyData.depthAll]
      exact .cons (tw_mono (by omega) a) (paired_imp (fun _ _ => tw_mono (by omega)) b)
end

/-! ### rules -/
/-- of a kind, wherever all stays -/
structure TyS (K : PySem.W.Frag) (H : Hp) (v : V) (g : String) : Prop where
  same : ∀ {H'}, Same H H' → TyX K H' v (.type g)
theorem tyT {H : Hp} {a : Addr} {xs : List V} (h : SqT K H a xs) : TyS K H (.ref a) "tuple" := ⟨fun s => by
  rcases seqT_same s h with (hs | ⟨o, hs⟩) | ⟨o, its, n, lk, c, _⟩
  · exact .base (.tup hs)
  · exact .fTuple hs
  · exact .kTuple lk c⟩
theorem tyL {H : Hp} {a : Addr} {xs : List V} (h : SqL K H a xs) : TyS K H (.ref a) "list" := ⟨fun s => by
  rcases s.seq h with (hs | ⟨o, hs⟩) | ⟨o, its, n, lk, c, _⟩
  · exact .base (.lst hs)
  · exact .base (.frz hs)
  · exact .kList lk c⟩
theorem op_orR {X : Cx} {f : Value → Value → Sem Value} {r1 r2 : R2} (a : OpR X f r1) (b : OpR X f r2) : OpR X f (fun x y H Q => r1 x y H Q ∨ r2 x y H Q) := fun pins s σ H x y v u Q I rx ry h =>
  h.elim (a pins s σ H x y v u Q I rx ry) (b pins s σ H x y v u Q I rx ry)
theorem kit2 {g : String} {b1 b2 : Bool} (h1 : kitB g "tuple" = some b1) (h2 : kitB g "list" = some b2) : PySem.W.kitAny K (.type g) [.type "tuple", .type "list"] = some (b1 || b2) := by
  cases b1 with
  | true => exact kitAny_cons (kit_ty h1) (fun z => nomatch z) fun _ => rfl
  | false =>
    refine kitAny_cons (kit_ty h1) (fun _ => ?_) fun z => nomatch z
    cases b2 with
    | true => exact kitAny_cons (kit_ty h2) (fun z => nomatch z) fun _ => rfl
    | false => exact kitAny_cons (kit_ty h2) (fun _ => kitAny_nil) fun z => nomatch z
theorem all_tt (n : Nat) : (List.replicate n true).all id = true := by
  rw [List.all_eq_true]
  intro x h
  rw [List.eq_of_mem_replicate h]
  rfl
theorem same_at {H H' : Hp} {D : Addr} {o : HO} (s : Same H H') (n : H D = none) : Same H (upd H' D o) := fun c u e => by
  rw [upd_ne (ne_of_none e n)]
  exact s c u e
theorem kTs : PySem.W.kitAny K (.type "tuple") [.type "tuple", .type "list"] = some true := kit2 (g := "tuple") (b1 := true) (b2 := false) (by decide +kernel) (by decide +kernel)
theorem kLs : PySem.W.kitAny K (.type "list") [.type "tuple", .type "list"] = some true := kit2 (g := "list") (b1 := false) (b2 := true) (by decide +kernel) (by decide +kernel)
theorem kTT : PySem.W.kitOne K (.type "tuple") (.type "tuple") = some true := kit_ty (by decide +kernel)
theorem kTL : PySem.W.kitOne K (.type "tuple") (.type "list") = some false := kit_ty (by decide +kernel)
theorem kLT : PySem.W.kitOne K (.type "list") (.type "tuple") = some false := kit_ty (by decide +kernel)
theorem kLL : PySem.W.kitOne K (.type "list") (.type "list") = some true := kit_ty (by decide +kernel)
/-- the tuples that zip goes over, their items in new pairs -/
theorem walk_zipT {a b : Addr} {xs ys : List V} (hl : xs.length = ys.length) : Walk (RZ.ItzT K a b) xs.length (fun H => SqT K H a xs ∧ SqT K H b ys) (YPair (fun i => xs[i]?) (fun i => ys[i]?)) := by
  refine ⟨fun i H hi q => ?_, fun H q => ⟨xs, ys, q.1, q.2, .inl (Nat.le_refl _)⟩, fun i H v H' _ q y => ?_⟩
  · exact ⟨xs, ys, xs[i], ys[i]'(by omega), q.1, q.2, List.getElem?_eq_getElem hi, List.getElem?_eq_getElem (by omega)⟩
  · obtain ⟨T, x, z, e1, n, e2, f1, f2⟩ := y
    exact ⟨T, x, z, e1, n, e2, f1 xs q.1, f2 ys q.2⟩
abbrev s_law_same : Stmt := top 43
abbrev N_law_same : List Str := ["_law_told", "_law_due", "_law_one", "_law_other"]
abbrev P_law_same : List Str := ["_law_told", "_law_due"]
theorem sc_law_same : FnScope N_law_same P_law_same (defScope s_law_same) := ⟨rfl, rfl, rfl, by decide +kernel, rfl, by decide +kernel, by decide +kernel⟩
def spSame (K : PySem.W.Frag) (n : Nat) : Sp := fun vs H Q _ => ∃ v u : V, vs = [v, u] ∧ Tw K H n v u ∧ ∀ H', Same H H' → Q (.bl true) H'
section
variable {P : Program} {w : World} {mg : Str → Option Value} {base : Heap} {f : Addr} {fd : FuncData}
theorem ok_law_same {n : Nat} (T : Txt K mg) (zip : mg "zip" = none) (F : Fun K "_law_same" "_law_same" s_law_same f fd) (C_law_same : Cal P w K mg base "_law_same" (1 + n) P_law_same (spSame K n)) :
    FnOk P w K mg base CX0 (1 + n + 1) f fd P_law_same (spSame K (n + 1)) := by
  refine F.ok sc_law_same (fun vs H Q E h => ?_) (fun cdv A outer s H vs Q E hr h => ?_)
  · obtain ⟨v, u, rfl, _⟩ := h
    rfl
  obtain ⟨v, u, rfl, h, q⟩ := h
  have hu : A.units + 3 < cLine := by
    have := hr.un
    exact Nat.lt_of_le_of_lt (by show A.units + 3 ≤ A.units + 3 + 16 * (1 + n) + 200; omega) this
  refine ⟨_, (pss_cons (ps_if (pt_val (pe_callB call_isiT rfl T.isinstance (by decide +kernel) (pa_cons (pv 1) (pa_cons (pe_tup (pa_cons (pe_bltn (v := .ty "tuple") rfl T.tuple (by decide +kernel) rfl) (pa_cons (pe_bltn (v := .ty "list") rfl T.list (by decide +kernel) rfl) pa_nil))) pa_nil))))
    (pss_cons (ps_if (PW.pt (pw_or (pt_cmpR op_ne (pe_callB call_isi rfl T.isinstance (by decide +kernel) (pa_cons (pv 0) (pa_cons (pe_bltn (v := .ty "tuple") rfl T.tuple (by decide +kernel) rfl) pa_nil))) (pe_callB call_isi rfl T.isinstance (by decide +kernel) (pa_cons (pv 1) (pa_cons (pe_bltn (v := .ty "tuple") rfl T.tuple (by decide +kernel) rfl) pa_nil))) (nomark _)) (pw_or1 (pt_cmpR op_ne (pe_callB call_isi rfl T.isinstance (by decide +kernel) (pa_cons (pv 0) (pa_cons (pe_bltn (v := .ty "list") rfl T.list (by decide +kernel) rfl) pa_nil))) (pe_callB call_isi rfl T.isinstance (by decide +kernel) (pa_cons (pv 1) (pa_cons (pe_bltn (v := .ty "list") rfl T.list (by decide +kernel) rfl) pa_nil))) (nomark _)))))
      (pss_one (ps_ret pe_bl))
      pss_nil)
    (pss_one (ps_ret (pe_and (pe_cmpR op_eq (pe_callB call_len rfl T.len (by decide +kernel) (pa_cons (pv 0) pa_nil)) (pe_callB call_len rfl T.len (by decide +kernel) (pa_cons (pv 1) pa_nil)) (nomark _)) (pe_one (pe_callB (cr_all rfl) rfl T.all (by decide +kernel) (pa_cons (pe_lc (own := [("_law_one", 2), ("_law_other", 3)]) (g := gTup K 2 (gCons (gName 2) (gCons (gName 3) gNil))) rfl sc_law_same.nd (RZ.pi_zipA rfl zip (pa_cons (pv 0) (pa_cons (pv 1) pa_nil))) (blkOk_by (own := [("_law_one", 2), ("_law_other", 3)]) (N := N_law_same) (sc := defScope s_law_same) (by decide +kernel)) (fun _ _ _ _ _ => (pg_tup rfl (pgs_cons (pg_name (i := 2) sc_law_same.nd rfl (Or.inl rfl)) (pgs_cons (pg_name (i := 3) sc_law_same.nd rfl (Or.inl rfl)) pgs_nil)))) (fun _ _ _ _ _ => pts_nil) (fun _ _ _ _ _ => (pe_callC C_law_same hr (pa_cons (pv 2) (pa_cons (pv 3) pa_nil))))) pa_nil)))))))
    pss_nil)
  (pss_one (ps_ret (pe_and (pe_cmpR op_eq (pe_callB call_isi rfl T.isinstance (by decide +kernel) (pa_cons (pv 0) (pa_cons (pe_bltn (v := .ty "bool") rfl T.bool (by decide +kernel) rfl) pa_nil))) (pe_callB call_isi rfl T.isinstance (by decide +kernel) (pa_cons (pv 1) (pa_cons (pe_bltn (v := .ty "bool") rfl T.bool (by decide +kernel) rfl) pa_nil))) (nomark _)) (pe_one (pe_cmpR (op_orR op_eq (op_eq_dict hu)) (pv 0) (pv 1) (nomark _))))))), ?_⟩
  have kinds : (∃ (g : String) (b : Bool), kitB g "tuple" = some false ∧ kitB g "list" = some false ∧ kitB g "bool" = some b ∧ (∀ H', Same H H' → TyX K H' v (.type g)) ∧ (∀ H', Same H H' → TyX K H' u (.type g)) ∧
      ((scal v u = true ∧ v = u) ∨ ∃ (a : Addr) (kvs : List (Key × V)), v = .ref a ∧ u = .ref a ∧ H a = some (.dK kvs) ∧ (kvs.map (·.1)).Nodup ∧ ∀ p ∈ kvs, flatB p.2 = true)) ∨
      (∃ (a b : Addr) (xs ys : List V), v = .ref a ∧ u = .ref b ∧ SqT K H a xs ∧ SqT K H b ys ∧ xs.length ≤ 1000 ∧ Paired (Tw K H n) xs ys) ∨
      (∃ (a b : Addr) (xs ys : List V), v = .ref a ∧ u = .ref b ∧ SqL K H a xs ∧ SqL K H b ys ∧ xs.length ≤ 1000 ∧ Paired (Tw K H n) xs ys) := by
    rcases h with ⟨rfl, fl⟩ | ⟨a, kvs, rfl, rfl, ha, h1, h2⟩ | h | h
    · refine .inl ?_
      cases v with
      | non => exact ⟨"NoneType", false, by decide +kernel, by decide +kernel, by decide +kernel, fun _ _ => .base .non, fun _ _ => .base .non, .inl ⟨rfl, rfl⟩⟩
      | bl b => exact ⟨"bool", true, by decide +kernel, by decide +kernel, by decide +kernel, fun _ _ => .base (.bl b), fun _ _ => .base (.bl b), .inl ⟨rfl, rfl⟩⟩
      | int b => exact ⟨"int", false, by decide +kernel, by decide +kernel, by decide +kernel, fun _ _ => .base (.int b), fun _ _ => .base (.int b), .inl ⟨rfl, rfl⟩⟩
      | str b => exact ⟨"str", false, by decide +kernel, by decide +kernel, by decide +kernel, fun _ _ => .base (.str b), fun _ _ => .base (.str b), .inl ⟨rfl, rfl⟩⟩
      | _ => cases fl
    · exact .inl ⟨"dict", false, by decide +kernel, by decide +kernel, by decide +kernel, fun _ s => .base (.dK (s _ _ ha)), fun _ s => .base (.dK (s _ _ ha)), .inr ⟨a, kvs, rfl, rfl, ha, h1, h2⟩⟩
    · exact .inr (.inl h)
    · exact .inr (.inr h)
  refine ⟨u, rfl, by show 2 ≤ sizeLine; decide, fun tp np => ?_⟩
  have s1 := same_new np (.tup [.ty "tuple", .ty "list"])
  rcases kinds with ⟨g, b, h1, h2, h3, tv, tu, he⟩ | ⟨a, b, xs, ys, rfl, rfl, sa, sb, hl, hp⟩ | ⟨a, b, xs, ys, rfl, rfl, sa, sb, hl, hp⟩
  · refine ⟨u, tp, [.ty "tuple", .ty "list"], .type g, [.type "tuple", .type "list"], false, rfl, upd_same, .cons (.ty _) (.cons (.ty _) .nil), tu _ s1, kit2 h1 h2, false, rfl, ?_⟩
    refine ⟨v, rfl, _, _, _, _, _, rfl, .ty "bool", tv _ s1, kit_ty h3, u, rfl, _, _, _, _, _, rfl, .ty "bool", tu _ s1, kit_ty h3, rfl, ?_⟩
    rw [decide_eq_true rfl]
    refine ⟨true, rfl, iteT ⟨v, rfl, u, rfl, ?_⟩⟩
    rcases he with ⟨sc, rfl⟩ | ⟨a, kvs, rfl, rfl, ha, nd, fl⟩
    · refine .inl ⟨sc, ?_⟩
      rw [decide_eq_true rfl]
      exact q _ s1
    · exact .inr ⟨a, a, kvs, rfl, rfl, s1 _ _ ha, s1 _ _ ha, nd, fl, q _ s1⟩
  · have ta := tyT sa
    have tb := tyT sb
    refine ⟨_, tp, [.ty "tuple", .ty "list"], .type "tuple", [.type "tuple", .type "list"], true, rfl, upd_same, .cons (.ty _) (.cons (.ty _) .nil), tb.same s1, kTs, true, rfl, ?_⟩
    refine ⟨_, rfl, _, _, _, _, _, rfl, .ty "tuple", ta.same s1, kTT, _, rfl, _, _, _, _, _, rfl, .ty "tuple", tb.same s1, kTT, rfl, false, rfl, ?_⟩
    refine ⟨_, rfl, _, _, _, _, _, rfl, .ty "list", ta.same s1, kTL, _, rfl, _, _, _, _, _, rfl, .ty "list", tb.same s1, kTL, rfl, false, rfl, ?_⟩
    have ll := Paired.length hp
    refine ⟨_, rfl, _, _, rfl, .inr ⟨xs, seqT_same s1 sa, rfl⟩, _, rfl, _, _, rfl, .inr ⟨ys, seqT_same s1 sb, rfl⟩, rfl, ?_⟩
    rw [ll, decide_eq_true rfl]
    refine ⟨true, rfl, iteT ?_⟩
    refine ⟨_, rfl, _, rfl, a, b, xs, ys, rfl, .inr ⟨seqT_same s1 sa, seqT_same s1 sb, fun D nD => ?_⟩⟩
    have s2 := s1.trans (same_new nD (.lst []))
    have nH : H D = none := by
      cases e : H D with
      | none => rfl
      | some o => rw [s1 _ _ e] at nD; cases nD
    refine lc_it (walk_zipT ll) (fun i H' => Same H H' ∧ H' D = some (.lst ((List.replicate i true).map V.bl))) ⟨s2, upd_same⟩ (fun i H' _ p => ⟨seqT_same p.1 sa, seqT_same p.1 sb⟩) (fun i x H1 H2 hi p y => ?_) fun H' p => ?_
    · obtain ⟨t, y1, y2, rfl, nt, rfl, e1, e2⟩ := y
      have s3 := p.1.trans (same_new nt (.tup [y1, y2]))
      have td : t ≠ D := fun z => by
        rw [z, p.2] at nt
        cases nt
      refine ⟨t, [y1, y2], rfl, .inl (.inl upd_same), rfl, y1, [y2], rfl, y2, [], rfl, rfl, rfl, ?_⟩
      refine ⟨_, rfl, _, rfl, y1, y2, rfl, tw_same s3 (paired_at hp e1 e2), fun H4 s4 => ⟨_, s4 D _ (by rw [upd_ne (Ne.symm td)]; exact p.2), small1000 (by rw [List.length_map, List.length_replicate]; omega), same_at (s3.trans s4) nH, ?_⟩⟩
      rw [upd_same, List.replicate_succ', List.map_append]
      rfl
    · refine ⟨D, List.replicate xs.length true, rfl, SqL.of p.2, ?_⟩
      rw [all_tt]
      exact q H' p.1
  · have ta := tyL sa
    have tb := tyL sb
    refine ⟨_, tp, [.ty "tuple", .ty "list"], .type "list", [.type "tuple", .type "list"], true, rfl, upd_same, .cons (.ty _) (.cons (.ty _) .nil), tb.same s1, kLs, true, rfl, ?_⟩
    refine ⟨_, rfl, _, _, _, _, _, rfl, .ty "tuple", ta.same s1, kLT, _, rfl, _, _, _, _, _, rfl, .ty "tuple", tb.same s1, kLT, rfl, false, rfl, ?_⟩
    refine ⟨_, rfl, _, _, _, _, _, rfl, .ty "list", ta.same s1, kLL, _, rfl, _, _, _, _, _, rfl, .ty "list", tb.same s1, kLL, rfl, false, rfl, ?_⟩
    have ll := Paired.length hp
    refine ⟨_, rfl, _, _, rfl, .inl ⟨xs, s1.seq sa, rfl⟩, _, rfl, _, _, rfl, .inl ⟨ys, s1.seq sb, rfl⟩, rfl, ?_⟩
    rw [ll, decide_eq_true rfl]
    refine ⟨true, rfl, iteT ?_⟩
    refine ⟨_, rfl, _, rfl, a, b, xs, ys, rfl, .inl ⟨s1.seq sa, s1.seq sb, fun D nD => ?_⟩⟩
    have s2 := s1.trans (same_new nD (.lst []))
    have nH : H D = none := by
      cases e : H D with
      | none => rfl
      | some o => rw [s1 _ _ e] at nD; cases nD
    refine lc_it (walk_zip (by rw [← ll, Nat.min_self])) (fun i H' => Same H H' ∧ H' D = some (.lst ((List.replicate i true).map V.bl))) ⟨s2, upd_same⟩ (fun i H' _ p => ⟨p.1.seq sa, p.1.seq sb⟩) (fun i x H1 H2 hi p y => ?_) fun H' p => ?_
    · obtain ⟨t, y1, y2, rfl, nt, rfl, e1, e2⟩ := y
      have s3 := p.1.trans (same_new nt (.tup [y1, y2]))
      have td : t ≠ D := fun z => by
        rw [z, p.2] at nt
        cases nt
      refine ⟨t, [y1, y2], rfl, .inl (.inl upd_same), rfl, y1, [y2], rfl, y2, [], rfl, rfl, rfl, ?_⟩
      refine ⟨_, rfl, _, rfl, y1, y2, rfl, tw_same s3 (paired_at hp e1 e2), fun H4 s4 => ⟨_, s4 D _ (by rw [upd_ne (Ne.symm td)]; exact p.2), small1000 (by rw [List.length_map, List.length_replicate]; omega), same_at (s3.trans s4) nH, ?_⟩⟩
      rw [upd_same, List.replicate_succ', List.map_append]
      rfl
    · refine ⟨D, List.replicate xs.length true, rfl, SqL.of p.2, ?_⟩
      rw [all_tt]
      exact q H' p.1
end
end My

set_option Elab.async false
set_option linter.all false
set_option maxRecDepth 100000
namespace My
open PySem L2
/-! ### own errors with one field -/
def meth (i j : Nat) : Stmt := (C8.clsBody (top i)).getD j (.Pass ⟨0, 0, 0, 0⟩)
def spInit (K : PySem.W.Frag) (C : Addr) (fld : Str) : Sp := fun vs H Q _ => ∃ (a : Addr) (v : V), vs = [.ref a, v] ∧ H a = some (exo a C none) ∧ OexC K C ∧ PySem.W.findIn K (.ref C) fld = some none ∧
  ∀ dx, H dx = none → dx ≠ a → Q .non (upd (upd H dx (exd dx [(fld, v)])) a (exo a C (some dx)))
structure OneE (P : Program) (w : World) (K : PySem.W.Frag) (mg : Str → Option Value) (base : Heap) (x fld : Str) (C : Addr) where
  oex : OexC K C
  xf : XfC K C
  no : PySem.W.findIn K (.ref C) fld = some none
  g : mg x = some (.ref C)
  fI : Addr
  fd : FuncData
  iC : PySem.W.findIn K (.ref C) "__init__" = some (some (.ref fI))
  tI : PySem.W.typeIn K (.ref fI) = some (.type "function")
  b : Binds K fd ["self", fld] []
  F : FnOk P w K mg base CX0 1 fI fd ["self", fld] (spInit K C fld)
section
variable {P : Program} {w : World} {K : PySem.W.Frag} {mg : Str → Option Value} {base : Heap} {f : Addr} {fd : FuncData}
theorem sc_i2 : FnScope ["self", "value"] ["self", "value"] (defScope (meth 3 0)) := ⟨rfl, rfl, rfl, by decide +kernel, rfl, by decide +kernel, by decide +kernel⟩
theorem ok_i2 (C : Addr) (F : Fun K "__init__" "BadValue.__init__" (meth 3 0) f fd) : FnOk P w K mg base CX0 1 f fd ["self", "value"] (spInit K C "value") := by
  refine F.ok sc_i2 (fun vs H Q E h => ?_) (fun cdv A outer s H vs Q E hr h => ?_)
  · obtain ⟨a, v, rfl, _⟩ := h
    rfl
  obtain ⟨a, v, rfl, ea, T, no, q⟩ := h
  refine ⟨_, pss_one (ps_ost (pv 0) (pv 1)), ?_⟩
  exact ⟨v, rfl, _, rfl, a, C, rfl, T, no, .inl ⟨ea, fun dx n ne => q dx n ne⟩⟩
end
section
variable {X : Cx} {x fld : Str} {C : Addr}
theorem exo_exd_ne {e C' : Addr} {d : Option Addr} : True := trivial
/-- C(v): the error's dict d is new, all else is as it was -/
theorem mk_one {K : PySem.W.Frag} {H1 : Hp} {v : V} {Q : XK} (T : OexC K C) (no : PySem.W.findIn K (.ref C) fld = some none) (q : ∀ d, H1 d = none → Q (.ref C) (some d) (upd H1 d (.xd [(fld, v)]))) :
    [v].length ≤ 1000 ∧ ∀ a, H1 a = none → spInit K C fld (.ref a :: ([v] ++ [])) (upd H1 a (exo a C none))
      (fun r H2 => r = .non ∧ ∃ (d : Addr) (fs : List (Str × V)), H2 a = some (exo a C (some d)) ∧ H2 d = some (exd d fs) ∧ H1 d = none ∧ Q (.ref C) (some d) (upd (L2.del H2 a) d (.xd fs))) (fun _ _ _ => False) := by
  refine ⟨by show 1 ≤ 1000; decide, fun a na => ⟨a, v, rfl, upd_same, T, no, fun dx nx ne => ⟨rfl, dx, [(fld, v)], upd_same, by rw [upd_ne ne, upd_same], by rw [upd_ne ne] at nx; exact nx, ?_⟩⟩⟩
  have n1 : H1 dx = none := by
    rw [upd_ne ne] at nx
    exact nx
  have e : upd (L2.del (upd (upd (upd H1 a (exo a C none)) dx (exd dx [(fld, v)])) a (exo a C (some dx))) a) dx (.xd [(fld, v)]) = upd H1 dx (.xd [(fld, v)]) := by
    funext b
    by_cases h1 : b = dx
    · rw [h1, upd_same, upd_same]
    · rw [upd_ne h1, upd_ne h1]
      by_cases h2 : b = a
      · rw [h2, L2.del_same, na]
      · rw [L2.del_ne h2, upd_ne h2, upd_ne h1, upd_ne h2]
  rw [e]
  exact q dx n1
theorem pass00 {X : Cx} : Passes CX0 X (fun _ _ _ => False) := fun _ _ _ _ _ _ _ h => h.elim
/-- raise x(e) -/
theorem ps_raise1 {W : WX} {e : Expr} {te : TE} {p pos pos2 : Pos} {k : Nat} (O : OneE X.prog X.w X.K X.mg X.base x fld C) (hc : X.calm = true) (hr : Room (k + 2) X.A) (tk : Takes X W) (he : PE X e te) (hg : Gl X x := by rfl)
    (hdb : (x == ("__debug__" : Str)) = false := by decide) (h1 : starEach (e :: []) X.env = (false, eval e X.env) :: starEach [] X.env := by rfl) (h2 : (backTo pos (starEach [] X.env)).any (·.1) = false := by rfl) :
    PS X (.Raise (some (.Call (.Name x p) [e] [] pos)) none pos2) (fun _ σ H => tMkO C (spInit X.K C fld) [] (tCons te tNil) σ H fun cls d H' => W cls d σ H') :=
  ps_raise hc tk (pmk_oex O.oex O.iC O.tI O.F (hr.mono (by omega)) O.b .nil pass00 hg O.g (pa_cons he pa_nil h1) hdb h1 h2)
end

/-! ### what is raised, told -/
structure ErrT (K : PySem.W.Frag) (mg : Str → Option Value) where
  B : Addr
  N : Addr
  D : Addr
  M : Addr
  gB : mg "BadValue" = some (.ref B)
  gN : mg "NotAText" = some (.ref N)
  gD : mg "TooDeep" = some (.ref D)
  gM : mg "TooMany" = some (.ref M)
  xB : XfC K B
  xN : XfC K N
  xD : XfC K D
  xM : XfC K M
  nB : PySem.W.findIn K (.ref B) "value" = some none
  nN : PySem.W.findIn K (.ref N) "at" = some none
  nD : PySem.W.findIn K (.ref D) "most" = some none
  nM : PySem.W.findIn K (.ref M) "most" = some none
  BB : PySem.W.exmOne K (.ref B) (.ref B) = some true
  NB : PySem.W.exmOne K (.ref N) (.ref B) = some false
  NN : PySem.W.exmOne K (.ref N) (.ref N) = some true
  DB : PySem.W.exmOne K (.ref D) (.ref B) = some false
  DN : PySem.W.exmOne K (.ref D) (.ref N) = some false
  DD : PySem.W.exmOne K (.ref D) (.ref D) = some true
  MB : PySem.W.exmOne K (.ref M) (.ref B) = some false
  MN : PySem.W.exmOne K (.ref M) (.ref N) = some false
  MD : PySem.W.exmOne K (.ref M) (.ref D) = some false
  MM : PySem.W.exmOne K (.ref M) (.ref M) = some true
/-- of which class, in which field, told with which word -/
def ErrW {K : PySem.W.Frag} {mg : Str → Option Value} (T : ErrT K mg) (C : Addr) (fld word : Str) : Prop :=
  (C = T.B ∧ fld = "value" ∧ word = "value") ∨ (C = T.N ∧ fld = "at" ∧ word = "text") ∨ (C = T.D ∧ fld = "most" ∧ word = "deep") ∨ (C = T.M ∧ fld = "most" ∧ word = "many")
/-- as Does, whatever is wished beyond -/
def DoesM (P : Program) (w : World) (K : PySem.W.Frag) (mg : Str → Option Value) (base : Heap) (k : Nat) (v : V) (H : Hp) (Q : VK) (E : XK) : Prop :=
  ∃ (f : Addr) (fo : Obj) (tl : Hp → VK → XK → Prop), v = .ref f ∧ Clo.FnObj fo ∧ H f = some (Clo.Pin f fo) ∧ Clo.Act P w K mg base k f tl ∧
    ∀ (Q' : VK) (E' : XK), (∀ v H', Q v H' → Q' v H') → (∀ c d H', E c d H' → E' c d H') → tl H Q' E'
theorem DoesM.does {P : Program} {w : World} {K : PySem.W.Frag} {mg : Str → Option Value} {base : Heap} {j k : Nat} {v : V} {H : Hp} {Q Q' : VK} {E E' : XK} (d : DoesM P w K mg base j v H Q E) (le : j ≤ k) (h1 : ∀ v H', Q v H' → Q' v H') (h2 : ∀ c d H', E c d H' → E' c d H') :
    Clo.Does P w K mg base k v H Q' E' := by
  obtain ⟨f, fo, tl, e, n, p, a, t⟩ := d
  exact ⟨f, fo, tl, e, n, p, a.mono le, t Q' E' h1 h2⟩
def wishE {K : PySem.W.Frag} {mg : Str → Option Value} (T : ErrT K mg) (Q : VK) : XK := fun cls d H' => ∃ (C dd : Addr) (fld word : Str) (x : V), cls = .ref C ∧ d = some dd ∧ ErrW T C fld word ∧ H' dd = some (.xd [(fld, x)]) ∧ ∀ p, H' p = none → Q (.ref p) (upd H' p (.tup [.str word, x]))
theorem lookup1 (f : Str) (v : V) : List.lookup f [(f, v)] = some v := by simp [List.lookup]
def spFault (P : Program) (w : World) (K : PySem.W.Frag) (mg : Str → Option Value) (base : Heap) (T : ErrT K mg) (k : Nat) : Sp := fun vs H Q _ => ∃ v, vs = [v] ∧ DoesM P w K mg base k v H (fun _ H' => Q .non H') (wishE T Q)
abbrev s_law_fault : Stmt := top 44
abbrev N_law_fault : List Str := ["_law_deed", "_law_told", "e"]
abbrev P_law_fault : List Str := ["_law_deed"]
theorem sc_law_fault : FnScope N_law_fault P_law_fault (defScope s_law_fault) := ⟨rfl, rfl, rfl, by decide +kernel, rfl, by decide +kernel, by decide +kernel⟩
section
variable {P : Program} {w : World} {K : PySem.W.Frag} {mg : Str → Option Value} {base : Heap} {f : Addr} {fd : FuncData}
theorem ok_law_fault {k : Nat} (T : ErrT K mg) (F : Fun K "_law_fault" "_law_fault" s_law_fault f fd) : FnOk P w K mg base CX0 (k + 1) f fd P_law_fault (spFault P w K mg base T k) := by
  refine F.ok sc_law_fault (fun vs H Q E h => ?_) (fun cdv A outer s H vs Q E hr h => ?_)
  · obtain ⟨v, rfl, _⟩ := h
    rfl
  obtain ⟨v, rfl, h⟩ := h
  refine ⟨_, (pss_cons (ps_set (i := 1) sc_law_fault.nd rfl (Or.inl rfl) pe_non)
  (pss_cons (Clo.ps_try_nam (i := 2) (tb := fun W => tDrop (Clo.tAct P w K mg base 0 k (WE W))) rfl rfl sc_law_fault.nd rfl rfl takes0 (fun W pn xe tk _ => pss_one (ps_expr (Clo.pe_act3 (i := 0) (E := WE W) hr (fun σ => passAt tk σ) rfl (Or.inl rfl))))
    (.cons ⟨rfl, by decide, .inl T.gB⟩ (fun a oe cls d pn hz hf => pss_one (ps_set (i := 1) sc_law_fault.nd rfl (Or.inl rfl) (pe_tup (pa_cons pe_str (pa_cons (pe_xf T.xB T.nB hz hf (pv 2)) pa_nil)))))
    (.cons ⟨rfl, by decide, .inl T.gN⟩ (fun a oe cls d pn hz hf => pss_one (ps_set (i := 1) sc_law_fault.nd rfl (Or.inl rfl) (pe_tup (pa_cons pe_str (pa_cons (pe_xf T.xN T.nN hz hf (pv 2)) pa_nil)))))
    (.cons ⟨rfl, by decide, .inl T.gD⟩ (fun a oe cls d pn hz hf => pss_one (ps_set (i := 1) sc_law_fault.nd rfl (Or.inl rfl) (pe_tup (pa_cons pe_str (pa_cons (pe_xf T.xD T.nD hz hf (pv 2)) pa_nil)))))
    (.cons ⟨rfl, by decide, .inl T.gM⟩ (fun a oe cls d pn hz hf => pss_one (ps_set (i := 1) sc_law_fault.nd rfl (Or.inl rfl) (pe_tup (pa_cons pe_str (pa_cons (pe_xf T.xM T.nM hz hf (pv 2)) pa_nil)))))
    .nil)))))
  (pss_one (ps_ret (pv 1))))), ?_⟩
  refine ⟨v, rfl, h.does (Nat.le_refl k) (fun r H' q => ⟨_, rfl, q⟩) fun cls d H' ⟨C, dd, fld, word, x, e1, e2, ew, ed, q⟩ => ?_⟩
  subst e1
  subst e2
  have l2 : 2 ≤ sizeLine := by decide
  rcases ew with ⟨rfl, rfl, rfl⟩ | ⟨rfl, rfl, rfl⟩ | ⟨rfl, rfl, rfl⟩ | ⟨rfl, rfl, rfl⟩
  · exact ⟨true, T.BB, fun _ a ha => ⟨.ref a, rfl, rfl, rfl, dd, _, x, rfl, ed, lookup1 _ _, l2, fun p hp => ⟨_, rfl, q p hp⟩⟩, fun z => nomatch z⟩
  · exact ⟨false, T.NB, (fun z => nomatch z), fun _ => ⟨true, T.NN, fun _ a ha => ⟨.ref a, rfl, rfl, rfl, dd, _, x, rfl, ed, lookup1 _ _, l2, fun p hp => ⟨_, rfl, q p hp⟩⟩, fun z => nomatch z⟩⟩
  · exact ⟨false, T.DB, (fun z => nomatch z), fun _ => ⟨false, T.DN, (fun z => nomatch z), fun _ => ⟨true, T.DD, fun _ a ha => ⟨.ref a, rfl, rfl, rfl, dd, _, x, rfl, ed, lookup1 _ _, l2, fun p hp => ⟨_, rfl, q p hp⟩⟩, fun z => nomatch z⟩⟩⟩
  · exact ⟨false, T.MB, (fun z => nomatch z), fun _ => ⟨false, T.MN, (fun z => nomatch z), fun _ => ⟨false, T.MD, (fun z => nomatch z), fun _ => ⟨true, T.MM, fun _ a ha => ⟨.ref a, rfl, rfl, rfl, dd, _, x, rfl, ed, lookup1 _ _, l2, fun p hp => ⟨_, rfl, q p hp⟩⟩, fun z => nomatch z⟩⟩⟩⟩
end

theorem DoesM.imp {P : Program} {w : World} {K : PySem.W.Frag} {mg : Str → Option Value} {base : Heap} {k : Nat} {v : V} {H : Hp} {Q Q' : VK} {E E' : XK} (d : DoesM P w K mg base k v H Q E) (h1 : ∀ v H', Q v H' → Q' v H') (h2 : ∀ c d H', E c d H' → E' c d H') :
    DoesM P w K mg base k v H Q' E' := by
  obtain ⟨f, fo, tl, e, n, p, a, t⟩ := d
  exact ⟨f, fo, tl, e, n, p, a, fun Q2 E2 i1 i2 => t Q2 E2 (fun v H' q => i1 v H' (h1 v H' q)) fun c d H' q => i2 c d H' (h2 c d H' q)⟩
/-- raises just what is due -/
def dueE {K : PySem.W.Frag} {mg : Str → Option Value} (T : ErrT K mg) (n : Nat) (u : V) (Q : VK) : XK := fun cls d H' => ∃ (C dd : Addr) (fld word : Str) (x : V), cls = .ref C ∧ d = some dd ∧ ErrW T C fld word ∧ H' dd = some (.xd [(fld, x)]) ∧
  ∀ p, H' p = none → Tw K (upd H' p (.tup [.str word, x])) n (.ref p) u ∧ ∀ H2, Same (upd H' p (.tup [.str word, x])) H2 → Q (.bl true) H2
def spFaults (P : Program) (w : World) (K : PySem.W.Frag) (mg : Str → Option Value) (base : Heap) (T : ErrT K mg) (k n : Nat) : Sp := fun vs H Q _ => ∃ v u, vs = [v, u] ∧ DoesM P w K mg base k v H (fun _ _ => False) (dueE T n u Q)
abbrev s_law_faults : Stmt := top 45
abbrev N_law_faults : List Str := ["_law_deed", "_law_due", "_law_told"]
abbrev P_law_faults : List Str := ["_law_deed", "_law_due"]
theorem sc_law_faults : FnScope N_law_faults P_law_faults (defScope s_law_faults) := ⟨rfl, rfl, rfl, by decide +kernel, rfl, by decide +kernel, by decide +kernel⟩
section
variable {P : Program} {w : World} {K : PySem.W.Frag} {mg : Str → Option Value} {base : Heap} {f : Addr} {fd : FuncData}
theorem ok_law_faults {k n : Nat} (T : ErrT K mg) (F : Fun K "_law_faults" "_law_faults" s_law_faults f fd) (C_law_fault : Cal P w K mg base "_law_fault" (k + 1) P_law_fault (spFault P w K mg base T k)) (C_law_same : Cal P w K mg base "_law_same" (1 + n) P_law_same (spSame K n)) :
    FnOk P w K mg base CX0 (k + n + 2) f fd P_law_faults (spFaults P w K mg base T k n) := by
  refine F.ok sc_law_faults (fun vs H Q E h => ?_) (fun cdv A outer s H vs Q E hr h => ?_)
  · obtain ⟨v, u, rfl, _⟩ := h
    rfl
  obtain ⟨v, u, rfl, h⟩ := h
  refine ⟨_, (pss_cons (ps_set (i := 2) sc_law_faults.nd rfl (Or.inl rfl) (pe_callC C_law_fault hr (pa_cons (pv 0) pa_nil)))
  (pss_one (ps_ret (pe_and (pe_cmpR op_notN (pv 2) pe_non (nomark _)) (pe_one (pe_callC C_law_same hr (pa_cons (pv 2) (pa_cons (pv 1) pa_nil)))))))), ?_⟩
  refine ⟨_, rfl, v, rfl, h.imp (fun _ _ z => z.elim) fun cls d H' ⟨C, dd, fld, word, x, e1, e2, ew, ed, q⟩ => ⟨C, dd, fld, word, x, e1, e2, ew, ed, fun p hp => ?_⟩⟩
  obtain ⟨tw, q⟩ := q p hp
  exact ⟨_, rfl, rfl, true, rfl, _, rfl, _, rfl, _, _, rfl, tw, q⟩
end
end My

set_option Elab.async false
set_option linter.all false
set_option maxRecDepth 100000
namespace My
open PySem L2
/-! ### a text that is read -/
abbrev sRd0 : Stmt := inClass (top 30) 0
abbrev NRd0 : List Str := ["self", "text"]
theorem scRd0 : FnScope NRd0 NRd0 (defScope sRd0) := ⟨rfl, rfl, rfl, by decide +kernel, rfl, by decide +kernel, by decide +kernel⟩
abbrev sRd1 : Stmt := inClass (top 30) 1
abbrev NRd1 : List Str := ["self", "signs"]
theorem scRd1 : FnScope NRd1 NRd1 (defScope sRd1) := ⟨rfl, rfl, rfl, by decide +kernel, rfl, by decide +kernel, by decide +kernel⟩
abbrev sRd2 : Stmt := inClass (top 30) 2
abbrev NRd2 : List Str := ["self"]
theorem scRd2 : FnScope NRd2 NRd2 (defScope sRd2) := ⟨rfl, rfl, rfl, by decide +kernel, rfl, by decide +kernel, by decide +kernel⟩
abbrev sRd3 : Stmt := inClass (top 30) 3
theorem scRd3 : FnScope NRd2 NRd2 (defScope sRd3) := ⟨rfl, rfl, rfl, by decide +kernel, rfl, by decide +kernel, by decide +kernel⟩
abbrev sRd4 : Stmt := inClass (top 30) 4
theorem scRd4 : FnScope NRd1 NRd1 (defScope sRd4) := ⟨rfl, rfl, rfl, by decide +kernel, rfl, by decide +kernel, by decide +kernel⟩
abbrev sRd5 : Stmt := inClass (top 30) 5
theorem scRd5 : FnScope NRd2 NRd2 (defScope sRd5) := ⟨rfl, rfl, rfl, by decide +kernel, rfl, by decide +kernel, by decide +kernel⟩
abbrev sRd9 : Stmt := inClass (top 30) 9
abbrev NRd9 : List Str := ["self", "start"]
theorem scRd9 : FnScope NRd9 NRd2 (defScope sRd9) := ⟨rfl, rfl, rfl, by decide +kernel, rfl, by decide +kernel, by decide +kernel⟩
/-- a statement that is not reached -/
theorem ps_no {X : Cx} {st : Stmt} : PS X st (fun _ _ _ => False) := ⟨fun _ _ _ _ _ _ h => h.elim⟩
/-- a text of these signs -/
abbrev Z (l : List Nat) : Str := ⟨l.toArray⟩
theorem Z_len (l : List Nat) : (Z l).length = l.length := by simp [Z, Str.length]
/-- the fields of a reader -/
def rF (z i : V) : List (Str × V) := [("text", z), ("at", i)]
/-- the object of a reader: what is read, and what is left -/
def rO (CR dx : Addr) (pre suf : List Nat) : HO := .ins CR dx (rF (.str (Z (pre ++ suf))) (.int pre.length))
theorem nAT : ¬ (("text" : Str) = "at") := by decide +kernel
theorem nTA : (("at" : Str) == "text") = false := by decide +kernel
theorem rF_at (a b : V) : (rF a b).lookup ("at" : Str) = some b := by
  unfold rF
  simp only [List.lookup, nTA, beq_self_eq_true]
theorem rF_text (a b : V) : (rF a b).lookup ("text" : Str) = some a := by
  unfold rF
  simp only [List.lookup, beq_self_eq_true]
theorem putF_new (a b : V) : putF "at" b (putF "text" a []) = rF a b := by
  show (if ("text" : Str) = "at" then _ else _ : List (Str × V)) = _
  rw [if_neg nAT]
  rfl
theorem putF_at (a b c : V) : putF "at" c (rF a b) = rF a c := by
  show (if ("text" : Str) = "at" then _ else _ : List (Str × V)) = _
  rw [if_neg nAT]
  show _ :: (if ("at" : Str) = "at" then _ else _ : List (Str × V)) = _
  rw [if_pos rfl]
  rfl
theorem rF_no {a b : V} {m : Str} (h1 : (m == "text") = false := by decide +kernel) (h2 : (m == "at") = false := by decide +kernel) : (rF a b).lookup m = none := by
  unfold rF
  simp only [List.lookup, h1, h2]
theorem rO_move (CR dx : Addr) (pre m suf : List Nat) : HO.ins CR dx (rF (.str (Z (pre ++ (m ++ suf)))) (.int (pre.length + m.length : Nat))) = rO CR dx (pre ++ m) suf := by
  unfold rO
  rw [List.append_assoc, List.length_append]
structure RdTxt (K : PySem.W.Frag) (CR : Addr) : Prop where
  cl : Cls K CR
  nAt : NoAttr K CR "at"
  nText : NoAttr K CR "text"
theorem cutS_mid (pre n suf : List Nat) : cutS (Z (pre ++ n ++ suf)) (some ((pre.length : Nat) : Int)) (some (((pre ++ n).length : Nat) : Int)) = Z n := by
  unfold cutS
  rw [HT.sIx_nat, HT.sIx_nat, Z_len]
  have h1 : min pre.length (pre ++ n ++ suf).length = pre.length := by simp only [List.length_append]; omega
  have h2 : min (pre ++ n).length (pre ++ n ++ suf).length - pre.length = n.length := by simp only [List.length_append]; omega
  rw [h1, h2]
  show Z (((pre ++ n ++ suf).drop pre.length).take n.length) = Z n
  rw [List.append_assoc, List.drop_left, List.take_left]
/-- a method's promise -/
structure Mth (P : Program) (w : World) (K : PySem.W.Frag) (mg : Str → Option Value) (base : Heap) (C : Addr) (m : Str) (k : Nat) (ps : List Str) (sp : Sp) where
  f : Addr
  fd : FuncData
  me : Meth K C m f
  ok : FnOk P w K mg base CX0 k f fd ps sp
  b : Binds K fd ps []
section
variable {X : Cx} {k j : Nat} {ps : List Str} {sp : Sp} {C : Addr} {m : Str} {E : XK} {o e : Expr} {es : List Expr} {ta : TE} {t : TA} {pos apos : Pos} {pl : Sem Bool}
theorem pe_methM (M : Mth X.prog X.w X.K X.mg X.base C m k ps sp) (he : PE X o ta) (c : Cls X.K C) (hr : Room j X.A) (ha : PA X (e :: es) t) (hk : k ≤ j := by omega)
    (hst : starEach (e :: es) X.env = (false, eval e X.env) :: starEach es X.env := by rfl) (hpl : (backTo pos (starEach es X.env)).any (·.1) = false := by rfl)
    (ht : eval (.Call (.Attribute o m apos) (e :: es) [] pos) X.env = (do
      let ov ← eval o X.env
      standAt apos.atName
      let (f, first) ← holding [ov] (getMethod ov m pl)
      callWith pos f first (backTo pos (starEach (e :: es) X.env)) (backToKw pos (keywordEach [] X.env))) := by rfl) :
    PE X (.Call (.Attribute o m apos) (e :: es) [] pos) (tMeth C m sp [] E0 ta t) := pe_meth (pl := pl) he c M.me M.ok (hr.mono hk) M.b .nil pass0 ha hst hpl ht
theorem pe_methM0 (M : Mth X.prog X.w X.K X.mg X.base C m k ps sp) (he : PE X o ta) (c : Cls X.K C) (hr : Room j X.A) (hk : k ≤ j := by omega)
    (ht : eval (.Call (.Attribute o m apos) [] [] pos) X.env = (do
      let ov ← eval o X.env
      standAt apos.atName
      let (f, first) ← holding [ov] (getMethod ov m pl)
      callWith pos f first (backTo pos (starEach [] X.env)) (backToKw pos (keywordEach [] X.env))) := by rfl) :
    PE X (.Call (.Attribute o m apos) [] [] pos) (tMeth C m sp [] E0 ta tNil) := pe_meth0 (pl := pl) he c M.me M.ok (hr.mono hk) M.b .nil pass0 ht
end
/-- nothing but what stands at p has changed -/
def Mv (p : Addr) (H H' : Hp) : Prop := ∀ b, b ≠ p → H' b = H b
theorem Mv.refl (p : Addr) (H : Hp) : Mv p H H := fun _ _ => rfl
theorem Mv.upd {p : Addr} {H H' : Hp} {o : HO} (h : Mv p H H') : Mv p H (upd H' p o) := fun b n => by rw [upd_ne n]; exact h b n
theorem Mv.trans {p : Addr} {H H1 H2 : Hp} (h : Mv p H H1) (g : Mv p H1 H2) : Mv p H H2 := fun b n => (g b n).trans (h b n)
def oneOf (g : Str) (c : Nat) : Bool := decide (c ∈ g.cps.toList)
def seesB (suf : List Nat) (g : Str) : Bool := suf.head?.any (oneOf g)
def zSpace : Str := Str.ofString " "
def spRd0 (CR : Addr) : Sp := fun vs H Q _ => ∃ (p dx : Addr) (cs : List Nat), vs = [.ref p, .str (Z cs)] ∧ H p = some (.ins CR dx []) ∧ ∀ H', Mv p H H' → H' p = some (rO CR dx [] cs) → Q .non H'
def spSees (CR : Addr) : Sp := fun vs H Q _ => ∃ (p dx : Addr) (pre suf : List Nat) (g : Str), vs = [.ref p, .str g] ∧ H p = some (rO CR dx pre suf) ∧ pre.length + suf.length ≤ sizeLine ∧ Q (.bl (seesB suf g)) H
def spDone (CR : Addr) : Sp := fun vs H Q _ => ∃ (p dx : Addr) (pre suf : List Nat), vs = [.ref p] ∧ H p = some (rO CR dx pre suf) ∧ pre.length + suf.length ≤ sizeLine ∧ Q (.bl (decide (suf = []))) H
def spFinish (CR : Addr) : Sp := fun vs H Q _ => ∃ (p dx : Addr) (pre : List Nat), vs = [.ref p] ∧ H p = some (rO CR dx pre []) ∧ pre.length ≤ sizeLine ∧ Q .non H
def spTake (CR : Addr) : Sp := fun vs H Q _ => ∃ (p dx : Addr) (pre suf : List Nat) (c : Nat) (g : Str), vs = [.ref p, .str g] ∧ H p = some (rO CR dx pre (c :: suf)) ∧ oneOf g c = true ∧ pre.length + suf.length + 1 ≤ sizeLine ∧
  ∀ H', Mv p H H' → H' p = some (rO CR dx (pre ++ [c]) suf) → Q (.str ⟨#[c]⟩) H'
def spSkip (CR : Addr) : Sp := fun vs H Q _ => ∃ (p dx : Addr) (pre suf : List Nat) (k : Nat), vs = [.ref p] ∧ H p = some (rO CR dx pre (List.replicate k 32 ++ suf)) ∧ seesB suf zSpace = false ∧ pre.length + k + suf.length ≤ sizeLine ∧
  ∀ H', Mv p H H' → H' p = some (rO CR dx (pre ++ List.replicate k 32) suf) → Q .non H'
def spTakeName (CR : Addr) : Sp := fun vs H Q _ => ∃ (p dx : Addr) (pre n suf : List Nat), vs = [.ref p] ∧ H p = some (rO CR dx pre (n ++ suf)) ∧ isName (Z n) = true ∧ suf.head?.any isLD = false ∧ pre.length + n.length + suf.length ≤ sizeLine ∧
  ∀ H', Mv p H H' → H' p = some (rO CR dx (pre ++ n) suf) → Q (.str (Z n)) H'
section
variable {P : Program} {w : World} {K : PySem.W.Frag} {mg : Str → Option Value} {base : Heap} {f : Addr} {fd : FuncData} {CR : Addr}
theorem okRd0 (T : RdTxt K CR) (F : Fun K "__init__" "Reader.__init__" sRd0 f fd) : FnOk P w K mg base CX0 1 f fd NRd0 (spRd0 CR) := by
  refine F.ok scRd0 (fun vs H Q E h => ?_) (fun cdv A outer s H vs Q E hr h => ?_)
  · obtain ⟨p, dx, cs, rfl, _⟩ := h
    rfl
  obtain ⟨p, dx, cs, rfl, hp, q⟩ := h
  refine ⟨_, pss_cons (ps_fld (pv 0) (pv 1) rfl) (pss_one (ps_fld (pv 0) pe_int rfl)), ?_⟩
  refine ⟨_, rfl, _, rfl, p, CR, dx, _, rfl, hp, T.cl, T.nText, (by show 0 < 1000; decide), ?_⟩
  refine ⟨_, rfl, p, CR, dx, _, rfl, upd_same, T.cl, T.nAt, (by show 1 < 1000; decide), ?_⟩
  refine q _ (Mv.upd (Mv.upd (Mv.refl _ _))) ?_
  rw [upd_same, putF_new]
  rfl
theorem okRd1 (T : Txt K mg) (R : RdTxt K CR) (F : Fun K "sees" "Reader.sees" sRd1 f fd) : FnOk P w K mg base CX0 1 f fd NRd1 (spSees CR) := by
  refine F.ok scRd1 (fun vs H Q E h => ?_) (fun cdv A outer s H vs Q E hr h => ?_)
  · obtain ⟨p, dx, pre, suf, g, rfl, _⟩ := h
    rfl
  obtain ⟨p, dx, pre, suf, g, rfl, hp, hl, q⟩ := h
  refine ⟨_, pss_one (ps_ret (pe_and (pe_cmpR op_lt (pe_fld (pv 0) rfl) (pe_callB call_len rfl T.len (by decide +kernel) (pa_cons (pe_fld (pv 0) rfl) pa_nil)) (nomark _)) (pe_one (pe_cmpR op_in_sign (pe_ix ix_str (pe_fld (pv 0) rfl) (pe_fld (pv 0) rfl) (fun _ _ => rfl)) (pv 1) rfl)))), ?_⟩
  have hz : (Z (pre ++ suf)).length = pre.length + suf.length := by rw [Z_len, List.length_append]
  refine ⟨_, rfl, _, CR, _, _, _, rfl, hp, R.cl, R.nAt, rF_at _ _, _, rfl, _, CR, _, _, _, rfl, hp, R.cl, R.nText, rF_text _ _, _, _, rfl, ⟨by rw [hz]; exact hl, rfl⟩, _, _, rfl, rfl, _, rfl, ?_⟩
  rw [hz]
  cases suf with
  | nil =>
    rw [show decide ((pre.length : Int) < ((pre.length + ([] : List Nat).length : Nat) : Int)) = false from decide_eq_false (by simp only [List.length_nil]; omega)]
    exact iteF q
  | cons c r =>
    rw [show decide ((pre.length : Int) < ((pre.length + (c :: r).length : Nat) : Int)) = true from decide_eq_true (by simp only [List.length_cons]; omega)]
    refine iteT ⟨_, rfl, _, CR, _, _, _, rfl, hp, R.cl, R.nText, rF_text _ _, _, rfl, _, CR, _, _, _, rfl, hp, R.cl, R.nAt, rF_at _ _, _, _, c, rfl, rfl, by rw [hz]; exact hl, atI_nat (j := pre.length) ?_, _, rfl, c, g, rfl, rfl, q⟩
    show (pre ++ c :: r)[pre.length]? = some c
    rw [List.getElem?_append_right (Nat.le_refl _), Nat.sub_self]
    rfl
theorem okRd2 (T : Txt K mg) (R : RdTxt K CR) (F : Fun K "is_done" "Reader.is_done" sRd2 f fd) : FnOk P w K mg base CX0 1 f fd NRd2 (spDone CR) := by
  refine F.ok scRd2 (fun vs H Q E h => ?_) (fun cdv A outer s H vs Q E hr h => ?_)
  · obtain ⟨p, dx, pre, suf, rfl, _⟩ := h
    rfl
  obtain ⟨p, dx, pre, suf, rfl, hp, hl, q⟩ := h
  refine ⟨_, pss_one (ps_ret (pe_cmpR op_eq (pe_fld (pv 0) rfl) (pe_callB call_len rfl T.len (by decide +kernel) (pa_cons (pe_fld (pv 0) rfl) pa_nil)) (nomark _))), ?_⟩
  have hz : (Z (pre ++ suf)).length = pre.length + suf.length := by rw [Z_len, List.length_append]
  refine ⟨_, rfl, _, CR, _, _, _, rfl, hp, R.cl, R.nAt, rF_at _ _, _, rfl, _, CR, _, _, _, rfl, hp, R.cl, R.nText, rF_text _ _, _, _, rfl, ⟨by rw [hz]; exact hl, rfl⟩, ?_⟩
  rw [hz]
  refine ⟨rfl, ?_⟩
  rw [dec_int, show ((pre.length : Int) == ((pre.length + suf.length : Nat) : Int)) = decide (suf = []) from ?_]
  · exact q
  cases suf with
  | nil => simp
  | cons c r =>
    rw [decide_eq_false (by simp), beq_eq_false_iff_ne]
    simp only [List.length_cons]
    omega
theorem okRd3 {R : RdTxt K CR} (M2 : Mth P w K mg base CR "is_done" 1 NRd2 (spDone CR)) (F : Fun K "finish" "Reader.finish" sRd3 f fd) : FnOk P w K mg base CX0 2 f fd NRd2 (spFinish CR) := by
  refine F.ok scRd3 (fun vs H Q E h => ?_) (fun cdv A outer s H vs Q E hr h => ?_)
  · obtain ⟨p, dx, pre, rfl, _⟩ := h
    rfl
  obtain ⟨p, dx, pre, rfl, hp, hl, q⟩ := h
  refine ⟨_, pss_one (ps_if (pt_not (pt_val (pe_methM0 M2 (pv 0) R.cl hr))) (pss_one ps_no) pss_nil), ?_⟩
  refine ⟨_, rfl, p, dx, _, rfl, hp, rF_no, p, dx, pre, [], rfl, hp, hl, ?_⟩
  exact ⟨_, rfl, q⟩
theorem okRd4 {R : RdTxt K CR} (M1 : Mth P w K mg base CR "sees" 1 NRd1 (spSees CR)) (F : Fun K "take" "Reader.take" sRd4 f fd) : FnOk P w K mg base CX0 2 f fd NRd1 (spTake CR) := by
  refine F.ok scRd4 (fun vs H Q E h => ?_) (fun cdv A outer s H vs Q E hr h => ?_)
  · obtain ⟨p, dx, pre, suf, c, g, rfl, _⟩ := h
    rfl
  obtain ⟨p, dx, pre, suf, c, g, rfl, hp, hc, hl, q⟩ := h
  refine ⟨_, pss_cons (ps_if (pt_not (pt_val (pe_methM M1 (pv 0) R.cl hr (pa_cons (pv 1) pa_nil)))) (pss_one ps_no) pss_nil)
    (pss_cons (ps_fldaug (pv 0) pe_int in_add) (pss_one (ps_ret (pe_ix ix_str (pe_fld (pv 0) rfl) (pe_op op_sub (pe_fld (pv 0) rfl) pe_int) (fun _ _ => rfl))))), ?_⟩
  refine ⟨_, rfl, p, dx, _, rfl, hp, rF_no, _, rfl, p, dx, pre, c :: suf, g, rfl, hp, by rw [List.length_cons]; omega, ?_⟩
  refine ⟨_, rfl, ?_⟩
  rw [show seesB (c :: suf) g = true from hc]
  refine iteF ?_
  have hz : (Z (pre ++ c :: suf)).length ≤ sizeLine := by
    rw [Z_len, List.length_append, List.length_cons]
    omega
  have e1 : HO.ins CR dx (putF "at" (.int ((pre.length : Int) + 1)) (rF (.str (Z (pre ++ c :: suf))) (.int pre.length))) = rO CR dx (pre ++ [c]) suf := by
    rw [putF_at]
    exact rO_move CR dx pre [c] suf
  refine ⟨_, rfl, _, CR, _, _, _, rfl, hp, R.cl, R.nAt, rF_at _ _, _, _, rfl, rfl, dx, _, hp, (by show 2 < 1000; decide), ?_⟩
  rw [e1]
  have hp2 : upd H p (rO CR dx (pre ++ [c]) suf) p = some (rO CR dx (pre ++ [c]) suf) := upd_same
  refine ⟨_, rfl, _, CR, _, _, _, rfl, hp2, R.cl, R.nText, rF_text _ _, _, rfl, _, CR, _, _, _, rfl, hp2, R.cl, R.nAt, rF_at _ _, _, _, rfl, rfl, _, _, c, rfl, rfl, ?_, ?_, q _ (Mv.upd (Mv.refl _ _)) hp2⟩
  · rw [Z_len]
    simp only [List.length_append, List.length_cons, List.length_nil]
    omega
  · rw [show (((pre ++ [c]).length : Nat) : Int) - 1 = (pre.length : Nat) by simp only [List.length_append, List.length_cons, List.length_nil]; omega]
    refine atI_nat (j := pre.length) ?_
    show (pre ++ [c] ++ suf)[pre.length]? = some c
    rw [List.append_assoc, List.getElem?_append_right (Nat.le_refl _), Nat.sub_self]
    rfl
theorem okRd5 {R : RdTxt K CR} (M1 : Mth P w K mg base CR "sees" 1 NRd1 (spSees CR)) (F : Fun K "skip_spaces" "Reader.skip_spaces" sRd5 f fd) : FnOk P w K mg base CX0 2 f fd NRd2 (spSkip CR) := by
  refine F.ok scRd5 (fun vs H Q E h => ?_) (fun cdv A outer s H vs Q E hr h => ?_)
  · obtain ⟨p, dx, pre, suf, k, rfl, _⟩ := h
    rfl
  obtain ⟨p, dx, pre, suf, k, rfl, hp, hs, hl, q⟩ := h
  refine ⟨_, pss_one (ps_while PassesOwn.never (pt_val (pe_methM M1 (pv 0) R.cl hr (pa_cons pe_str pa_nil))) (pss_one (ps_fldaug (pv 0) pe_int in_add))), ?_⟩
  refine ⟨fun m σ H' => σ = start NRd2 [.ref p] ∧ Mv p H H' ∧ ∃ j, j + m = k ∧ H' p = some (rO CR dx (pre ++ List.replicate j 32) (List.replicate m 32 ++ suf)), ⟨k, rfl, Mv.refl _ _, 0, by omega, by simpa using hp⟩, ?_⟩
  rintro m σ H' ⟨rfl, mv, j, e, h'⟩
  refine ⟨_, rfl, p, dx, _, rfl, h', rF_no, p, dx, _, _, zSpace, rfl, h', by simp only [List.length_append, List.length_replicate]; omega, ?_⟩
  refine ⟨_, rfl, ?_⟩
  cases m with
  | zero =>
    rw [show seesB (List.replicate 0 32 ++ suf) zSpace = false from hs]
    have ej : j = k := by omega
    subst ej
    exact iteF (q H' mv h')
  | succ m =>
    rw [show seesB (List.replicate (m + 1) 32 ++ suf) zSpace = true from (by show oneOf zSpace 32 = true; decide +kernel)]
    refine iteT ⟨fun σ H'' => σ = start NRd2 [.ref p] ∧ Mv p H H'' ∧ ∃ j, j + m = k ∧ H'' p = some (rO CR dx (pre ++ List.replicate j 32) (List.replicate m 32 ++ suf)), fun σ'' H'' h => ⟨m, Nat.lt_succ_self m, h⟩, ?_⟩
    refine ⟨_, rfl, _, CR, _, _, _, rfl, h', R.cl, R.nAt, rF_at _ _, _, _, rfl, rfl, dx, _, h', (by show 2 < 1000; decide), rfl, Mv.upd mv, j + 1, by omega, ?_⟩
    rw [upd_same, putF_at]
    have := rO_move CR dx (pre ++ List.replicate j 32) [32] (List.replicate m 32 ++ suf)
    rw [show pre ++ List.replicate (j + 1) 32 = pre ++ List.replicate j 32 ++ [32] by rw [List.replicate_succ', List.append_assoc]]
    exact congrArg some this
theorem okRd9 {R : RdTxt K CR} (T : Txt K mg) (M1 : Mth P w K mg base CR "sees" 1 NRd1 (spSees CR)) (M4 : Mth P w K mg base CR "take" 2 NRd1 (spTake CR)) (F : Fun K "take_name" "Reader.take_name" sRd9 f fd) : FnOk P w K mg base CX0 3 f fd NRd2 (spTakeName CR) := by
  refine F.ok scRd9 (fun vs H Q E h => ?_) (fun cdv A outer s H vs Q E hr h => ?_)
  · obtain ⟨p, dx, pre, n, suf, rfl, _⟩ := h
    rfl
  obtain ⟨p, dx, pre, n, suf, rfl, hp, hn, hs, hl, q⟩ := h
  refine ⟨_, pss_cons (ps_set (i := 1) scRd9.nd rfl (Or.inl rfl) (pe_fld (pv 0) rfl)) (pss_cons (ps_expr (pe_methM M4 (pv 0) R.cl hr (pa_cons (pe_globE T.LETTERS) pa_nil)))
    (pss_cons (ps_while PassesOwn.never (PW.pt (pw_and (pt_cmpR op_lt (pe_op op_sub (pe_fld (pv 0) rfl) (pv 1)) (pe_globE T.LONGEST_NAME) (nomark _)) (pw_and1 (PW.pt (pw_or (pt_val (pe_methM M1 (pv 0) R.cl hr (pa_cons (pe_globE T.LETTERS) pa_nil))) (pw_or1 (pt_val (pe_methM M1 (pv 0) R.cl hr (pa_cons (pe_globE T.DIGITS) pa_nil)))))))))
      (pss_one (ps_fldaug (pv 0) pe_int in_add)))
    (pss_one (ps_ret (pe_slice sl_str (pe_fld (pv 0) rfl) (po_some (pv 1)) (po_some (pe_fld (pv 0) rfl))))))), ?_⟩
  cases n with
  | nil => exact absurd hn (by decide)
  | cons c n =>
  have hn2 : isL c = true ∧ (∀ d ∈ c :: n, isLD d = true) ∧ (c :: n).length ≤ 12 := by
    unfold isName at hn
    rw [Bool.and_eq_true, Bool.and_eq_true, decide_eq_true_eq, Z_len] at hn
    exact ⟨hn.2.1, fun d hd => List.all_eq_true.mp hn.2.2 d hd, hn.1.2⟩
  obtain ⟨hc, hall, h12⟩ := hn2
  have hz0 : (pre ++ c :: n ++ suf).length ≤ sizeLine := by simp only [List.length_append]; omega
  refine ⟨_, rfl, _, CR, _, _, _, rfl, hp, R.cl, R.nAt, rF_at _ _, ?_⟩
  refine ⟨_, rfl, p, dx, _, rfl, hp, rF_no, p, dx, pre, n ++ suf, c, zLetters, rfl, hp, hc, by simp only [List.length_append, List.length_cons] at hz0 ⊢; omega, fun H1 m1 h1 => ?_⟩
  refine ⟨fun m σ H' => σ = start NRd9 [.ref p, .int pre.length] ∧ Mv p H H' ∧ ∃ a b, c :: n = a ++ b ∧ b.length = m ∧ 1 ≤ a.length ∧ H' p = some (rO CR dx (pre ++ a) (b ++ suf)), ⟨n.length, rfl, m1, [c], n, rfl, rfl, Nat.le_refl _, h1⟩, ?_⟩
  rintro m σ H' ⟨rfl, mv, a, b, e, el, ha, h'⟩
  refine ⟨_, rfl, _, CR, _, _, _, rfl, h', R.cl, R.nAt, rF_at _ _, _, rfl, _, _, rfl, rfl, _, _, rfl, rfl, _, rfl, ?_⟩
  rw [show (((pre ++ a).length : Nat) : Int) - pre.length = (a.length : Nat) by rw [List.length_append]; omega]
  have hzb : pre.length + a.length + (b ++ suf).length ≤ sizeLine := by
    have := congrArg List.length e
    simp only [List.length_append, List.length_cons] at this hz0 ⊢
    omega
  have hzc : (pre ++ a).length + (b ++ suf).length ≤ sizeLine := by rw [List.length_append]; exact hzb
  cases b with
  | nil =>
    have ea : a = c :: n := by rw [e, List.append_nil]
    subst ea
    have fin : ∀ H2, H2 = H' → tRet (tSl rSlS (tFld K (tVar 0) (Str.ofString "text")) (tPart (tVar 1)) (tPart (tFld K (tVar 0) (Str.ofString "at")))) { nx := fun x H' => Q V.non H', rt := Q } (start NRd9 [V.ref p, V.int pre.length]) H2 := by
      intro H2 e2
      subst e2
      refine ⟨_, rfl, _, CR, _, _, _, rfl, h', R.cl, R.nText, rF_text _ _, _, rfl, _, rfl, _, rfl, _, CR, _, _, _, rfl, h', R.cl, R.nAt, rF_at _ _, _, rfl, _, rfl, ?_, ?_⟩
      · rw [Z_len]
        simp only [List.length_append, List.nil_append] at hz0 ⊢
        omega
      · have := cutS_mid pre (c :: n) suf
        rw [List.append_assoc] at this
        rw [List.nil_append, List.append_assoc, this]
        exact q _ mv (by rw [List.nil_append] at h'; exact h')
    refine ite2 (fun c1 => ?_) (fun c1 => ?_)
    · refine ⟨_, rfl, p, dx, _, rfl, h', rF_no, p, dx, _, _, zLetters, rfl, h', hzc, _, rfl, ?_⟩
      have hs1 : seesB ([] ++ suf) zLetters = false ∧ seesB ([] ++ suf) zDigits = false := by
        cases suf with
        | nil => exact ⟨rfl, rfl⟩
        | cons x r =>
          have hx : (isL x || decide (x ∈ zDigits.cps.toList)) = false := hs
          rw [Bool.or_eq_false_iff] at hx
          exact hx
      rw [hs1.1]
      refine iteF ⟨_, rfl, p, dx, _, rfl, h', rF_no, p, dx, _, _, zDigits, rfl, h', hzc, _, rfl, ?_⟩
      rw [hs1.2]
      exact iteF (fin _ rfl)
    · exact fin _ rfl
  | cons d b =>
    have hd : (isL d || decide (d ∈ zDigits.cps.toList)) = true := hall d (by rw [e]; simp)
    have hm : b.length < m := by rw [← el]; exact Nat.lt_succ_self _
    have e2 : c :: n = (a ++ [d]) ++ b := by rw [e, List.append_assoc]; rfl
    have hlt : a.length < 12 := by
      have := congrArg List.length e
      simp only [List.length_append, List.length_cons] at this h12
      omega
    rw [decide_eq_true (by omega : ((a.length : Nat) : Int) < 12)]
    refine iteT ⟨_, rfl, p, dx, _, rfl, h', rF_no, p, dx, _, _, zLetters, rfl, h', hzc, _, rfl, ?_⟩
    by_cases hL : isL d = true
    all_goals
      first
      | rw [show seesB (d :: b ++ suf) zLetters = true from hL]
        refine iteT ?_
        refine iteT ?_
      | have hL2 : isL d = false := by simpa using hL
        rw [hL2, Bool.false_or] at hd
        rw [show seesB (d :: b ++ suf) zLetters = false from hL2]
        refine iteF ⟨_, rfl, p, dx, _, rfl, h', rF_no, p, dx, _, _, zDigits, rfl, h', hzc, _, rfl, ?_⟩
        rw [show seesB (d :: b ++ suf) zDigits = true from hd]
        refine iteT ?_
    all_goals
      refine ⟨fun σ H'' => σ = start NRd9 [.ref p, .int pre.length] ∧ Mv p H H'' ∧ ∃ a' b', c :: n = a' ++ b' ∧ b'.length = b.length ∧ 1 ≤ a'.length ∧ H'' p = some (rO CR dx (pre ++ a') (b' ++ suf)), fun σ'' H'' h => ⟨b.length, hm, h⟩, ?_⟩
      refine ⟨_, rfl, _, CR, _, _, _, rfl, h', R.cl, R.nAt, rF_at _ _, _, _, rfl, rfl, dx, _, h', (by show 2 < 1000; decide), rfl, Mv.upd mv, a ++ [d], b, e2, rfl, by simp, ?_⟩
      rw [upd_same, putF_at]
      have := rO_move CR dx (pre ++ a) [d] (b ++ suf)
      rw [show pre ++ (a ++ [d]) = pre ++ a ++ [d] by rw [List.append_assoc]]
      exact congrArg some this
end
/-! the same for a list of signs -/
def signsL (cs : List Nat) : List V := cs.map fun c => V.str ⟨#[c]⟩
theorem inV_signs (c : Nat) (cs : List Nat) : inV (.str ⟨#[c]⟩) (signsL cs) = decide (c ∈ cs) := by
  have e : signsL cs = (cs.map fun c => (⟨#[c]⟩ : Str)).map V.str := by unfold signsL; rw [List.map_map]; rfl
  rw [e, inV_str]
  refine decide_eq_decide.mpr ⟨fun h => ?_, fun h => List.mem_map.mpr ⟨c, h, rfl⟩⟩
  obtain ⟨d, hd, e⟩ := List.mem_map.mp h
  have e2 : d = c := by
    have := congrArg (fun z : Str => z.cps.toList) e
    simpa using this
  rw [← e2]
  exact hd
theorem signs_flat (cs : List Nat) : (signsL cs).all flatV = true := by
  rw [List.all_eq_true]
  intro x h
  obtain ⟨d, hd, rfl⟩ := List.mem_map.mp h
  rfl
def seesLB (suf cs : List Nat) : Bool := suf.head?.any fun c => decide (c ∈ cs)
def spSeesL (K : PySem.W.Frag) (CR : Addr) : Sp := fun vs H Q _ => ∃ (p dx l : Addr) (pre suf cs : List Nat), vs = [.ref p, .ref l] ∧ H p = some (rO CR dx pre suf) ∧ SqL K H l (signsL cs) ∧ pre.length + suf.length ≤ sizeLine ∧ Q (.bl (seesLB suf cs)) H
def spTakeL (K : PySem.W.Frag) (CR : Addr) : Sp := fun vs H Q _ => ∃ (p dx l : Addr) (pre suf : List Nat) (c : Nat) (cs : List Nat), vs = [.ref p, .ref l] ∧ H p = some (rO CR dx pre (c :: suf)) ∧ SqL K H l (signsL cs) ∧ c ∈ cs ∧ pre.length + suf.length + 1 ≤ sizeLine ∧
  ∀ H', Mv p H H' → H' p = some (rO CR dx (pre ++ [c]) suf) → Q (.str ⟨#[c]⟩) H'
section
variable {P : Program} {w : World} {K : PySem.W.Frag} {mg : Str → Option Value} {base : Heap} {f : Addr} {fd : FuncData} {CR : Addr}
theorem okRd1L (T : Txt K mg) (R : RdTxt K CR) (F : Fun K "sees" "Reader.sees" sRd1 f fd) : FnOk P w K mg base CX0 1 f fd NRd1 (spSeesL K CR) := by
  refine F.ok scRd1 (fun vs H Q E h => ?_) (fun cdv A outer s H vs Q E hr h => ?_)
  · obtain ⟨p, dx, l, pre, suf, cs, rfl, _⟩ := h
    rfl
  obtain ⟨p, dx, l, pre, suf, cs, rfl, hp, hL, hl, q⟩ := h
  refine ⟨_, pss_one (ps_ret (pe_and (pe_cmpR op_lt (pe_fld (pv 0) rfl) (pe_callB call_len rfl T.len (by decide +kernel) (pa_cons (pe_fld (pv 0) rfl) pa_nil)) (nomark _)) (pe_one (pe_cmpR op_in_seq (pe_ix ix_str (pe_fld (pv 0) rfl) (pe_fld (pv 0) rfl) (fun _ _ => rfl)) (pv 1) rfl)))), ?_⟩
  have hz : (Z (pre ++ suf)).length = pre.length + suf.length := by rw [Z_len, List.length_append]
  refine ⟨_, rfl, _, CR, _, _, _, rfl, hp, R.cl, R.nAt, rF_at _ _, _, rfl, _, CR, _, _, _, rfl, hp, R.cl, R.nText, rF_text _ _, _, _, rfl, ⟨by rw [hz]; exact hl, rfl⟩, _, _, rfl, rfl, _, rfl, ?_⟩
  rw [hz]
  cases suf with
  | nil =>
    rw [show decide ((pre.length : Int) < ((pre.length + ([] : List Nat).length : Nat) : Int)) = false from decide_eq_false (by simp only [List.length_nil]; omega)]
    exact iteF q
  | cons c r =>
    rw [show decide ((pre.length : Int) < ((pre.length + (c :: r).length : Nat) : Int)) = true from decide_eq_true (by simp only [List.length_cons]; omega)]
    refine iteT ⟨_, rfl, _, CR, _, _, _, rfl, hp, R.cl, R.nText, rF_text _ _, _, rfl, _, CR, _, _, _, rfl, hp, R.cl, R.nAt, rF_at _ _, _, _, c, rfl, rfl, by rw [hz]; exact hl, atI_nat (j := pre.length) ?_, _, rfl, l, _, rfl, .inl hL, rfl, signs_flat cs, by show Q (.bl (inV (.str ⟨#[c]⟩) (signsL cs))) H; rw [inV_signs]; exact q⟩
    show (pre ++ c :: r)[pre.length]? = some c
    rw [List.getElem?_append_right (Nat.le_refl _), Nat.sub_self]
    rfl
theorem okRd4L {R : RdTxt K CR} (M1 : Mth P w K mg base CR "sees" 1 NRd1 (spSeesL K CR)) (F : Fun K "take" "Reader.take" sRd4 f fd) : FnOk P w K mg base CX0 2 f fd NRd1 (spTakeL K CR) := by
  refine F.ok scRd4 (fun vs H Q E h => ?_) (fun cdv A outer s H vs Q E hr h => ?_)
  · obtain ⟨p, dx, l, pre, suf, c, cs, rfl, _⟩ := h
    rfl
  obtain ⟨p, dx, l, pre, suf, c, cs, rfl, hp, hL, hc, hl, q⟩ := h
  refine ⟨_, pss_cons (ps_if (pt_not (pt_val (pe_methM M1 (pv 0) R.cl hr (pa_cons (pv 1) pa_nil)))) (pss_one ps_no) pss_nil)
    (pss_cons (ps_fldaug (pv 0) pe_int in_add) (pss_one (ps_ret (pe_ix ix_str (pe_fld (pv 0) rfl) (pe_op op_sub (pe_fld (pv 0) rfl) pe_int) (fun _ _ => rfl))))), ?_⟩
  refine ⟨_, rfl, p, dx, _, rfl, hp, rF_no, _, rfl, p, dx, l, pre, c :: suf, cs, rfl, hp, hL, by rw [List.length_cons]; omega, ?_⟩
  refine ⟨_, rfl, ?_⟩
  rw [show seesLB (c :: suf) cs = true from decide_eq_true hc]
  refine iteF ?_
  have hz : (Z (pre ++ c :: suf)).length ≤ sizeLine := by
    rw [Z_len, List.length_append, List.length_cons]
    omega
  have e1 : HO.ins CR dx (putF "at" (.int ((pre.length : Int) + 1)) (rF (.str (Z (pre ++ c :: suf))) (.int pre.length))) = rO CR dx (pre ++ [c]) suf := by
    rw [putF_at]
    exact rO_move CR dx pre [c] suf
  refine ⟨_, rfl, _, CR, _, _, _, rfl, hp, R.cl, R.nAt, rF_at _ _, _, _, rfl, rfl, dx, _, hp, (by show 2 < 1000; decide), ?_⟩
  rw [e1]
  have hp2 : upd H p (rO CR dx (pre ++ [c]) suf) p = some (rO CR dx (pre ++ [c]) suf) := upd_same
  refine ⟨_, rfl, _, CR, _, _, _, rfl, hp2, R.cl, R.nText, rF_text _ _, _, rfl, _, CR, _, _, _, rfl, hp2, R.cl, R.nAt, rF_at _ _, _, _, rfl, rfl, _, _, c, rfl, rfl, ?_, ?_, q _ (Mv.upd (Mv.refl _ _)) hp2⟩
  · rw [Z_len]
    simp only [List.length_append, List.length_cons, List.length_nil]
    omega
  · rw [show (((pre ++ [c]).length : Nat) : Int) - 1 = (pre.length : Nat) by simp only [List.length_append, List.length_cons, List.length_nil]; omega]
    refine atI_nat (j := pre.length) ?_
    show (pre ++ [c] ++ suf)[pre.length]? = some c
    rw [List.append_assoc, List.getElem?_append_right (Nat.le_refl _), Nat.sub_self]
    rfl
end
end My

set_option Elab.async false
set_option linter.all false
set_option maxRecDepth 100000
namespace My
open PySem L2
abbrev sWr0 : Stmt := inClass (top 22) 0
abbrev NWr0 : List Str := ["self", "form", "depth", "leaves"]
theorem scWr0 : FnScope NWr0 NWr0 (defScope sWr0) := ⟨rfl, rfl, rfl, by decide +kernel, rfl, by decide +kernel, by decide +kernel⟩
abbrev stake_leaf : Stmt := top 23
abbrev Ntake_leaf : List Str := ["reader", "words", "name"]
abbrev Ptake_leaf : List Str := ["reader", "words"]
theorem sctake_leaf : FnScope Ntake_leaf Ptake_leaf (defScope stake_leaf) := ⟨rfl, rfl, rfl, by decide +kernel, rfl, by decide +kernel, by decide +kernel⟩
abbrev stake_sign : Stmt := top 24
abbrev Ntake_sign : List Str := ["reader", "words", "begins", "first", "told", "more", "sign"]
abbrev Ptake_sign : List Str := ["reader", "words", "begins"]
theorem sctake_sign : FnScope Ntake_sign Ptake_sign (defScope stake_sign) := ⟨rfl, rfl, rfl, by decide +kernel, rfl, by decide +kernel, by decide +kernel⟩
abbrev sgrouped : Stmt := top 25
abbrev Ngrouped : List Str := ["half", "other", "left", "word", "depth", "leaves"]
abbrev Pgrouped : List Str := ["half", "other"]
theorem scgrouped : FnScope Ngrouped Pgrouped (defScope sgrouped) := ⟨rfl, rfl, rfl, by decide +kernel, rfl, by decide +kernel, by decide +kernel⟩
abbrev stold_form : Stmt := top 28
abbrev Ntold_form : List Str := ["part"]
theorem sctold_form : FnScope Ntold_form Ntold_form (defScope stold_form) := ⟨rfl, rfl, rfl, by decide +kernel, rfl, by decide +kernel, by decide +kernel⟩
theorem putF_len (f : Str) (v : V) : ∀ fs : List (Str × V), (putF f v fs).length ≤ fs.length + 1
  | [] => by show 1 ≤ 1; decide
  | (g, x) :: r => by
    show (if g = f then _ else _ : List (Str × V)).length ≤ _
    by_cases h : g = f
    · rw [if_pos h]
      simp
    · rw [if_neg h]
      have := putF_len f v r
      simp only [List.length_cons]
      omega
/-! ### forms as trees -/
inductive Sg where
  | mul | bar | amp | plus
def Sg.code : Sg → Nat | .mul => 42 | .bar => 124 | .amp => 38 | .plus => 43
def Sg.word : Sg → Str | .mul => Str.ofString "both" | .bar => Str.ofString "between" | .amp => Str.ofString "offered" | .plus => Str.ofString "chosen"
def leafZ (co : Bool) : Str := if co then Str.ofString "counter" else Str.ofString "good"
inductive FT where
  | leaf (co : Bool) (n : List Nat)
  | node (s : Sg) (l r : FT)
def FT.dep : FT → Nat | .leaf _ _ => 0 | .node _ l r => 1 + max l.dep r.dep
def FT.lvs : FT → Nat | .leaf _ _ => 1 | .node _ l r => l.lvs + r.lvs
def FT.data : FT → PyData | .leaf co n => .tuple [.str (leafZ co), .str (Z n)] | .node s l r => .tuple [.str s.word, l.data, r.data]
def FT.Ok : FT → Prop | .leaf _ n => isName (Z n) = true | .node _ l r => l.Ok ∧ r.Ok
def Fm (K : PySem.W.Frag) (H : Hp) : FT → V → Prop
  | .leaf co n, v => ∃ a, v = .ref a ∧ SqT K H a [.str (leafZ co), .str (Z n)]
  | .node s l r, v => ∃ a x y, v = .ref a ∧ SqT K H a [.str s.word, x, y] ∧ Fm K H l x ∧ Fm K H r y
/-! ### tuples stay -/
def Hard (o : HO) : Prop := (∃ xs, o = .tup xs) ∨ ∃ ob u, o = .frz ob u
def KT (H H' : Hp) : Prop := ∀ a o, Hard o → H a = some o → H' a = some o
theorem KT.refl (H : Hp) : KT H H := fun _ _ _ h => h
theorem KT.trans {H H1 H2 : Hp} (a : KT H H1) (b : KT H1 H2) : KT H H2 := fun c o n h => b c o n (a c o n h)
theorem Same.kt {H H' : Hp} (s : Same H H') : KT H H' := fun a o _ h => s a o h
theorem KT.seq {K : PySem.W.Frag} {H H' : Hp} {a : Addr} {xs : List V} (k : KT H H') (h : SqT K H a xs) : SqT K H' a xs := by
  rcases h with (h | ⟨u, h⟩) | h
  · exact .inl (.inl (k _ _ (.inl ⟨_, rfl⟩) h))
  · exact .inl (.inr ⟨u, k _ _ (.inr ⟨_, _, rfl⟩) h⟩)
  · exact .inr h
theorem KT.fm {K : PySem.W.Frag} {H H' : Hp} (k : KT H H') : ∀ (t : FT) {v : V}, Fm K H t v → Fm K H' t v
  | .leaf _ _, _, ⟨a, e, h⟩ => ⟨a, e, k.seq h⟩
  | .node _ l r, _, ⟨a, x, y, e, h, hl, hr⟩ => ⟨a, x, y, e, k.seq h, k.fm l hl, k.fm r hr⟩
theorem Keep.kt {p : Addr} {H H' : Hp} {C dx : Addr} {fs : List (Str × V)} (hp : H p = some (.ins C dx fs)) (k : Keep p H H') : KT H H' := fun a o n h => by
  refine k a o (fun e => ?_) h
  subst e
  rw [hp] at h
  cases h
  rcases n with ⟨_, e⟩ | ⟨_, _, e⟩ <;> cases e
theorem Mv.keep {p : Addr} {H H' : Hp} (m : Mv p H H') : Keep p H H' := fun b o n h => by rw [m b n]; exact h
theorem FT.of_fm {K : PySem.W.Frag} {H : Hp} : ∀ (t : FT) {v : V}, Fm K H t v → Dp K H v t.data
  | .leaf _ _, _, ⟨a, e, h⟩ => by subst e; exact .tup h (.cons (.str _) (.cons (.str _) .nil))
  | .node _ l r, _, ⟨a, x, y, e, h, hl, hr⟩ => by subst e; exact .tup h (.cons (.str _) (.cons (FT.of_fm l hl) (.cons (FT.of_fm r hr) .nil)))
/-! ### what is written -/
def wF (u d l : V) : List (Str × V) := [("form", u), ("depth", d), ("leaves", l)]
def wO (CW dx : Addr) (u : V) (d l : Nat) : HO := .ins CW dx (wF u (.int d) (.int l))
theorem nFD : ¬ (("form" : Str) = "depth") := by decide +kernel
theorem nFL : ¬ (("form" : Str) = "leaves") := by decide +kernel
theorem nDL : ¬ (("depth" : Str) = "leaves") := by decide +kernel
theorem wF_form (u d l : V) : (wF u d l).lookup ("form" : Str) = some u := by
  unfold wF
  simp only [List.lookup, beq_self_eq_true]
theorem wF_depth (u d l : V) : (wF u d l).lookup ("depth" : Str) = some d := by
  unfold wF
  simp only [List.lookup, (by decide +kernel : (("depth" : Str) == "form") = false), beq_self_eq_true]
theorem wF_leaves (u d l : V) : (wF u d l).lookup ("leaves" : Str) = some l := by
  unfold wF
  simp only [List.lookup, (by decide +kernel : (("leaves" : Str) == "form") = false), (by decide +kernel : (("leaves" : Str) == "depth") = false), beq_self_eq_true]
theorem putF_wF (u d l : V) : putF "leaves" l (putF "depth" d (putF "form" u [])) = wF u d l := by
  have e1 : putF "depth" d (putF "form" u []) = ([("form", u), ("depth", d)] : List (Str × V)) := by
    show (if ("form" : Str) = "depth" then _ else _ : List (Str × V)) = _
    rw [if_neg nFD]
    rfl
  rw [e1]
  show (if ("form" : Str) = "leaves" then _ else _ : List (Str × V)) = _
  rw [if_neg nFL]
  show _ :: (if ("depth" : Str) = "leaves" then _ else _ : List (Str × V)) = _
  rw [if_neg nDL]
  rfl
theorem lt3 (f g : Str) (u v : V) : (putF f u (putF g v [])).length < 1000 := by
  have := putF_len f u (putF g v [])
  have e : (putF g v []).length = 1 := rfl
  omega
def Wr (K : PySem.W.Frag) (CW : Addr) (H : Hp) (t : FT) (v : V) : Prop :=
  ∃ a dx u, v = .ref a ∧ H a = some (wO CW dx u t.dep t.lvs) ∧ (t.dep ≤ 12 → Fm K H t u) ∧ (12 < t.dep → u = .non)
structure WrTxt (K : PySem.W.Frag) (mg : Str → Option Value) (CW fI : Addr) : Prop where
  cl : Cls K CW
  nForm : NoAttr K CW "form"
  nDepth : NoAttr K CW "depth"
  nLeaves : NoAttr K CW "leaves"
  made : Mk K CW fI
  g : mg "Written" = some (.ref CW)
theorem Wr.same {K : PySem.W.Frag} {CW : Addr} {H H' : Hp} {t : FT} {v : V} (h : Wr K CW H t v) (s : Same H H') : Wr K CW H' t v := by
  obtain ⟨a, dx, u, e, h1, h2, h3⟩ := h
  exact ⟨a, dx, u, e, s _ _ h1, fun d => (Same.kt s).fm t (h2 d), h3⟩
theorem rO_ne_wO {CR dx CW dy : Addr} {pre suf : List Nat} {u : V} {d l : Nat} : rO CR dx pre suf ≠ wO CW dy u d l := fun e => by
  have e2 := HO.ins.inj e
  have e3 := congrArg (fun q : List (Str × V) => q.length) e2.2.2
  exact absurd e3 (by show ¬ (2 = 3); decide)
theorem Wr.keep {K : PySem.W.Frag} {CR dx CW : Addr} {pre suf : List Nat} {H H' : Hp} {p : Addr} {t : FT} {v : V} (h : Wr K CW H t v) (hp : H p = some (rO CR dx pre suf)) (k : Keep p H H') : Wr K CW H' t v := by
  obtain ⟨a, dx, u, e, h1, h2, h3⟩ := h
  refine ⟨a, dx, u, e, k _ _ (fun z => ?_) h1, fun d => (Keep.kt hp k).fm t (h2 d), h3⟩
  rw [z, hp] at h1
  exact rO_ne_wO (Option.some.inj h1)
def zTilde : Str := Str.ofString "~"
def leafS (co : Bool) (n : List Nat) : List Nat := n ++ (if co then [126] else [])
/-- the signs of forms with their words -/
def wordsF : List (Key × V) := [(.inr ⟨#[42]⟩, .str (Str.ofString "both")), (.inr ⟨#[124]⟩, .str (Str.ofString "between")), (.inr ⟨#[38]⟩, .str (Str.ofString "offered")), (.inr ⟨#[43]⟩, .str (Str.ofString "chosen")), (.inr ⟨#[126]⟩, .str (Str.ofString "counter"))]
def forkC : List Nat := [42, 124, 38, 43]
def spWr0 (CW : Addr) : Sp := fun vs H Q _ => ∃ (p dx : Addr) (u : V) (d l : Nat), vs = [.ref p, u, .int d, .int l] ∧ H p = some (.ins CW dx []) ∧ ∀ H', Mv p H H' → H' p = some (wO CW dx u d l) → Q .non H'
def spTakeLeaf (K : PySem.W.Frag) (CR CW : Addr) : Sp := fun vs H Q _ => ∃ (p dx W : Addr) (pre n suf : List Nat) (co : Bool), vs = [.ref p, .ref W] ∧ H p = some (rO CR dx pre (leafS co n ++ suf)) ∧ H W = some (.dK wordsF) ∧ isName (Z n) = true ∧ suf.head?.any isLD = false ∧ seesB suf zTilde = false ∧
  pre.length + (leafS co n).length + suf.length ≤ sizeLine ∧ ∀ H' v, Keep p H H' → H' p = some (rO CR dx (pre ++ leafS co n) suf) → Wr K CW H' (.leaf co n) v → Q v H'
def spTakeSign (K : PySem.W.Frag) (CR : Addr) : Sp := fun vs H Q _ => ∃ (p dx W l : Addr) (pre suf : List Nat) (s : Sg), vs = [.ref p, .ref W, .ref l] ∧ H p = some (rO CR dx pre (s.code :: suf)) ∧ H W = some (.dK wordsF) ∧ SqL K H l (signsL forkC) ∧
  pre.length + suf.length + 1 ≤ sizeLine ∧ ∀ H', Keep p H H' → H' p = some (rO CR dx (pre ++ [s.code]) suf) → Q (.str s.word) H'
def spGrouped (K : PySem.W.Frag) (CW : Addr) : Sp := fun vs H Q _ => ∃ (h : Addr) (v1 v2 : V) (s : Sg) (l r : FT), vs = [.ref h, v2] ∧ SqT K H h [v1, .str s.word] ∧ Wr K CW H l v1 ∧ Wr K CW H r v2 ∧
  ∀ H' v, Same H H' → Wr K CW H' (.node s l r) v → Q v H'
def spTold (K : PySem.W.Frag) (CW : Addr) : Sp := fun vs H Q _ => ∃ (v : V) (t : FT), vs = [v] ∧ Wr K CW H t v ∧ t.dep ≤ 12 ∧ ∀ u, Fm K H t u → Q u H
structure TxtW (K : PySem.W.Frag) (mg : Str → Option Value) (w : World) where
  max : mg "max" = none
  DEEPEST : ∃ u, mg "DEEPEST" = some u ∧ RelV (.int 12) u
  aFW : Addr
  FORM_WORDS : ∃ u, mg "FORM_WORDS" = some u ∧ RelV (.ref aFW) u
  dFW : SDict K w aFW wordsF
  dict : mg "dict" = none
section
variable {P : Program} {w : World} {K : PySem.W.Frag} {mg : Str → Option Value} {base : Heap} {f : Addr} {fd : FuncData} {CR CW fI : Addr}
theorem okWr0 (T : WrTxt K mg CW fI) (F : Fun K "__init__" "Written.__init__" sWr0 f fd) : FnOk P w K mg base CX0 1 f fd NWr0 (spWr0 CW) := by
  refine F.ok scWr0 (fun vs H Q E h => ?_) (fun cdv A outer s H vs Q E hr h => ?_)
  · obtain ⟨p, dx, u, d, l, rfl, _⟩ := h
    rfl
  obtain ⟨p, dx, u, d, l, rfl, hp, q⟩ := h
  refine ⟨_, pss_cons (ps_fld (pv 0) (pv 1) rfl) (pss_cons (ps_fld (pv 0) (pv 2) rfl) (pss_one (ps_fld (pv 0) (pv 3) rfl))), ?_⟩
  refine ⟨_, rfl, _, rfl, p, CW, dx, _, rfl, hp, T.cl, T.nForm, (by show 0 < 1000; decide), ?_⟩
  refine ⟨_, rfl, _, rfl, p, CW, dx, _, rfl, upd_same, T.cl, T.nDepth, (by show 1 < 1000; decide), ?_⟩
  refine ⟨_, rfl, _, rfl, p, CW, dx, _, rfl, upd_same, T.cl, T.nLeaves, lt3 _ _ _ _, ?_⟩
  refine q _ (Mv.upd (Mv.upd (Mv.upd (Mv.refl _ _)))) ?_
  rw [upd_same, putF_wF]
  rfl
theorem same_make {H : Hp} {x dx C : Addr} (nx : H x = none) (nd : H dx = none) (ne : dx ≠ x) : Same H (upd (upd H dx (.own x)) x (.ins C dx [])) := fun b o e => by
  rw [upd_ne (ne_of_none e nx), upd_ne (ne_of_none e nd)]
  exact e
theorem same_mv {H H1 H2 : Hp} {x : Addr} (s : Same H H1) (nx : H x = none) (m : Mv x H1 H2) : Same H H2 := fun b o e => by
  rw [m b (ne_of_none e nx)]
  exact s b o e
theorem wr_make {H : Hp} {Q : VK} {E : XK} {u : V} {d l : Nat} (x dx : Addr) (nx : H x = none) (nd : H dx = none) (ne : dx ≠ x) (q : ∀ H', Same H H' → H' x = some (wO CW dx u d l) → Q (.ref x) H') :
    spWr0 CW [.ref x, u, .int d, .int l] (upd (upd H dx (.own x)) x (.ins CW dx [])) (fun v H3 => v = .non ∧ Q (.ref x) H3) E :=
  ⟨x, dx, u, d, l, rfl, upd_same, fun H' m h => ⟨rfl, q H' (same_mv (same_make nx nd ne) nx m) h⟩⟩
theorem oktake_leaf {R : RdTxt K CR} (T : WrTxt K mg CW fI) {fdI : FuncData} (GI : FnOk P w K mg base CX0 1 fI fdI NWr0 (spWr0 CW)) (bI : Binds K fdI NWr0 []) (M1 : Mth P w K mg base CR "sees" 1 NRd1 (spSees CR)) (M4 : Mth P w K mg base CR "take" 2 NRd1 (spTake CR))
    (M9 : Mth P w K mg base CR "take_name" 3 NRd2 (spTakeName CR)) (F : Fun K "take_leaf" "take_leaf" stake_leaf f fd) : FnOk P w K mg base CX0 4 f fd Ptake_leaf (spTakeLeaf K CR CW) := by
  refine F.ok sctake_leaf (fun vs H Q E h => ?_) (fun cdv A outer s H vs Q E hr h => ?_)
  · obtain ⟨p, dx, W, pre, n, suf, co, rfl, _⟩ := h
    rfl
  obtain ⟨p, dx, W, pre, n, suf, co, rfl, hp, hW, hn, hs, ht, hl, q⟩ := h
  refine ⟨_, (pss_cons (ps_set (i := 2) sctake_leaf.nd rfl (Or.inl rfl) (pe_methM0 M9 (pv 0) R.cl hr))
  (pss_cons (ps_if (PW.pt (pw_and (pt_cmp (pc_din (hu_of hr) pe_str (pv 1))) (pw_and1 (pt_val (pe_methM M1 (pv 0) R.cl hr (pa_cons pe_str pa_nil))))))
    (pss_cons (ps_expr (pe_methM M4 (pv 0) R.cl hr (pa_cons pe_str pa_nil)))
    (pss_one (ps_ret (pe_make T.made GI (hr.mono (by decide)) rfl T.g bI .nil pass0 (pa_cons (pe_tupN (pa_cons (pe_dget (hu_of hr) (pv 1) pe_str (fun _ _ => rfl)) (pa_cons (pv 2) pa_nil))) (pa_cons pe_int (pa_cons pe_int pa_nil)))))))
    pss_nil)
  (pss_one (ps_ret (pe_make T.made GI (hr.mono (by decide)) rfl T.g bI .nil pass0 (pa_cons (pe_tupN (pa_cons pe_str (pa_cons (pv 2) pa_nil))) (pa_cons pe_int (pa_cons pe_int pa_nil)))))))), ?_⟩
  refine ⟨_, rfl, p, dx, _, rfl, hp, rF_no, p, dx, pre, n, (if co then [126] else []) ++ suf, rfl, by rw [hp]; unfold leafS; rw [List.append_assoc], hn, ?_, ?_, fun H1 m1 h1 => ?_⟩
  · cases co
    · exact hs
    · show isLD 126 = false
      decide +kernel
  · unfold leafS at hl
    simp only [List.length_append] at hl ⊢
    omega
  have hl1 : (pre ++ n).length + ((if co then [126] else []) ++ suf).length ≤ sizeLine := by
    unfold leafS at hl
    simp only [List.length_append] at hl ⊢
    omega
  have nWp : W ≠ p := fun e => by rw [e, hp] at hW; cases hW
  have hW1 : H1 W = some (.dK wordsF) := by rw [m1 W nWp]; exact hW
  refine ⟨_, rfl, W, _, rfl, DGet.k (k := Sum.inr zTilde) hW1, _, rfl, ?_⟩
  refine iteT ?_
  refine ⟨_, rfl, p, dx, _, rfl, h1, rF_no, p, dx, pre ++ n, _, zTilde, rfl, h1, hl1, _, rfl, ?_⟩
  cases co with
  | false =>
    rw [show seesB ((if false = true then [126] else []) ++ suf) zTilde = false from ht]
    refine iteF ⟨_, rfl, le1k, fun t H2 s2 e2 => fun x dx' nx nd ne => wr_make (d := 0) (l := 1) x dx' nx nd ne fun H3 s3 h3 => ?_⟩
    have hh : H1 p = some (rO CR dx (pre ++ leafS false n) suf) := by
      rw [h1]
      unfold leafS
      rw [if_neg (by decide), List.append_nil]
      rfl
    exact q H3 _ ((Mv.keep m1).trans (Same.toKeep (s2.trans s3))) (s3 _ _ (s2 _ _ hh)) ⟨x, dx', _, rfl, h3, fun _ => ⟨t, rfl, (Same.kt s3).seq e2⟩, fun h => absurd h (by show ¬ (12 < 0); decide)⟩
  | true =>
    rw [show seesB ((if true = true then [126] else []) ++ suf) zTilde = true from (by show oneOf zTilde 126 = true; decide +kernel)]
    refine iteT ⟨_, rfl, p, dx, _, rfl, h1, rF_no, p, dx, pre ++ n, suf, 126, zTilde, rfl, h1, by decide +kernel, ?_, fun H1' m1' h1' => ?_⟩
    · simp only [List.length_append, if_true, List.length_cons, List.length_nil] at hl1 ⊢
      omega
    have hW1' : H1' W = some (.dK wordsF) := by rw [m1' W nWp]; exact hW1
    refine ⟨_, rfl, W, _, rfl, DGet.k (k := Sum.inr zTilde) hW1', _, rfl, le1k, fun t H2 s2 e2 => fun x dx' nx nd ne => wr_make (d := 0) (l := 1) x dx' nx nd ne fun H3 s3 h3 => ?_⟩
    have hh : H1' p = some (rO CR dx (pre ++ leafS true n) suf) := by
      rw [h1']
      unfold leafS
      rw [if_pos rfl, List.append_assoc]
    exact q H3 _ ((Mv.keep (m1.trans m1')).trans (Same.toKeep (s2.trans s3))) (s3 _ _ (s2 _ _ hh)) ⟨x, dx', _, rfl, h3, fun _ => ⟨t, rfl, (Same.kt s3).seq e2⟩, fun h => absurd h (by show ¬ (12 < 0); decide)⟩
theorem Sg.mem (s : Sg) : s.code ∈ forkC := by cases s <;> decide
theorem cut1 (c : Nat) : cutS ⟨#[c]⟩ (some 1) none = ⟨#[]⟩ := rfl
/-- of the first i signs those that are just this one -/
def flS (s : Sg) (i : Nat) : List V := (((wordsF.take i).map fun kv => kV kv.1).filter fun v => decide (v = .str ⟨#[s.code]⟩))
theorem flS_5 (s : Sg) : flS s 5 = [.str ⟨#[s.code]⟩] := by cases s <;> rfl
theorem words_at (s : Sg) : valV wordsF (Sum.inr ⟨#[s.code]⟩) = some (.str s.word) := by cases s <;> rfl
theorem words_key {i : Nat} {k : Key} {v : V} (h : wordsF[i]? = some (k, v)) : ∃ c, k = .inr ⟨#[c]⟩ ∧ i < 5 := by
  match i, h with
  | 0, h => exact ⟨_, (Prod.mk.inj (Option.some.inj h)).1.symm, by decide⟩
  | 1, h => exact ⟨_, (Prod.mk.inj (Option.some.inj h)).1.symm, by decide⟩
  | 2, h => exact ⟨_, (Prod.mk.inj (Option.some.inj h)).1.symm, by decide⟩
  | 3, h => exact ⟨_, (Prod.mk.inj (Option.some.inj h)).1.symm, by decide⟩
  | 4, h => exact ⟨_, (Prod.mk.inj (Option.some.inj h)).1.symm, by decide⟩
  | _ + 5, h => cases h
theorem flS_next {s : Sg} {i : Nat} {k : Key} {v : V} (h : wordsF[i]? = some (k, v)) : flS s (i + 1) = if kV k = .str ⟨#[s.code]⟩ then flS s i ++ [kV k] else flS s i := by
  unfold flS
  rw [take_next h, List.map_append, List.filter_append]
  by_cases e : kV k = .str ⟨#[s.code]⟩
  · rw [if_pos e]
    simp [e]
  · rw [if_neg e]
    simp [e]
theorem flS_len (s : Sg) (i : Nat) : (flS s i).length ≤ 5 := by
  unfold flS
  refine Nat.le_trans (List.length_filter_le _ _) ?_
  rw [List.length_map, List.length_take]
  exact Nat.min_le_right _ _
theorem oktake_sign {R : RdTxt K CR} (M4 : Mth P w K mg base CR "take" 2 NRd1 (spTake CR)) (M4L : Mth P w K mg base CR "take" 2 NRd1 (spTakeL K CR)) (F : Fun K "take_sign" "take_sign" stake_sign f fd) : FnOk P w K mg base CX0 3 f fd Ptake_sign (spTakeSign K CR) := by
  refine F.ok sctake_sign (fun vs H Q E h => ?_) (fun cdv A outer s H vs Q E hr h => ?_)
  · obtain ⟨p, dx, W, l, pre, suf, s, rfl, _⟩ := h
    rfl
  obtain ⟨p, dx, W, l, pre, suf, sg, rfl, hp, hW, hL, hl, q⟩ := h
  refine ⟨_, (pss_cons (ps_set (i := 3) sctake_sign.nd rfl (Or.inr rfl) (pe_methM M4L (pv 0) R.cl hr (pa_cons (pv 2) pa_nil)))
  (pss_cons (ps_lock (ps_set (i := 4) sctake_sign.nd rfl (Or.inl rfl) (pe_ix ix_list (pe_lc (own := [("sign", 6)]) (g := (gName 6)) rfl sctake_sign.nd (pi_keys (pv 1)) (blkOk_by (own := [("sign", 6)]) (N := Ntake_sign) (sc := defScope stake_sign) (by decide +kernel)) (fun _ _ _ _ _ => (pg_name (i := 6) sctake_sign.nd rfl (Or.inl rfl))) (fun _ _ _ _ _ => (pts_one (pt_cmpR op_eq (pe_ix ix_str (pv 6) pe_int (fun _ _ => rfl)) (pv 3) (nomark _)))) (fun _ _ _ _ _ => (pv 6))) pe_int (fun _ _ => rfl))))
  (pss_cons (ps_for PassesOwn.never rfl (pi_str (pe_slice sl_str (pv 4) (po_some pe_int) po_none)) (pg_name (i := 5) sctake_sign.nd rfl (Or.inl rfl))
    (pss_one (ps_expr (pe_methM M4 (pv 0) R.cl hr (pa_cons (pv 5) pa_nil)))))
  (pss_one (ps_ret (pe_dget (hu_of hr) (pv 1) (pv 4) (fun _ _ => rfl))))))), ?_⟩
  have nWp : W ≠ p := fun e => by rw [e, hp] at hW; cases hW
  refine ⟨_, rfl, p, dx, _, rfl, hp, rF_no, _, rfl, p, dx, l, pre, suf, sg.code, forkC, rfl, hp, hL, sg.mem, hl, fun H1 m1 h1 => ?_⟩
  have hW1 : H1 W = some (.dK wordsF) := by rw [m1 W nWp]; exact hW
  refine ⟨W, .dK wordsF, hW1, trivial, fun od => ?_⟩
  obtain ⟨G, hG⟩ : ∃ G, G = upd H1 W (.frz od (.dK wordsF)) := ⟨_, rfl⟩
  rw [← hG]
  have gW : G W = some (.frz od (.dK wordsF)) := by rw [hG]; exact upd_same
  refine ⟨_, rfl, W, od, rfl, .inl ⟨wordsF, gW, fun D nD => ?_⟩⟩
  have nDW : D ≠ W := fun e => by rw [e, gW] at nD; cases nD
  refine lc_it walk_keys (fun i H' => Same G H' ∧ H' D = some (.lst (flS sg i))) ⟨same_new nD _, upd_same⟩ (fun i H' _ z => z.1 _ _ gW) (fun i x H2 H3 hi z y => ?_) (fun H' z => ?_)
  · obtain ⟨rfl, k, v, hk, rfl⟩ := y
    obtain ⟨c, rfl, _⟩ := words_key hk
    refine ⟨rfl, _, rfl, ⟨#[c]⟩, 0, c, rfl, rfl, (by show 1 ≤ sizeLine; decide), rfl, _, rfl, rfl, _, rfl, ?_⟩
    have fn := flS_next (s := sg) hk
    have hn : G D = none := nD
    refine ite2 (fun e => ?_) (fun e => ?_)
    · have e' : kV (.inr ⟨#[c]⟩) = .str ⟨#[sg.code]⟩ := of_decide_eq_true e
      rw [if_pos e'] at fn
      refine ⟨_, rfl, _, z.2, Nat.lt_of_le_of_lt (flS_len sg i) (by decide), same_fresh z.1 hn, ?_⟩
      rw [upd_same, fn]
    · have e' : ¬ kV (.inr ⟨#[c]⟩) = .str ⟨#[sg.code]⟩ := fun u => e (decide_eq_true u)
      rw [if_neg e'] at fn
      refine ⟨z.1, ?_⟩
      rw [fn]
      exact z.2
  · have p2 : H' D = some (.lst [.str ⟨#[sg.code]⟩]) := by rw [z.2]; exact congrArg (fun u => some (HO.lst u)) (flS_5 sg)
    have gW' := z.1 _ _ gW
    have nDp : D ≠ p := fun e => by
      have : G p = some (rO CR dx (pre ++ [sg.code]) suf) := by rw [hG, upd_ne (Ne.symm nWp)]; exact h1
      rw [e, this] at nD
      cases nD
    refine ⟨D, _, 0, _, rfl, rfl, SqL.of p2, rfl, gW', ?_⟩
    have hp2 : upd H' W (.dK wordsF) p = some (rO CR dx (pre ++ [sg.code]) suf) := by
      rw [upd_ne (Ne.symm nWp)]
      refine z.1 _ _ ?_
      rw [hG, upd_ne (Ne.symm nWp)]
      exact h1
    have kp : Keep p H (upd H' W (.dK wordsF)) := fun b o n e => by
      by_cases eb : b = W
      · subst eb
        rw [upd_same]
        rw [hW] at e
        exact e
      · rw [upd_ne eb]
        refine z.1 _ _ ?_
        rw [hG, upd_ne eb]
        exact m1.keep b o n e
    have hW2 : upd H' W (.dK wordsF) W = some (.dK wordsF) := upd_same
    refine ⟨_, rfl, _, rfl, _, rfl, (by show 1 ≤ sizeLine; decide), ?_⟩
    rw [cut1]
    refine ⟨_, rfl, ?_⟩
    refine for_it walk_str (fun i σ H'' => σ = [some (.ref p), some (.ref W), some (.ref l), some (.str ⟨#[sg.code]⟩), some (.str ⟨#[sg.code]⟩), none, none] ∧ H'' = upd H' W (.dK wordsF)) ⟨rfl, rfl⟩ (fun _ _ _ _ _ => trivial) (fun i x σ HX HY hi pv yy => absurd hi (Nat.not_lt_zero _)) (fun σ HX pv => ?_)
    obtain ⟨rfl, rfl⟩ := pv
    exact ⟨_, rfl, _, rfl, W, _, rfl, (by have g := DGet.k (k := Sum.inr ⟨#[sg.code]⟩) hW2; rw [words_at] at g; exact g), q _ kp hp2⟩
theorem okgrouped (T : WrTxt K mg CW fI) (Y : TxtW K mg w) {fdI : FuncData} (GI : FnOk P w K mg base CX0 1 fI fdI NWr0 (spWr0 CW)) (bI : Binds K fdI NWr0 []) (F : Fun K "grouped" "grouped" sgrouped f fd) : FnOk P w K mg base CX0 3 f fd Pgrouped (spGrouped K CW) := by
  refine F.ok scgrouped (fun vs H Q E h => ?_) (fun cdv A outer s H vs Q E hr h => ?_)
  · obtain ⟨h, v1, v2, s, l, r, rfl, _⟩ := h
    rfl
  obtain ⟨h, v1, v2, sg, l, r, rfl, hh, ⟨a1, dx1, u1, rfl, k1, f1, n1⟩, ⟨a2, dx2, u2, rfl, k2, f2, n2⟩, q⟩ := h
  refine ⟨_, (pss_cons (ps_asg (pv 0) (pg_tup rfl (pgs_cons (pg_name (i := 2) scgrouped.nd rfl (Or.inl rfl)) (pgs_cons (pg_name (i := 3) scgrouped.nd rfl (Or.inl rfl)) pgs_nil))))
  (pss_cons (ps_set (i := 4) scgrouped.nd rfl (Or.inl rfl) (pe_op op_add pe_int (pe_callB (call_max2 rfl) rfl Y.max (by decide +kernel) (pa_cons (pe_fld (pv 2) rfl) (pa_cons (pe_fld (pv 1) rfl) pa_nil)))))
  (pss_cons (ps_set (i := 5) scgrouped.nd rfl (Or.inl rfl) (pe_op op_add (pe_fld (pv 2) rfl) (pe_fld (pv 1) rfl)))
  (pss_cons (ps_if (pt_cmpR op_gt (pv 4) (pe_globE Y.DEEPEST) (nomark _))
    (pss_one (ps_ret (pe_make T.made GI (hr.mono (by decide)) rfl T.g bI .nil pass0 (pa_cons pe_non (pa_cons (pv 4) (pa_cons (pv 5) pa_nil))))))
    pss_nil)
  (pss_one (ps_ret (pe_make T.made GI (hr.mono (by decide)) rfl T.g bI .nil pass0 (pa_cons (pe_tupN (pa_cons (pv 3) (pa_cons (pe_fld (pv 2) rfl) (pa_cons (pe_fld (pv 1) rfl) pa_nil)))) (pa_cons (pv 4) (pa_cons (pv 5) pa_nil)))))))))), ?_⟩
  refine ⟨_, rfl, h, _, rfl, hh, rfl, _, _, rfl, _, _, rfl, rfl, ?_⟩
  refine ⟨_, rfl, _, CW, _, _, _, rfl, k1, T.cl, T.nDepth, wF_depth _ _ _, _, rfl, _, CW, _, _, _, rfl, k2, T.cl, T.nDepth, wF_depth _ _ _, _, _, rfl, _, _, rfl, rfl, ?_⟩
  refine ⟨_, rfl, _, CW, _, _, _, rfl, k1, T.cl, T.nLeaves, wF_leaves _ _ _, _, rfl, _, CW, _, _, _, rfl, k2, T.cl, T.nLeaves, wF_leaves _ _ _, _, _, rfl, rfl, ?_⟩
  have ed : (1 : Int) + (if ((r.dep : Nat) : Int) > ((l.dep : Nat) : Int) then ((r.dep : Nat) : Int) else ((l.dep : Nat) : Int)) = (((FT.node sg l r).dep : Nat) : Int) := by
    show _ = (((1 + max l.dep r.dep : Nat)) : Int)
    by_cases c : ((r.dep : Nat) : Int) > ((l.dep : Nat) : Int)
    · rw [if_pos c]; omega
    · rw [if_neg c]; omega
  dsimp only
  rw [ed]
  have el : ((l.lvs : Nat) : Int) + ((r.lvs : Nat) : Int) = (((FT.node sg l r).lvs : Nat) : Int) := by
    show _ = (((l.lvs + r.lvs : Nat)) : Int)
    omega
  rw [el]
  refine ⟨_, rfl, _, _, rfl, rfl, _, rfl, ?_⟩
  refine ite2 (fun c1 => ?_) (fun c1 => ?_)
  · have c2 : 12 < (FT.node sg l r).dep := by
      have := of_decide_eq_true c1
      omega
    exact ⟨_, rfl, _, rfl, fun x dx nx nd ne => wr_make x dx nx nd ne fun H3 s3 h3 => q H3 _ s3 ⟨x, dx, _, rfl, h3, fun h => absurd h (by omega), fun _ => rfl⟩⟩
  · have c2 : (FT.node sg l r).dep ≤ 12 := Nat.le_of_not_lt fun h => c1 (decide_eq_true (by omega))
    have c3 : 1 + max l.dep r.dep ≤ 12 := c2
    refine ⟨_, rfl, _, rfl, _, CW, _, _, _, rfl, k1, T.cl, T.nForm, wF_form _ _ _, _, rfl, _, CW, _, _, _, rfl, k2, T.cl, T.nForm, wF_form _ _ _, le1k, fun t H2 s2 e2 => ⟨_, rfl, _, rfl, fun x dx nx nd ne => wr_make x dx nx nd ne fun H3 s3 h3 => ?_⟩⟩
    have k : KT H H3 := Same.kt (s2.trans s3)
    exact q H3 _ (s2.trans s3) ⟨x, dx, _, rfl, h3, fun _ => ⟨t, _, _, rfl, (Same.kt s3).seq e2, k.fm l (f1 (by omega)), k.fm r (f2 (by omega))⟩, fun h => absurd h (by omega)⟩
theorem oktold_form (T : WrTxt K mg CW fI) (Y : TxtW K mg w) (F : Fun K "told_form" "told_form" stold_form f fd) : FnOk P w K mg base CX0 1 f fd Ntold_form (spTold K CW) := by
  refine F.ok sctold_form (fun vs H Q E h => ?_) (fun cdv A outer s H vs Q E hr h => ?_)
  · obtain ⟨v, t, rfl, _⟩ := h
    rfl
  obtain ⟨v, t, rfl, ⟨a, dx, u, rfl, k, hf, hn⟩, hd, q⟩ := h
  refine ⟨_, (pss_cons (ps_if (pt_cmpR op_gt (pe_fld (pv 0) rfl) (pe_globE Y.DEEPEST) (nomark _)) (pss_one ps_no) pss_nil) (pss_one (ps_ret (pe_fld (pv 0) rfl)))), ?_⟩
  refine ⟨_, rfl, _, CW, _, _, _, rfl, k, T.cl, T.nDepth, wF_depth _ _ _, _, _, rfl, rfl, _, rfl, ?_⟩
  rw [decide_eq_false (by omega)]
  exact iteF ⟨_, rfl, _, CW, _, _, _, rfl, k, T.cl, T.nForm, wF_form _ _ _, q _ (hf hd)⟩
end
end My

set_option Elab.async false
set_option linter.all false
set_option maxRecDepth 100000
namespace My
open PySem L2
abbrev stake_halved : Stmt := top 26
abbrev Ntake_halved : List Str := ["reader", "words", "begins", "halves", "part", "sign"]
abbrev Ptake_halved : List Str := ["reader", "words"]
theorem sctake_halved : FnScope Ntake_halved Ptake_halved (defScope stake_halved) := ⟨rfl, rfl, rfl, by decide +kernel, rfl, by decide +kernel, by decide +kernel⟩
abbrev stake_form : Stmt := top 27
abbrev Ntake_form : List Str := ["reader"]
abbrev Ptake_form : List Str := ["reader"]
theorem sctake_form : FnScope Ntake_form Ptake_form (defScope stake_form) := ⟨rfl, rfl, rfl, by decide +kernel, rfl, by decide +kernel, by decide +kernel⟩
/-! ### texts of forms, with spaces -/
abbrev spc (k : Nat) : List Nat := List.replicate k 32
inductive Half : FT → List Nat → Prop
  | leaf (co : Bool) (n : List Nat) : isName (Z n) = true → Half (.leaf co n) (leafS co n)
  | node (s : Sg) {l r : FT} (a b c d : Nat) {tl tr : List Nat} : Half l tl → Half r tr → Half (.node s l r) (40 :: (spc a ++ (tl ++ (spc b ++ (s.code :: (spc c ++ (tr ++ (spc d ++ [41]))))))))
inductive Fr where
  | lf (s : Sg) (r : FT)
  | rt (s : Sg) (l : FT)
/-- what stands behind a part, with R behind the whole -/
inductive Tail (R : List Nat) : List Fr → List Nat → Prop
  | nil : Tail R [] R
  | rt1 (s : Sg) (l : FT) : Tail R [.rt s l] R
  | rt (s : Sg) (l : FT) (k : Nat) {f : Fr} {fs : List Fr} {t : List Nat} : Tail R (f :: fs) t → Tail R (.rt s l :: f :: fs) (41 :: (spc k ++ t))
  | lf (s : Sg) (l : FT) (c d : Nat) {r : FT} {tr : List Nat} {fs : List Fr} {t : List Nat} : Half r tr → Tail R (.rt s l :: fs) t → Tail R (.lf s r :: fs) (s.code :: (spc c ++ (tr ++ (spc d ++ t))))
def plug : List Fr → FT → FT
  | [], t => t
  | .lf s r :: fs, t => plug fs (.node s t r)
  | .rt s l :: fs, t => plug fs (.node s l t)
theorem ixN_last {α : Type} (xs : List α) (v : α) : ixN (xs ++ [v]).length (-1) = some xs.length := by
  unfold ixN
  rw [if_neg (by decide), if_pos (by simp only [List.length_append, List.length_cons, List.length_nil]; omega)]
  congr 1
  simp only [List.length_append, List.length_cons, List.length_nil]
  omega
theorem set_last {α : Type} (v u : α) : ∀ xs : List α, (xs ++ [v]).set xs.length u = xs ++ [u]
  | [] => rfl
  | x :: xs => congrArg (x :: ·) (set_last v u xs)
theorem Tail.swap {R : List Nat} {s : Sg} {l l' : FT} {fs : List Fr} {t : List Nat} (h : Tail R (.rt s l :: fs) t) : Tail R (.rt s l' :: fs) t := by
  cases h with
  | rt1 => exact .rt1 s l'
  | rt _ _ k h => exact .rt s l' k h
def zFork : Str := Str.ofString "*|&+"
def zOpen : Str := Str.ofString "("
def zClose : Str := Str.ofString ")"
/-- what stands behind a part -/
def Stops (t : List Nat) : Prop := t.head?.any isLD = false ∧ seesB t zTilde = false ∧ seesB t zSpace = false
theorem Sg.no (s : Sg) : isLD s.code = false ∧ oneOf zTilde s.code = false ∧ oneOf zSpace s.code = false ∧ oneOf zFork s.code = true := by
  cases s <;> decide +kernel
theorem Sg.stops (s : Sg) (t : List Nat) : Stops (s.code :: t) := ⟨s.no.1, s.no.2.1, s.no.2.2.1⟩
theorem Sg.sees (s : Sg) (t : List Nat) : seesLB (s.code :: t) forkC = true := decide_eq_true s.mem
theorem close_stops (t : List Nat) : Stops (41 :: t) := ⟨(by decide +kernel : isLD 41 = false), (by decide +kernel : oneOf zTilde 41 = false), (by decide +kernel : oneOf zSpace 41 = false)⟩
theorem Tail.stops {R : List Nat} {fr : List Fr} {t : List Nat} (hR : Stops R) (h : Tail R fr t) : Stops t := by
  cases h with
  | nil => exact hR
  | rt1 => exact hR
  | rt => exact close_stops _
  | lf s => exact s.stops _
theorem spc_stops {k : Nat} {t : List Nat} (h : Stops t) : (spc k ++ t).head?.any isLD = false ∧ seesB (spc k ++ t) zTilde = false := by
  cases k with
  | zero => exact ⟨h.1, h.2.1⟩
  | succ k => exact ⟨(by decide +kernel : isLD 32 = false), (by decide +kernel : oneOf zTilde 32 = false)⟩
theorem letter_no {c : Nat} (h : isL c = true) : oneOf zOpen c = false ∧ oneOf zSpace c = false := by
  have h2 : c ∈ zLetters.cps.toList := of_decide_eq_true h
  constructor
  · refine decide_eq_false fun hc => ?_
    have e : c = 40 := by
      have : zOpen.cps.toList = [40] := by decide +kernel
      rw [this] at hc
      simpa using hc
    subst e
    exact absurd h2 (by decide +kernel)
  · refine decide_eq_false fun hc => ?_
    have e : c = 32 := by
      have : zSpace.cps.toList = [32] := by decide +kernel
      rw [this] at hc
      simpa using hc
    subst e
    exact absurd h2 (by decide +kernel)
theorem leaf_head {co : Bool} {n t : List Nat} (h : isName (Z n) = true) : seesB (leafS co n ++ t) zOpen = false ∧ seesB (leafS co n ++ t) zSpace = false := by
  cases n with
  | nil => exact absurd h (by decide)
  | cons c n =>
    unfold isName at h
    rw [Bool.and_eq_true, Bool.and_eq_true] at h
    exact letter_no h.2.1
theorem Half.space {t : FT} {txt : List Nat} (h : Half t txt) (r : List Nat) : seesB (txt ++ r) zSpace = false := by
  cases h with
  | leaf co n hn => exact (leaf_head hn).2
  | node => exact (by decide +kernel : oneOf zSpace 40 = false)
/-! ### what stays through the reading -/
def Gd (CW : Addr) (H H' : Hp) : Prop := ∀ a o, (Hard o ∨ ∃ dx u d l, o = wO CW dx u d l) → H a = some o → H' a = some o
section
variable {K : PySem.W.Frag} {CW CR dx : Addr} {H H' : Hp} {p : Addr}
theorem Gd.of_same (s : Same H H') : Gd CW H H' := fun a o _ h => s a o h
theorem Gd.of_keep {pre suf : List Nat} (hp : H p = some (rO CR dx pre suf)) (k : Keep p H H') : Gd CW H H' := fun a o n h => by
  refine k a o (fun e => ?_) h
  subst e
  rw [hp] at h
  have h := Option.some.inj h
  rcases n with n | ⟨_, _, _, _, e⟩
  · subst h
    rcases n with ⟨_, e⟩ | ⟨_, _, e⟩ <;> cases e
  · exact rO_ne_wO (h.trans e)
theorem Gd.of_lst {L : Addr} {xs ys : List V} (hL : H L = some (.lst xs)) : Gd CW H (upd H L (.lst ys)) := fun a o n h => by
  refine (upd_ne (fun e => ?_)).trans h
  subst e
  rw [hL] at h
  have h := Option.some.inj h
  subst h
  rcases n with (⟨_, e⟩ | ⟨_, _, e⟩) | ⟨_, _, _, _, e⟩ <;> cases e
theorem Gd.trans {H1 H2 : Hp} (a : Gd CW H H1) (b : Gd CW H1 H2) : Gd CW H H2 := fun c o n h => b c o n (a c o n h)
theorem Gd.kt (g : Gd CW H H') : KT H H' := fun a o n h => g a o (.inl n) h
theorem Wr.gd {t : FT} {v : V} (g : Gd CW H H') (h : Wr K CW H t v) : Wr K CW H' t v := by
  obtain ⟨a, dx, u, e, h1, h2, h3⟩ := h
  exact ⟨a, dx, u, e, g _ _ (.inr ⟨_, _, _, _, rfl⟩) h1, fun d => g.kt.fm t (h2 d), h3⟩
def FrV (K : PySem.W.Frag) (CW : Addr) (H : Hp) : Fr → V → Prop
  | .lf _ _, v => v = .non
  | .rt s l, v => ∃ h v1, v = .ref h ∧ SqT K H h [v1, .str s.word] ∧ Wr K CW H l v1
theorem FrV.gd (g : Gd CW H H') : ∀ {f : Fr} {v : V}, FrV K CW H f v → FrV K CW H' f v
  | .lf _ _, _, h => h
  | .rt _ _, _, ⟨h, v1, e, hs, hw⟩ => ⟨h, v1, e, g.kt.seq hs, hw.gd g⟩
def Stk (K : PySem.W.Frag) (CW : Addr) (H : Hp) : List Fr → List V → Prop
  | [], xs => xs = [.non]
  | f :: fs, xs => ∃ v vs, xs = v :: vs ∧ FrV K CW H f v ∧ ((fs = [] ∧ vs = []) ∨ (fs ≠ [] ∧ Stk K CW H fs vs))
theorem Stk.gd (g : Gd CW H H') : ∀ {fr : List Fr} {xs : List V}, Stk K CW H fr xs → Stk K CW H' fr xs
  | [], _, h => h
  | f :: fs, _, ⟨v, vs, e, hf, h⟩ => ⟨v, vs, e, hf.gd g, h.imp id fun h => ⟨h.1, h.2.gd g⟩⟩
end
def spTakeHalved (K : PySem.W.Frag) (CR CW : Addr) : Sp := fun vs H Q _ => ∃ (p dx W : Addr) (pre txt rest R : List Nat) (k k2 : Nat) (fr : List Fr) (t : FT), vs = [.ref p, .ref W] ∧ H p = some (rO CR dx pre (spc k ++ (txt ++ (spc k2 ++ rest)))) ∧ H W = some (.dK wordsF) ∧
  Half t txt ∧ Stops R ∧ seesLB R forkC = false ∧ Tail R fr rest ∧ ((fr = [] ∧ ∃ co n, t = .leaf co n) ∨ ∃ s r, fr = [.lf s r]) ∧ (pre ++ (spc k ++ (txt ++ (spc k2 ++ rest)))).length + 2 ≤ sizeLine ∧
  ∀ H' v pre', Keep p H H' → H' p = some (rO CR dx pre' R) → pre' ++ R = pre ++ (spc k ++ (txt ++ (spc k2 ++ rest))) → Wr K CW H' (plug fr t) v → Q v H'
def spTakeForm (K : PySem.W.Frag) (CR CW : Addr) : Sp := fun vs H Q _ => ∃ (p dx : Addr) (pre txt rest R : List Nat) (k k2 : Nat) (fr : List Fr) (t : FT), vs = [.ref p] ∧ H p = some (rO CR dx pre (spc k ++ (txt ++ (spc k2 ++ rest)))) ∧
  Half t txt ∧ Stops R ∧ seesLB R forkC = false ∧ Tail R fr rest ∧ ((fr = [] ∧ ∃ co n, t = .leaf co n) ∨ ∃ s r, fr = [.lf s r]) ∧ (pre ++ (spc k ++ (txt ++ (spc k2 ++ rest)))).length + 2 ≤ sizeLine ∧
  ∀ H' v pre', Keep p H H' → H' p = some (rO CR dx pre' R) → pre' ++ R = pre ++ (spc k ++ (txt ++ (spc k2 ++ rest))) → Wr K CW H' (plug fr t) v → Q v H'
/-- the first signs, all but ~ -/
def flB (i : Nat) : List V := (((wordsF.take i).map fun kv => kV kv.1).filter fun v => !decide (v = .str zTilde))
theorem flB_5 : flB 5 = signsL forkC := by decide +kernel
theorem flB_len (i : Nat) : (flB i).length ≤ 5 := by
  unfold flB
  refine Nat.le_trans (List.length_filter_le _ _) ?_
  rw [List.length_map, List.length_take]
  exact Nat.min_le_right _ _
theorem flB_next {i : Nat} {k : Key} {v : V} (h : wordsF[i]? = some (k, v)) : flB (i + 1) = if kV k = .str zTilde then flB i else flB i ++ [kV k] := by
  unfold flB
  rw [take_next h, List.map_append, List.filter_append]
  by_cases e : kV k = .str zTilde
  · rw [if_pos e]
    simp [e]
  · rw [if_neg e]
    simp [e]
section
variable {P : Program} {w : World} {K : PySem.W.Frag} {mg : Str → Option Value} {base : Heap} {f : Addr} {fd : FuncData} {CR CW fI : Addr}
theorem oktake_halved {R : RdTxt K CR} (T : WrTxt K mg CW fI) (X0 : Txt K mg) (M1 : Mth P w K mg base CR "sees" 1 NRd1 (spSees CR)) (M1L : Mth P w K mg base CR "sees" 1 NRd1 (spSeesL K CR)) (M4 : Mth P w K mg base CR "take" 2 NRd1 (spTake CR))
    (M5 : Mth P w K mg base CR "skip_spaces" 2 NRd2 (spSkip CR)) (Ctake_leaf : Cal P w K mg base "take_leaf" 4 Ptake_leaf (spTakeLeaf K CR CW)) (Cgrouped : Cal P w K mg base "grouped" 3 Pgrouped (spGrouped K CW)) (Ctake_sign : Cal P w K mg base "take_sign" 3 Ptake_sign (spTakeSign K CR))
    (F : Fun K "take_halved" "take_halved" stake_halved f fd) : FnOk P w K mg base CX0 5 f fd Ptake_halved (spTakeHalved K CR CW) := by
  refine F.ok sctake_halved (fun vs H Q E h => ?_) (fun cdv A outer s H vs Q E hr h => ?_)
  · obtain ⟨p, dx, W, pre, txt, rest, R, k, k2, fr, t, rfl, _⟩ := h
    rfl
  obtain ⟨p, dx, W, pre, txt, rest, R0, k, k2, fr, t, rfl, hp, hW, hh, hR, hR2, ht, hfr, hl, q⟩ := h
  refine ⟨_, (pss_cons (ps_lock (ps_setLc (i := 2) (own := [("sign", 5)]) (g := (gName 5)) rfl sctake_halved.nd rfl rfl (sw_true rfl rfl rfl (by decide +kernel)) (pi_keys (pv 1)) (blkOk_by (own := [("sign", 5)]) (N := Ntake_halved) (sc := defScope stake_halved) (by decide +kernel)) (fun _ _ _ _ _ => (pg_name (i := 5) sctake_halved.nd rfl (Or.inl rfl))) (fun _ _ _ _ _ => (pts_one (pt_cmpR op_ne (pv 5) pe_str (nomark _)))) (fun _ _ _ _ _ => (pe_ix ix_str (pv 5) pe_int (fun _ _ => rfl)))))
  (pss_cons (ps_set (i := 3) sctake_halved.nd rfl (Or.inl rfl) (pe_lst (pa_cons pe_non pa_nil)))
  (pss_one (ps_while PassesOwn.never (pt_truth pe_bl (by intro _; rfl))
    (pss_cons (ps_expr (pe_methM0 M5 (pv 0) R.cl hr))
    (pss_cons (ps_if (pt_val (pe_methM M1 (pv 0) R.cl hr (pa_cons pe_str pa_nil)))
      (pss_cons (ps_expr (pe_methM M4 (pv 0) R.cl hr (pa_cons pe_str pa_nil)))
      (pss_cons (ps_expr (pe_bm PySem.F.plainAttrs_list PySem.F.slot_list_append PySem.F.type_list_append mt_append (pv 3) (pa_cons pe_non pa_nil)))
      (pss_one ps_continue)))
      pss_nil)
    (pss_cons (ps_set (i := 4) sctake_halved.nd rfl (Or.inl rfl) (pe_callC Ctake_leaf hr (pa_cons (pv 0) (pa_cons (pv 1) pa_nil))))
    (pss_cons (ps_expr (pe_methM0 M5 (pv 0) R.cl hr))
    (pss_cons (ps_while PassesOwn.never (PW.pt (pw_and (pt_cmpR op_gt (pe_callB call_len rfl X0.len (by decide +kernel) (pa_cons (pv 3) pa_nil)) pe_int (nomark _)) (pw_and1 (pt_cmpR op_notN (pe_ix ix_list (pv 3) (pe_un un_neg pe_int) (fun _ _ => rfl)) pe_non (nomark _)))))
      (pss_cons (ps_expr (pe_methM M4 (pv 0) R.cl hr (pa_cons pe_str pa_nil)))
      (pss_cons (ps_expr (pe_methM0 M5 (pv 0) R.cl hr))
      (pss_one (ps_set (i := 4) sctake_halved.nd rfl (Or.inl rfl) (pe_callC Cgrouped hr (pa_cons (pe_bm0 PySem.F.plainAttrs_list PySem.F.slot_list_pop PySem.F.type_list_pop mt_pop (pv 3)) (pa_cons (pv 4) pa_nil))))))))
    (pss_cons (ps_if (pt_cmpR op_notN (pe_ix ix_list (pv 3) (pe_un un_neg pe_int) (fun _ _ => rfl)) pe_non (nomark _))
      (pss_one (ps_ret (pe_callC Cgrouped hr (pa_cons (pe_ix ix_list (pv 3) (pe_un un_neg pe_int) (fun _ _ => rfl)) (pa_cons (pv 4) pa_nil)))))
      pss_nil)
    (pss_cons (ps_if (PW.pt (pw_and (pt_cmpR op_eq (pe_callB call_len rfl X0.len (by decide +kernel) (pa_cons (pv 3) pa_nil)) pe_int (nomark _)) (pw_and (pt_cmpR op_eq (pe_fld (pv 4) rfl) pe_int (nomark _)) (pw_and1 (pt_not (pt_val (pe_methM M1L (pv 0) R.cl hr (pa_cons (pv 2) pa_nil))))))))
      (pss_one (ps_ret (pv 4)))
      pss_nil)
    (pss_one (ps_asg (pe_tupN (pa_cons (pv 4) (pa_cons (pe_callC Ctake_sign hr (pa_cons (pv 0) (pa_cons (pv 1) (pa_cons (pv 2) pa_nil)))) pa_nil))) (pg_sub (pv 3) (pe_un un_neg pe_int) set_list)))))))))))))), ?_⟩
  have nWp : W ≠ p := fun e => by rw [e, hp] at hW; cases hW
  refine ⟨W, .dK wordsF, hW, trivial, fun od => ?_⟩
  obtain ⟨G, hG⟩ : ∃ G, G = upd H W (.frz od (.dK wordsF)) := ⟨_, rfl⟩
  rw [← hG]
  have gW : G W = some (.frz od (.dK wordsF)) := by rw [hG]; exact upd_same
  refine ⟨_, rfl, W, od, rfl, .inl ⟨wordsF, gW, fun B nB => ?_⟩⟩
  have nBW : B ≠ W := fun e => by rw [e, gW] at nB; cases nB
  have nBH : H B = none := by
    have e := nB
    rw [hG, upd_ne nBW] at e
    exact e
  refine lc_it walk_keys (fun i H' => Same G H' ∧ H' B = some (.lst (flB i))) ⟨same_new nB _, upd_same⟩ (fun i H' _ z => z.1 _ _ gW) (fun i x H2 H3 hi z y => ?_) (fun H' z => ?_)
  · obtain ⟨rfl, kk, v, hk, rfl⟩ := y
    obtain ⟨c, rfl, _⟩ := words_key hk
    refine ⟨rfl, _, rfl, rfl, _, rfl, ?_⟩
    have fn := flB_next hk
    refine ite2 (fun e => ?_) (fun e => ?_)
    · have e' : ¬ kV (.inr ⟨#[c]⟩) = .str zTilde := fun u => by
        have u' : kV (.inr ⟨#[c]⟩) = V.str (Str.ofString "~") := u
        rw [decide_eq_true u'] at e
        cases e
      rw [if_neg e'] at fn
      refine ⟨_, rfl, ⟨#[c]⟩, 0, c, rfl, rfl, (by show 1 ≤ sizeLine; decide), rfl, _, z.2, Nat.lt_of_le_of_lt (flB_len i) (by decide), same_fresh z.1 nB, ?_⟩
      rw [upd_same, fn]
      rfl
    · have e' : kV (.inr ⟨#[c]⟩) = .str zTilde := by
        refine Decidable.byContradiction fun u => e ?_
        have u' : ¬ kV (.inr ⟨#[c]⟩) = V.str (Str.ofString "~") := u
        rw [decide_eq_false u']
        rfl
      rw [if_pos e'] at fn
      refine ⟨z.1, ?_⟩
      rw [fn]
      exact z.2
  refine ⟨z.1 _ _ gW, ?_⟩
  have zB : H' B = some (.lst (signsL forkC)) := by rw [z.2]; exact congrArg (fun u => some (HO.lst u)) flB_5
  have hB1 : upd H' W (.dK wordsF) B = some (.lst (signsL forkC)) := by rw [upd_ne nBW]; exact zB
  have s0 : Same H (upd H' W (.dK wordsF)) := fun b o e => by
    by_cases eb : b = W
    · subst eb
      rw [upd_same]
      rw [hW] at e
      exact e
    · rw [upd_ne eb]
      refine z.1 _ _ ?_
      rw [hG, upd_ne eb]
      exact e
  clear z zB gW hG
  generalize upd H' W (.dK wordsF) = H0 at hB1 s0 ⊢
  clear H' nB G
  have hp := s0 _ _ hp
  have hW := s0 _ _ hW
  have nBp : B ≠ p := fun e => by rw [e, hp] at hB1; cases hB1
  refine ⟨(by show 1 ≤ sizeLine; decide), fun L nL => ?_⟩
  have nLp : L ≠ p := fun e => by rw [e, hp] at nL; cases nL
  have q : ∀ H' v pre', Keep p H0 H' → H' p = some (rO CR dx pre' R0) → pre' ++ R0 = pre ++ (spc k ++ (txt ++ (spc k2 ++ rest))) → Wr K CW H' (plug fr t) v → Q v H' := fun H' v pre' kp => q H' v pre' ((Same.toKeep s0).trans kp)
  obtain ⟨whole, hw⟩ : ∃ whole, whole = pre ++ (spc k ++ (txt ++ (spc k2 ++ rest))) := ⟨_, rfl⟩
  rw [← hw] at hl q
  obtain ⟨T0, hT⟩ : ∃ T0, T0 = plug fr t := ⟨_, rfl⟩
  rw [← hT] at q
  have st0 : Stk K CW (upd H0 L (.lst [.non])) fr [.non] := by
    rcases hfr with ⟨rfl, _⟩ | ⟨s, r, rfl⟩
    · rfl
    · exact ⟨_, _, rfl, rfl, .inl ⟨rfl, rfl⟩⟩
  have hfr2 : fr = [] → ∃ co n, t = .leaf co n := fun e => by
    rcases hfr with ⟨_, h⟩ | ⟨s, r, h⟩
    · exact h
    · rw [h] at e; cases e
  refine ⟨fun m σ H' => ∃ (o : Option V) (fr : List Fr) (t : FT) (pre' txt rest : List Nat) (k k2 : Nat) (xs : List V), σ = [some (.ref p), some (.ref W), some (.ref B), some (.ref L), o, none] ∧ Keep p H0 H' ∧ H' p = some (rO CR dx pre' (spc k ++ (txt ++ (spc k2 ++ rest)))) ∧
    whole = pre' ++ (spc k ++ (txt ++ (spc k2 ++ rest))) ∧ (spc k ++ (txt ++ (spc k2 ++ rest))).length ≤ m ∧ Half t txt ∧ Tail R0 fr rest ∧ (fr = [] → ∃ co n, t = .leaf co n) ∧ T0 = plug fr t ∧ Stk K CW H' fr xs ∧ H' L = some (.lst xs.reverse) ∧ xs.length ≤ pre'.length + 1,
    ⟨_, none, fr, t, pre, txt, rest, k, k2, [.non], rfl, fun b o n e => by rw [upd_ne (fun z => by rw [z, nL] at e; cases e)]; exact e, by rw [upd_ne (Ne.symm nLp)]; exact hp, hw, Nat.le_refl _, hh, ht, hfr2, hT, st0, upd_same, Nat.le_add_left _ _⟩, ?_⟩
  clear hh ht hfr hT hfr2 hw st0 hp
  rintro m σ H' ⟨o, fr, t, pre', txt, rest, k, k2, xs, rfl, kp, hp, hw, hm, hh, ht, hfr, hT, st, hL, hx⟩
  refine ⟨_, rfl, ?_⟩
  refine iteT ?_
  have hl1 : pre'.length + (k + (txt.length + (k2 + rest.length))) + 2 ≤ sizeLine := by
    rw [hw] at hl
    simp only [List.length_append, List.length_replicate] at hl
    exact hl
  refine ⟨_, fun _ _ h => h, ?_⟩
  have gR : Gd CW H' H' := Gd.of_same (Same.refl H')
  refine ⟨_, rfl, p, dx, _, rfl, hp, rF_no, p, dx, pre', txt ++ (spc k2 ++ rest), k, rfl, hp, hh.space _, by simp only [List.length_append, List.length_replicate]; omega, fun H1 m1 h1 => ?_⟩
  replace h1 : H1 p = some (rO CR dx (pre' ++ spc k) (txt ++ (spc k2 ++ rest))) := h1
  have g1 : Gd CW H' H1 := Gd.of_keep hp m1.keep
  have hL1 : H1 L = some (.lst xs.reverse) := by rw [m1 L nLp]; exact hL
  have hw1 : whole = pre' ++ spc k ++ (txt ++ (spc k2 ++ rest)) := by rw [hw, List.append_assoc]
  have hl2 : (pre' ++ spc k).length + (txt ++ (spc k2 ++ rest)).length + 2 ≤ sizeLine := by
    simp only [List.length_append, List.length_replicate]
    omega
  refine ⟨_, rfl, p, dx, _, rfl, h1, rF_no, p, dx, _, _, zOpen, rfl, h1, by omega, _, rfl, ?_⟩
  have hm1 : (txt ++ (spc k2 ++ rest)).length ≤ m := by
    simp only [List.length_append, List.length_replicate] at hm ⊢
    omega
  cases hh with
  | @node s l r a b c d tl tr hl3 hr3 =>
    rw [show seesB (40 :: (spc a ++ (tl ++ (spc b ++ (s.code :: (spc c ++ (tr ++ (spc d ++ [41]))))))) ++ (spc k2 ++ rest)) zOpen = true from (by show oneOf zOpen 40 = true; decide +kernel)]
    obtain ⟨f0, fs, rfl⟩ : ∃ f0 fs, fr = f0 :: fs := by
      cases fr with
      | nil =>
        obtain ⟨_, _, e⟩ := hfr rfl
        cases e
      | cons f0 fs => exact ⟨f0, fs, rfl⟩
    have e0 : 40 :: (spc a ++ (tl ++ (spc b ++ (s.code :: (spc c ++ (tr ++ (spc d ++ [41]))))))) ++ (spc k2 ++ rest) = 40 :: (spc a ++ (tl ++ (spc b ++ (s.code :: (spc c ++ (tr ++ (spc d ++ (41 :: (spc k2 ++ rest))))))))) := by
      simp only [List.append_assoc, List.cons_append, List.nil_append]
    rw [e0] at h1 hw1 hl2 hm1
    refine iteT ⟨_, rfl, p, dx, _, rfl, h1, rF_no, p, dx, _, _, 40, zOpen, rfl, h1, by decide +kernel, by simp only [List.length_cons] at hl2; omega, fun H2 m2 h2 => ?_⟩
    have hL2 : H2 L = some (.lst xs.reverse) := by rw [m2 L nLp]; exact hL1
    have g2 : Gd CW H1 H2 := Gd.of_keep h1 m2.keep
    refine ⟨_, rfl, .inl ⟨rfl, _, SqL.of hL2⟩, L, _, .non, rfl, rfl, hL2, ?_, ?_⟩
    · rw [List.length_reverse]
      have : pre'.length + 2 < sizeLine := by
        simp only [List.length_append, List.length_replicate, List.length_cons] at hl2
        omega
      omega
    refine ⟨(spc a ++ (tl ++ (spc b ++ (s.code :: (spc c ++ (tr ++ (spc d ++ (41 :: (spc k2 ++ rest))))))))).length, ?_, o, .lf s r :: f0 :: fs, l, pre' ++ spc k ++ [40], tl, s.code :: (spc c ++ (tr ++ (spc d ++ (41 :: (spc k2 ++ rest))))), a, b, .non :: xs, rfl, ?_, ?_, ?_, Nat.le_refl _, hl3, .lf s l c d hr3 (.rt s l k2 ht), (fun e => by cases e), hT, ?_, ?_, ?_⟩
    · simp only [List.length_cons] at hm1 ⊢
      omega
    · intro b o' n e
      rw [upd_ne (fun z => by rw [z, nL] at e; cases e)]
      exact ((kp.trans m1.keep).trans m2.keep) b o' n e
    · rw [upd_ne (Ne.symm nLp)]
      exact h2
    · rw [hw1]
      simp only [List.append_assoc, List.cons_append, List.nil_append]
    · exact ⟨.non, xs, rfl, rfl, .inr ⟨(by intro z; cases z), ((st.gd g1).gd g2).gd (Gd.of_lst hL2)⟩⟩
    · rw [upd_same, List.reverse_cons]
    · simp only [List.length_cons, List.length_append, List.length_nil, List.length_replicate]
      omega
  | leaf co n hn =>
    rw [(leaf_head hn).1]
    refine iteF ?_
    have hn0 : 0 < n.length := by
      cases n with
      | nil => exact absurd hn (by decide)
      | cons => exact Nat.succ_pos _
    have ls : n.length ≤ (leafS co n).length := by
      unfold leafS
      rw [List.length_append]
      omega
    refine ⟨_, rfl, _, rfl, p, dx, W, _, n, _, co, rfl, h1, (kp.trans m1.keep) W _ nWp hW, hn, (spc_stops (ht.stops hR)).1, (spc_stops (ht.stops hR)).2, by simp only [List.length_append, List.length_replicate] at hl2 ⊢; omega, fun H2 v kp2 h2 w2 => ?_⟩
    refine ⟨_, rfl, p, dx, _, rfl, h2, rF_no, p, dx, _, rest, k2, rfl, h2, (ht.stops hR).2.2, by simp only [List.length_append, List.length_replicate] at hl2 ⊢; omega, fun H3 m3 h3 => ?_⟩
    replace h3 : H3 p = some (rO CR dx (pre' ++ spc k ++ leafS co n ++ spc k2) rest) := h3
    have g2 : Gd CW H1 H2 := Gd.of_keep h1 kp2
    have g3 : Gd CW H2 H3 := Gd.of_keep h2 m3.keep
    have hL3 : H3 L = some (.lst xs.reverse) := by
      rw [m3 L nLp]
      exact kp2 _ _ nLp hL1
    have k3 : Keep p H0 H3 := ((kp.trans m1.keep).trans kp2).trans m3.keep
    have hw3 : whole = pre' ++ spc k ++ leafS co n ++ spc k2 ++ rest := by rw [hw1]; simp only [List.append_assoc]
    refine ⟨fun m2 σ H' => ∃ (fr : List Fr) (t : FT) (v : V) (pre2 rest : List Nat) (xs : List V), σ = [some (.ref p), some (.ref W), some (.ref B), some (.ref L), some v, none] ∧ Keep p H0 H' ∧ H' p = some (rO CR dx pre2 rest) ∧ whole = pre2 ++ rest ∧ rest.length ≤ m2 ∧ rest.length < m ∧ Tail R0 fr rest ∧ (fr = [] → ∃ co n, t = .leaf co n) ∧
      T0 = plug fr t ∧ Wr K CW H' t v ∧ Stk K CW H' fr xs ∧ H' L = some (.lst xs.reverse) ∧ xs.length ≤ pre2.length + 1, ⟨_, fr, .leaf co n, v, _, rest, xs, rfl, k3, h3, hw3, Nat.le_refl _, ?_, ht, fun _ => ⟨co, n, rfl⟩, hT, w2.gd g3, ((st.gd g1).gd g2).gd g3, hL3, ?_⟩, ?_⟩
    · simp only [List.length_append, List.length_replicate] at hm1
      omega
    · simp only [List.length_append, List.length_replicate]
      omega
    clear hw3 k3 hL3 g3 g2 h3 m3 w2 h2 kp2 v H2 H3 ls hn0 hn hm1 hl2 hw1 hL1 g1 h1 H1 m1 gR hl1 hx hL st hT hfr ht hm hw hp kp H' fr pre' co n xs k k2 rest
    rintro m2 σ H' ⟨fr, t, v, pre2, rest, xs, rfl, kp, hp, hw, hm2, hm, ht, hfr, hT, w1, st, hL, hx⟩
    refine ⟨_, rfl, _, _, rfl, .inl ⟨_, SqL.of hL, rfl⟩, _, _, rfl, rfl, _, rfl, ?_⟩
    have hlw : pre2.length + rest.length + 2 ≤ sizeLine := by
      rw [hw, List.length_append] at hl
      exact hl
    cases fr with
    | nil =>
      have ex : xs = [.non] := st
      subst ex
      obtain rfl : rest = R0 := by cases ht; rfl
      obtain ⟨co, n, rfl⟩ := hfr rfl
      obtain ⟨aw, dw, uw, rfl, kw, hw1, hw2⟩ := w1
      refine iteF ?_
      refine ⟨_, rfl, _, rfl, L, _, _, _, rfl, rfl, SqL.of hL, atI_last [] V.non, rfl, _, rfl, iteF ?_⟩
      refine ⟨_, rfl, _, _, rfl, .inl ⟨_, SqL.of hL, rfl⟩, rfl, _, rfl, ?_⟩
      refine iteT ⟨_, rfl, _, CW, _, _, _, rfl, kw, T.cl, T.nDepth, wF_depth _ _ _, rfl, _, rfl, ?_⟩
      refine iteT ⟨_, rfl, p, dx, _, rfl, hp, rF_no, _, rfl, p, dx, B, _, _, forkC, rfl, hp, SqL.of (kp B _ nBp hB1), by omega, _, rfl, ?_⟩
      rw [hR2]
      refine iteT ?_
      exact ⟨_, rfl, q H' _ _ kp hp hw.symm (by rw [hT]; exact ⟨aw, dw, uw, rfl, kw, hw1, hw2⟩)⟩
    | cons f0 fs =>
      obtain ⟨v0, vs, rfl, hf, hrest⟩ := st
      rw [List.reverse_cons] at hL
      cases f0 with
      | lf s r =>
        cases hf
        cases ht with
        | @lf _ l0 c d _ tr _ t' hr2 ht2 =>
        refine ite2 (fun c1 => ⟨_, rfl, _, rfl, L, _, _, _, rfl, rfl, SqL.of hL, atI_last _ _, rfl, _, rfl, ?_⟩) (fun c1 => ?_)
        all_goals refine iteF ?_
        all_goals refine ⟨_, rfl, _, rfl, L, _, _, _, rfl, rfl, SqL.of hL, atI_last _ _, rfl, _, rfl, iteF ?_⟩
        all_goals obtain ⟨aw, dw, uw, rfl, kw, hw1, hw2⟩ := w1
        all_goals refine ⟨_, rfl, _, _, rfl, .inl ⟨_, SqL.of hL, rfl⟩, rfl, _, rfl, ?_⟩
        all_goals refine ite2 (fun c2 => ⟨_, rfl, _, CW, _, _, _, rfl, kw, T.cl, T.nDepth, wF_depth _ _ _, rfl, _, rfl, ?_⟩) (fun c2 => iteF ?_)
        all_goals first
          | refine ite2 (fun c3 => ⟨_, rfl, p, dx, _, rfl, hp, rF_no, _, rfl, p, dx, B, _, _, forkC, rfl, hp, SqL.of (kp B _ nBp hB1), by omega, _, rfl, ?_⟩) (fun c3 => iteF ?_)
          | skip
        all_goals first
          | (rw [s.sees]; refine iteF ?_)
          | skip
        all_goals refine ⟨_, rfl, _, rfl, _, rfl, _, rfl, p, dx, W, B, pre2, _, s, rfl, hp, kp W _ nWp hW, SqL.of (kp B _ nBp hB1), by simp only [List.length_cons] at hlw; omega, fun H4 k4 h4 => ⟨le1k, fun a H5 s5 e5 => ?_⟩⟩
        all_goals refine ⟨_, rfl, _, rfl, L, _, _, vs.reverse.length, rfl, rfl, s5 _ _ (k4 L _ nLp hL), ixN_last _ _, ?_⟩
        all_goals
          have hL5 : H5 L = some (.lst (vs.reverse ++ [V.non])) := s5 _ _ (k4 L _ nLp hL)
          have g5 : Gd CW H' H5 := (Gd.of_keep hp k4).trans (Gd.of_same s5)
          have g6 : Gd CW H' (upd H5 L (.lst ((vs.reverse ++ [V.non]).set vs.reverse.length (.ref a)))) := g5.trans (Gd.of_lst hL5)
          have hwt : Wr K CW H' t (.ref aw) := ⟨aw, dw, uw, rfl, kw, hw1, hw2⟩
          have kp5 : Keep p H0 (upd H5 L (.lst ((vs.reverse ++ [V.non]).set vs.reverse.length (.ref a)))) := fun b o' n e => by
            rw [upd_ne (fun z => by rw [z, nL] at e; cases e)]
            exact ((kp.trans k4).trans (Same.toKeep s5)) b o' n e
          have hp5 : upd H5 L (.lst ((vs.reverse ++ [V.non]).set vs.reverse.length (.ref a))) p = some (rO CR dx (pre2 ++ [s.code]) (spc c ++ (tr ++ (spc d ++ t')))) := by
            rw [upd_ne (Ne.symm nLp)]
            exact s5 _ _ h4
          have hw5 : whole = pre2 ++ [s.code] ++ (spc c ++ (tr ++ (spc d ++ t'))) := by
            rw [hw]
            simp only [List.append_assoc, List.cons_append, List.nil_append]
          have hlt : (spc c ++ (tr ++ (spc d ++ t'))).length < m := by
            rw [List.length_cons] at hm
            omega
          have hx5 : (V.ref a :: vs).length ≤ (pre2 ++ [s.code]).length + 1 := by
            simp only [List.length_cons, List.length_append, List.length_nil] at hx ⊢
            omega
          have st5 : Stk K CW (upd H5 L (.lst ((vs.reverse ++ [V.non]).set vs.reverse.length (.ref a)))) (.rt s t :: fs) (V.ref a :: vs) := ⟨_, _, rfl, ⟨a, .ref aw, rfl, (Gd.of_lst (CW := CW) hL5).kt.seq e5, hwt.gd g6⟩, hrest.imp id (fun h => ⟨h.1, h.2.gd g6⟩)⟩
        all_goals exact ⟨_, hlt, _, .rt s t :: fs, r, pre2 ++ [s.code], tr, t', c, d, .ref a :: vs, rfl, kp5, hp5, hw5, Nat.le_refl _, hr2, ht2.swap, (fun e => by cases e), hT, st5, by rw [upd_same, set_last, List.reverse_cons], hx5⟩
      | rt s l =>
        obtain ⟨h, v1, rfl, hs, hwl⟩ := hf
        cases fs with
        | nil =>
          have ev : vs = [] := by
            rcases hrest with ⟨_, e⟩ | ⟨e, _⟩
            · exact e
            · exact absurd rfl e
          subst ev
          obtain rfl : rest = R0 := by cases ht; rfl
          refine iteF ?_
          refine ⟨_, rfl, _, rfl, L, _, _, _, rfl, rfl, SqL.of hL, atI_last _ _, rfl, _, rfl, iteT ?_⟩
          refine ⟨_, rfl, _, rfl, L, _, _, _, rfl, rfl, SqL.of hL, atI_last _ _, _, rfl, h, v1, v, s, l, t, rfl, hs, hwl, w1, fun H4 v4 s4 w4 => ?_⟩
          exact q H4 _ _ (kp.trans (Same.toKeep s4)) (s4 _ _ hp) hw.symm (by rw [hT]; exact w4)
        | cons f1 fs =>
          have hst2 : Stk K CW H' (f1 :: fs) vs := by
            rcases hrest with ⟨e, _⟩ | ⟨_, e⟩
            · cases e
            · exact e
          have hvs : 0 < vs.length := by
            obtain ⟨_, _, rfl, _⟩ := hst2
            exact Nat.succ_pos _
          cases ht with
          | @rt _ _ k _ _ t' ht2 =>
          have hlong : (1 : Int) < ((((V.ref h :: vs).reverse).length : Nat) : Int) := by
            simp only [List.length_reverse, List.length_cons]
            omega
          refine ite2 (fun _ => ⟨_, rfl, _, rfl, L, _, _, _, rfl, rfl, SqL.of hL, atI_last _ _, rfl, _, rfl, iteT ?_⟩) (fun c1 => absurd (decide_eq_true hlong) c1)
          refine ⟨_, fun _ _ h => h, ?_⟩
          refine ⟨_, rfl, p, dx, _, rfl, hp, rF_no, p, dx, pre2, _, 41, zClose, rfl, hp, by decide +kernel, by simp only [List.length_cons] at hlw; omega, fun H4 m4 h4 => ?_⟩
          refine ⟨_, rfl, p, dx, _, rfl, h4, rF_no, p, dx, _, t', k, rfl, h4, (ht2.stops hR).2.2, by simp only [List.length_cons, List.length_append, List.length_replicate, List.length_nil] at hlw ⊢; omega, fun H5 m5 h5 => ?_⟩
          have hL5 : H5 L = some (.lst (vs.reverse ++ [V.ref h])) := by rw [m5 L nLp, m4 L nLp]; exact hL
          have g5 : Gd CW H' H5 := (Gd.of_keep hp m4.keep).trans (Gd.of_keep h4 m5.keep)
          have g6 : Gd CW H' (upd H5 L (.lst (vs.reverse ++ [V.ref h]).dropLast)) := g5.trans (Gd.of_lst hL5)
          refine ⟨_, rfl, .inl ⟨rfl, _, SqL.of hL5⟩, L, _, .ref h, rfl, rfl, hL5, by simp, _, rfl, h, v1, v, s, l, t, rfl, g6.kt.seq hs, hwl.gd g6, w1.gd g6, fun H6 v6 s6 w6 => ?_⟩
          refine ⟨t'.length, ?_, f1 :: fs, .node s l t, v6, pre2 ++ [41] ++ spc k, t', vs, rfl, ?_, ?_, ?_, Nat.le_refl _, ?_, ht2, (fun e => by cases e), hT, w6, (hst2.gd g6).gd (Gd.of_same s6), ?_, ?_⟩
          · simp only [List.length_cons, List.length_append, List.length_replicate] at hm2
            omega
          · intro b o' n e
            refine s6 _ _ ?_
            rw [upd_ne (fun z => by rw [z, nL] at e; cases e)]
            exact ((kp.trans m4.keep).trans m5.keep) b o' n e
          · refine s6 _ _ ?_
            rw [upd_ne (Ne.symm nLp)]
            exact h5
          · rw [hw]
            simp only [List.append_assoc, List.cons_append, List.nil_append]
          · simp only [List.length_cons, List.length_append, List.length_replicate] at hm
            omega
          · refine s6 _ _ ?_
            rw [upd_same, List.dropLast_concat]
          · simp only [List.length_cons, List.length_append, List.length_replicate] at hx ⊢
            omega
theorem oktake_form (Y : TxtW K mg w) (Ctake_halved : Cal P w K mg base "take_halved" 5 Ptake_halved (spTakeHalved K CR CW)) (F : Fun K "take_form" "take_form" stake_form f fd) : FnOk P w K mg base CX0 6 f fd Ptake_form (spTakeForm K CR CW) := by
  refine F.ok sctake_form (fun vs H Q E h => ?_) (fun cdv A outer s H vs Q E hr h => ?_)
  · obtain ⟨p, dx, pre, txt, rest, R, k, k2, fr, t, rfl, _⟩ := h
    rfl
  obtain ⟨p, dx, pre, txt, rest, R, k, k2, fr, t, rfl, hp, hh, hR, hR2, ht, hfr, hl, q⟩ := h
  refine ⟨_, (pss_one (ps_ret (pe_callC Ctake_halved hr (pa_cons (pv 0) (pa_cons (pe_callTy call_dictS rfl Y.dict (by decide +kernel) (pa_cons (pe_globE Y.FORM_WORDS) pa_nil)) pa_nil))))), ?_⟩
  refine ⟨_, rfl, _, wordsF, rfl, Y.dFW, fun W nW => ?_⟩
  have s1 := same_new nW (.dK wordsF)
  exact ⟨p, dx, W, pre, txt, rest, R, k, k2, fr, t, rfl, s1 _ _ hp, upd_same, hh, hR, hR2, ht, hfr, hl, fun H' v pre' kp => q H' v pre' ((Same.toKeep s1).trans kp)⟩
end
end My

set_option Elab.async false
set_option linter.all false
set_option maxRecDepth 100000
namespace My
open PySem L2
abbrev sis_leaf : Stmt := top 16
abbrev Nis_leaf : List Str := ["form"]
theorem scis_leaf : FnScope Nis_leaf Nis_leaf (defScope sis_leaf) := ⟨rfl, rfl, rfl, by decide +kernel, rfl, by decide +kernel, by decide +kernel⟩
abbrev scheck_form : Stmt := top 18
theorem sccheck_form : FnScope Nis_leaf Nis_leaf (defScope scheck_form) := ⟨rfl, rfl, rfl, by decide +kernel, rfl, by decide +kernel, by decide +kernel⟩
abbrev scheck_text : Stmt := top 19
abbrev Ncheck_text : List Str := ["text"]
theorem sccheck_text : FnScope Ncheck_text Ncheck_text (defScope scheck_text) := ⟨rfl, rfl, rfl, by decide +kernel, rfl, by decide +kernel, by decide +kernel⟩
abbrev swritten : Stmt := top 33
theorem scwritten : FnScope Nis_leaf Nis_leaf (defScope swritten) := ⟨rfl, rfl, rfl, by decide +kernel, rfl, by decide +kernel, by decide +kernel⟩
abbrev swritten_half : Stmt := top 34
theorem scwritten_half : FnScope Nis_leaf Nis_leaf (defScope swritten_half) := ⟨rfl, rfl, rfl, by decide +kernel, rfl, by decide +kernel, by decide +kernel⟩
abbrev sform_text : Stmt := top 35
theorem scform_text : FnScope Nis_leaf Nis_leaf (defScope sform_text) := ⟨rfl, rfl, rfl, by decide +kernel, rfl, by decide +kernel, by decide +kernel⟩
abbrev sread_form : Stmt := top 36
abbrev Nread_form : List Str := ["text", "reader", "part"]
theorem scread_form : FnScope Nread_form Ncheck_text (defScope sread_form) := ⟨rfl, rfl, rfl, by decide +kernel, rfl, by decide +kernel, by decide +kernel⟩
structure CalX (P : Program) (w : World) (K : PySem.W.Frag) (mg : Str → Option Value) (base : Heap) (x : Str) (k : Nat) (ps : List Str) (sp : Sp) where
  f : Addr
  fd : FuncData
  ok : FnOk P w K mg base (L2.CX P w) k f fd ps sp
  m : mg x = some (.ref f)
  kp : PySem.W.keepIn K (.ref f) = true
  b : Binds K fd ps []
/-- the text of a form; of a half -/
def wrt : Bool → FT → List Nat
  | _, .leaf co n => leafS co n
  | false, .node s l r => wrt true l ++ (32 :: s.code :: 32 :: wrt true r)
  | true, .node s l r => 40 :: (wrt true l ++ (32 :: s.code :: 32 :: wrt true r) ++ [41])
def FT.isLeaf : FT → Bool | .leaf _ _ => true | .node _ _ _ => false
def isDictV (H : Hp) (v : V) : Prop := ∃ (a : Addr) (kvs : List (Key × V)), v = .ref a ∧ H a = some (.dK kvs)
def badE (C : Addr) (fld : Str) (v : V) (H : Hp) (E : XK) : Prop := ∀ (d : Addr) (H' : Hp), Same H H' → H' d = none → E (.ref C) (some d) (upd H' d (.xd [(fld, v)]))
def spLeafT (K : PySem.W.Frag) : Sp := fun vs H Q _ => ∃ v t, vs = [v] ∧ Fm K H t v ∧ Q (.bl t.isLeaf) H
def spWritten (K : PySem.W.Frag) (h : Bool) (n : Nat) : Sp := fun vs H Q _ => ∃ v t, vs = [v] ∧ Fm K H t v ∧ t.dep < n ∧ (wrt h t).length + 10 ≤ sizeLine ∧ Q (.str (Z (wrt h t))) H
def spToldX (K : PySem.W.Frag) (CW CD : Addr) : Sp := fun vs H Q E => ∃ (v : V) (t : FT), vs = [v] ∧ Wr K CW H t v ∧ (t.dep ≤ 12 → ∀ u, Fm K H t u → Q u H) ∧ (12 < t.dep → badE CD "most" (.int 12) H E)
def spCheckForm (K : PySem.W.Frag) (CB : Addr) : Sp := fun vs H Q E => ∃ v, vs = [v] ∧ ((∃ D, Dp K H v D ∧ (∀ z, D = .str z → z.length ≤ 1000) ∧ shortD D = true ∧ D.depth ≤ 60 ∧ (isForm 12 D = true → ∀ H', Same H H' → Q .non H') ∧ (isForm 12 D = false → badE CB "value" v H E)) ∨ (isDictV H v ∧ badE CB "value" v H E))
def spCheckText (K : PySem.W.Frag) (CB : Addr) : Sp := fun vs H Q E => ∃ v, vs = [v] ∧ ((∃ D, Dp K H v D ∧ (isStrD D = true → Q .non H) ∧ (isStrD D = false → badE CB "value" v H E)) ∨ (isDictV H v ∧ badE CB "value" v H E))
structure TxtS (K : PySem.W.Frag) (mg : Str → Option Value) (w : World) where
  aWS : Addr
  WORD_SIGNS : ∃ u, mg "WORD_SIGNS" = some u ∧ RelV (.ref aWS) u
  kWS : ∀ s : Sg, KDct K w aWS s.word (.str ⟨#[s.code]⟩)
theorem Z_cat (a b : List Nat) : Z a ++ Z b = Z (a ++ b) := by
  have : (Z a ++ Z b).cps.toList = (Z (a ++ b)).cps.toList := TL.tl_append (Z a) (Z b)
  exact TL.ext_tl this
section
variable {P : Program} {w : World} {K : PySem.W.Frag} {mg : Str → Option Value} {base : Heap} {f : Addr} {fd : FuncData} {CR CW fI : Addr}
theorem okis_leaf (T : Txt K mg) (F : Fun K "is_leaf" "is_leaf" sis_leaf f fd) : FnOk P w K mg base CX0 1 f fd Nis_leaf (spLeafT K) := by
  refine F.ok scis_leaf (fun vs H Q E h => ?_) (fun cdv A outer s H vs Q E hr h => ?_)
  · obtain ⟨v, t, rfl, _⟩ := h
    rfl
  obtain ⟨v, t, rfl, hf, q⟩ := h
  refine ⟨_, (pss_one (ps_ret (pe_cmpR op_eq (pe_callB call_len rfl T.len (by decide +kernel) (pa_cons (pv 0) pa_nil)) pe_int (nomark _)))), ?_⟩
  cases t with
  | leaf co n =>
    obtain ⟨a, rfl, hs⟩ := hf
    exact ⟨_, rfl, _, _, rfl, .inr ⟨_, hs, rfl⟩, rfl, q⟩
  | node s l r =>
    obtain ⟨a, x, y, rfl, hs, _⟩ := hf
    exact ⟨_, rfl, _, _, rfl, .inr ⟨_, hs, rfl⟩, rfl, q⟩
theorem okwritten {n : Nat} (Y : TxtS K mg w) (F : Fun K "written" "written" swritten f fd) (Chalf : Cal P w K mg base "written_half" (1 + 2 * n + 1) Nis_leaf (spWritten K true n)) : FnOk P w K mg base CX0 (1 + 2 * n + 1 + 1) f fd Nis_leaf (spWritten K false (n + 1)) := by
  refine F.ok scwritten (fun vs H Q E h => ?_) (fun cdv A outer s H vs Q E hr h => ?_)
  · obtain ⟨v, t, rfl, _⟩ := h
    rfl
  obtain ⟨v, t, rfl, hf, hd, hl, q⟩ := h
  refine ⟨_, (pss_cons (ps_if (pt_cmpR op_eq (pe_ix ix_tup (pv 0) pe_int (fun _ _ => rfl)) pe_str (nomark _))
    (pss_one (ps_ret (pe_ix ix_tup (pv 0) pe_int (fun _ _ => rfl))))
    pss_nil)
  (pss_cons (ps_if (pt_cmpR op_eq (pe_ix ix_tup (pv 0) pe_int (fun _ _ => rfl)) pe_str (nomark _))
    (pss_one (ps_ret (pe_op op_add_str (pe_ix ix_tup (pv 0) pe_int (fun _ _ => rfl)) pe_str)))
    pss_nil)
  (pss_one (ps_ret (pe_op op_add_str (pe_op op_add_str (pe_op op_add_str (pe_op op_add_str (pe_callC Chalf hr (pa_cons (pe_ix ix_tup (pv 0) pe_int (fun _ _ => rfl)) pa_nil)) pe_str) (pe_ix ix_kdict (pe_globE Y.WORD_SIGNS) (pe_ix ix_tup (pv 0) pe_int (fun _ _ => rfl)) (fun _ _ => rfl))) pe_str) (pe_callC Chalf hr (pa_cons (pe_ix ix_tup (pv 0) pe_int (fun _ _ => rfl)) pa_nil))))))), ?_⟩
  cases t with
  | leaf co m =>
    obtain ⟨a, rfl, hs⟩ := hf
    cases co with
    | false =>
      exact ⟨_, rfl, a, _, _, _, rfl, rfl, hs, rfl, rfl, _, rfl, iteT ⟨_, rfl, a, _, _, _, rfl, rfl, hs, rfl, by
        have e : wrt false (.leaf false m) = m := List.append_nil m
        rw [e] at q
        exact q⟩⟩
    | true =>
      refine ⟨_, rfl, a, _, _, _, rfl, rfl, hs, rfl, rfl, _, rfl, iteF ?_⟩
      refine ⟨_, rfl, a, _, _, _, rfl, rfl, hs, rfl, rfl, _, rfl, iteT ?_⟩
      refine ⟨_, rfl, a, _, _, _, rfl, rfl, hs, rfl, _, _, rfl, rfl, ?_, ?_⟩
      · rw [Z_len]
        have e : wrt false (.leaf true m) = m ++ [126] := rfl
        rw [e, List.length_append] at hl
        show m.length + 1 ≤ sizeLine
        have : ([126] : List Nat).length = 1 := rfl
        omega
      · have e : Z m ++ zTilde = Z (wrt false (.leaf true m)) := Z_cat m [126]
        show Q (.str (Z m ++ zTilde)) H
        rw [e]
        exact q
  | node s l r =>
    obtain ⟨a, x, y, rfl, hs, hx, hy⟩ := hf
    have hdd : 1 + max l.dep r.dep < n + 1 := hd
    have e : wrt false (.node s l r) = wrt true l ++ (32 :: s.code :: 32 :: wrt true r) := rfl
    have hl2 : (wrt true l).length + ((wrt true r).length + 3) + 10 ≤ sizeLine := by
      rw [e] at hl
      simp only [List.length_append, List.length_cons] at hl
      omega
    refine ⟨_, rfl, a, _, _, _, rfl, rfl, hs, rfl, rfl, _, rfl, ?_⟩
    refine ite2 (fun c => absurd c (by cases s <;> decide +kernel)) (fun _ => ?_)
    refine ⟨_, rfl, a, _, _, _, rfl, rfl, hs, rfl, rfl, _, rfl, ?_⟩
    refine ite2 (fun c => absurd c (by cases s <;> decide +kernel)) (fun _ => ?_)
    refine ⟨_, rfl, a, _, _, _, rfl, rfl, hs, rfl, x, l, rfl, hx, by omega, by omega, _, _, rfl, rfl, ?_, ?_⟩
    · show (Z (wrt true l)).length + (Z [32]).length ≤ sizeLine
      rw [Z_len, Z_len]
      simp only [List.length_cons, List.length_nil]
      omega
    have z1 : Z (wrt true l) ++ Str.ofString " " = Z (wrt true l ++ [32]) := Z_cat _ [32]
    have z2 : Z (wrt true l ++ [32]) ++ ⟨#[s.code]⟩ = Z (wrt true l ++ [32] ++ [s.code]) := Z_cat _ [s.code]
    have z3 : Z (wrt true l ++ [32] ++ [s.code]) ++ Str.ofString " " = Z (wrt true l ++ [32] ++ [s.code] ++ [32]) := Z_cat _ [32]
    have z4 : Z (wrt true l ++ [32] ++ [s.code] ++ [32]) ++ Z (wrt true r) = Z (wrt false (.node s l r)) := by
      rw [Z_cat, e]
      simp only [List.append_assoc, List.cons_append, List.nil_append]
    rw [z1]
    refine ⟨_, rfl, a, _, _, _, rfl, rfl, hs, rfl, _, _, _, rfl, rfl, Y.kWS s, _, _, rfl, rfl, ?_, ?_⟩
    · show (Z (wrt true l ++ [32])).length + (Z [s.code]).length ≤ sizeLine
      rw [Z_len, Z_len]
      simp only [List.length_append, List.length_cons, List.length_nil]
      omega
    rw [z2]
    refine ⟨_, _, rfl, rfl, ?_, ?_⟩
    · show (Z (wrt true l ++ [32] ++ [s.code])).length + (Z [32]).length ≤ sizeLine
      rw [Z_len, Z_len]
      simp only [List.length_append, List.length_cons, List.length_nil]
      omega
    rw [z3]
    refine ⟨_, rfl, a, _, _, _, rfl, rfl, hs, rfl, y, r, rfl, hy, by omega, by omega, _, _, rfl, rfl, ?_, ?_⟩
    · rw [Z_len, Z_len]
      simp only [List.length_append, List.length_cons, List.length_nil]
      omega
    rw [z4]
    exact q
theorem okwritten_half {n k : Nat} (Cleaf : Cal P w K mg base "is_leaf" 1 Nis_leaf (spLeafT K)) (F : Fun K "written_half" "written_half" swritten_half f fd) (Cw : Cal P w K mg base "written" (1 + k) Nis_leaf (spWritten K false n)) : FnOk P w K mg base CX0 (1 + k + 1) f fd Nis_leaf (spWritten K true n) := by
  refine F.ok scwritten_half (fun vs H Q E h => ?_) (fun cdv A outer s H vs Q E hr h => ?_)
  · obtain ⟨v, t, rfl, _⟩ := h
    rfl
  obtain ⟨v, t, rfl, hf, hd, hl, q⟩ := h
  refine ⟨_, (pss_cons (ps_if (pt_val (pe_callC Cleaf hr (pa_cons (pv 0) pa_nil)))
    (pss_one (ps_ret (pe_callC Cw hr (pa_cons (pv 0) pa_nil))))
    pss_nil)
  (pss_one (ps_ret (pe_op op_add_str (pe_op op_add_str pe_str (pe_callC Cw hr (pa_cons (pv 0) pa_nil))) pe_str)))), ?_⟩
  cases t with
  | leaf co m => exact ⟨_, rfl, v, _, rfl, hf, _, rfl, iteT ⟨_, rfl, v, _, rfl, hf, hd, hl, q⟩⟩
  | node s l r =>
    have e : wrt true (.node s l r) = 40 :: (wrt false (.node s l r) ++ [41]) := rfl
    have hl2 : (wrt false (.node s l r)).length + 2 + 10 ≤ sizeLine := by
      rw [e] at hl
      simp only [List.length_append, List.length_cons, List.length_nil] at hl
      omega
    refine ⟨_, rfl, v, _, rfl, hf, _, rfl, iteF ⟨_, rfl, v, _, rfl, hf, hd, by omega, _, _, rfl, rfl, ?_, ?_⟩⟩
    · show (Z [40]).length + (Z (wrt false (.node s l r))).length ≤ sizeLine
      rw [Z_len, Z_len]
      simp only [List.length_cons, List.length_nil]
      omega
    have z1 : Str.ofString "(" ++ Z (wrt false (.node s l r)) = Z (40 :: wrt false (.node s l r)) := Z_cat [40] _
    have z2 : Z (40 :: wrt false (.node s l r)) ++ Str.ofString ")" = Z (wrt true (.node s l r)) := Z_cat _ [41]
    rw [z1]
    refine ⟨_, _, rfl, rfl, ?_, ?_⟩
    · show (Z (40 :: wrt false (.node s l r))).length + (Z [41]).length ≤ sizeLine
      rw [Z_len, Z_len]
      simp only [List.length_cons, List.length_nil]
      omega
    rw [z2]
    exact q
theorem okcheck_form {CB : Addr} (T : Txt K mg) (O : OneE P w K mg base "BadValue" "value" CB) (F : Fun K "check_form" "check_form" scheck_form f fd) (Cfits_form : Cal P w K mg base "fits_form" 15 Pfits_form (spForm K 13)) :
    FnOk P w K mg base (L2.CX P w) 16 f fd Nis_leaf (spCheckForm K CB) := by
  refine F.okX sccheck_form (fun vs H Q E h => ?_) (fun cdv A outer s H vs Q E hr h => ?_)
  · obtain ⟨v, rfl, _⟩ := h
    rfl
  obtain ⟨v, rfl, h⟩ := h
  refine ⟨_, (pss_one (ps_if (pt_not (pt_val (pe_callC Cfits_form hr (pa_cons (pv 0) (pa_cons (pe_globE T.DEEPEST) pa_nil)))))
    (pss_one (ps_raise1 (k := 0) O rfl (hr.mono (by decide)) (takes_of rfl rfl rfl rfl) (pv 0)))
    pss_nil)), ?_⟩
  refine ⟨_, rfl, v, 12, rfl, by decide, ?_⟩
  rcases h with ⟨D, hv, hz, hs, hd, q1, q2⟩ | ⟨hd, q⟩
  · refine .inl ⟨D, hv, hs, fun H1 s1 => ⟨isForm 12 D, rfl, ?_⟩⟩
    cases c : isForm 12 D with
    | true => exact q1 c H1 s1
    | false => exact ⟨_, rfl, mk_one O.oex O.no fun d nd => q2 c d H1 s1 nd⟩
  · exact .inr ⟨hd, fun H1 s1 => ⟨false, rfl, _, rfl, mk_one O.oex O.no fun d nd => q d H1 s1 nd⟩⟩
theorem okcheck_text {CB : Addr} (T : Txt K mg) (O : OneE P w K mg base "BadValue" "value" CB) (F : Fun K "check_text" "check_text" scheck_text f fd) : FnOk P w K mg base (L2.CX P w) 4 f fd Ncheck_text (spCheckText K CB) := by
  refine F.okX sccheck_text (fun vs H Q E h => ?_) (fun cdv A outer s H vs Q E hr h => ?_)
  · obtain ⟨v, rfl, _⟩ := h
    rfl
  obtain ⟨v, rfl, h⟩ := h
  refine ⟨_, (pss_one (ps_if (pt_not (pt_val (pe_callB call_isi rfl T.isinstance (by decide +kernel) (pa_cons (pv 0) (pa_cons (pe_bltn (v := .ty "str") rfl T.str (by decide +kernel) rfl) pa_nil)))))
    (pss_one (ps_raise1 (k := 0) O rfl (hr.mono (by decide)) (takes_of rfl rfl rfl rfl) (pv 0)))
    pss_nil)), ?_⟩
  rcases h with ⟨D, hv, q1, q2⟩ | ⟨⟨a, kvs, rfl, ha⟩, q⟩
  · refine ⟨_, rfl, _, _, _, _, _, rfl, .ty "str", tyx_of hv, kit_str D, _, rfl, ?_⟩
    cases c : isStrD D with
    | true => exact iteF (q1 c)
    | false => exact iteT ⟨_, rfl, mk_one O.oex O.no fun d nd => q2 c d H (Same.refl H) nd⟩
  · exact ⟨_, rfl, _, _, _, _, _, rfl, .ty "str", .base (.dK ha), kit_dict_str, _, rfl, iteT ⟨_, rfl, mk_one O.oex O.no fun d nd => q d H (Same.refl H) nd⟩⟩
theorem oktold_formX {CD : Addr} (T : WrTxt K mg CW fI) (Y : TxtW K mg w) (O : OneE P w K mg base "TooDeep" "most" CD) (F : Fun K "told_form" "told_form" stold_form f fd) : FnOk P w K mg base (L2.CX P w) 4 f fd Ntold_form (spToldX K CW CD) := by
  refine F.okX sctold_form (fun vs H Q E h => ?_) (fun cdv A outer s H vs Q E hr h => ?_)
  · obtain ⟨v, t, rfl, _⟩ := h
    rfl
  obtain ⟨v, t, rfl, ⟨a, dx, u, rfl, k, hf, hn⟩, q1, q2⟩ := h
  refine ⟨_, (pss_cons (ps_if (pt_cmpR op_gt (pe_fld (pv 0) rfl) (pe_globE Y.DEEPEST) (nomark _)) (pss_one (ps_raise1 (k := 0) O rfl (hr.mono (by decide)) (takes_of rfl rfl rfl rfl) (pe_globE Y.DEEPEST))) pss_nil) (pss_one (ps_ret (pe_fld (pv 0) rfl)))), ?_⟩
  refine ⟨_, rfl, _, CW, _, _, _, rfl, k, T.cl, T.nDepth, wF_depth _ _ _, _, _, rfl, rfl, _, rfl, ?_⟩
  by_cases c : 12 < t.dep
  · rw [decide_eq_true (by omega)]
    exact iteT (mk_one O.oex O.no fun d nd => q2 c d H (Same.refl H) nd)
  · rw [decide_eq_false (by omega)]
    exact iteF ⟨_, rfl, _, CW, _, _, _, rfl, k, T.cl, T.nForm, wF_form _ _ _, q1 (by omega) _ (hf (by omega))⟩
end
end My

set_option Elab.async false
set_option linter.all false
set_option maxRecDepth 100000
namespace My
open PySem L2
/-- a text of this form -/
def TxR (R : List Nat) (T0 : FT) (cs : List Nat) : Prop := ∃ (k k2 : Nat) (txt rest : List Nat) (fr : List Fr) (t : FT), cs = spc k ++ (txt ++ (spc k2 ++ rest)) ∧ Half t txt ∧ Tail R fr rest ∧ ((fr = [] ∧ ∃ co n, t = .leaf co n) ∨ ∃ s r, fr = [.lf s r]) ∧ T0 = plug fr t
def Tx (T0 : FT) (cs : List Nat) : Prop := TxR [] T0 cs
def spReadForm (K : PySem.W.Frag) (CB CD : Addr) : Sp := fun vs H Q E => ∃ v, vs = [v] ∧ ((∃ T0 cs, v = .str (Z cs) ∧ Tx T0 cs ∧ cs.length + 12 ≤ sizeLine ∧ (T0.dep ≤ 12 → ∀ H' u, Same H H' → Fm K H' T0 u → Q u H') ∧ (12 < T0.dep → badE CD "most" (.int 12) H E)) ∨
  (∃ D, Dp K H v D ∧ isStrD D = false ∧ badE CB "value" v H E) ∨ (isDictV H v ∧ badE CB "value" v H E))
def spFormText (K : PySem.W.Frag) (CB : Addr) : Sp := fun vs H Q E => ∃ v, vs = [v] ∧ ((∃ t, Fm K H t v ∧ t.dep ≤ 12 ∧ t.Ok ∧ (wrt false t).length + 10 ≤ sizeLine ∧ ∀ H', Same H H' → Q (.str (Z (wrt false t))) H') ∨
  (∃ D, Dp K H v D ∧ (∀ z, D = .str z → z.length ≤ 1000) ∧ shortD D = true ∧ D.depth ≤ 60 ∧ isForm 12 D = false ∧ badE CB "value" v H E) ∨ (isDictV H v ∧ badE CB "value" v H E))
structure RdTxt2 (K : PySem.W.Frag) (mg : Str → Option Value) (CR fI : Addr) : Prop where
  made : Mk K CR fI
  g : mg "Reader" = some (.ref CR)
section
variable {P : Program} {w : World} {K : PySem.W.Frag} {mg : Str → Option Value} {base : Heap} {f : Addr} {fd : FuncData} {CR CW fI : Addr}
theorem badE.same {C : Addr} {fld : Str} {v : V} {H H1 : Hp} {E : XK} (b : badE C fld v H E) (s : Same H H1) : badE C fld v H1 E := fun d H' s' n => b d H' (s.trans s') n
theorem okread_form {CB CD : Addr} {R : RdTxt K CR} (R2 : RdTxt2 K mg CR fI) {fdI : FuncData} (GI : FnOk P w K mg base CX0 1 fI fdI NRd0 (spRd0 CR)) (bI : Binds K fdI NRd0 []) (Cct : CalX P w K mg base "check_text" 4 Ncheck_text (spCheckText K CB))
    (Ctf : Cal P w K mg base "take_form" 6 Ptake_form (spTakeForm K CR CW)) (M3 : Mth P w K mg base CR "finish" 2 NRd2 (spFinish CR)) (Cto : CalX P w K mg base "told_form" 4 Ntold_form (spToldX K CW CD)) (F : Fun K "read_form" "read_form" sread_form f fd) :
    FnOk P w K mg base (L2.CX P w) 7 f fd Ncheck_text (spReadForm K CB CD) := by
  refine F.okX scread_form (fun vs H Q E h => ?_) (fun cdv A outer s H vs Q E hr h => ?_)
  · obtain ⟨v, rfl, _⟩ := h
    rfl
  obtain ⟨v, rfl, h⟩ := h
  refine ⟨_, (pss_cons (ps_expr (pe_callS Cct.ok (hr.mono (by decide)) rfl Cct.m Cct.kp Cct.b (fun σ => passAt (takes_of rfl rfl rfl rfl) σ) (pa_cons (pv 0) pa_nil)))
  (pss_cons (ps_set (i := 1) scread_form.nd rfl (Or.inl rfl) (pe_make R2.made GI (hr.mono (by decide)) rfl R2.g bI .nil pass0 (pa_cons (pv 0) pa_nil)))
  (pss_cons (ps_set (i := 2) scread_form.nd rfl (Or.inl rfl) (pe_callC Ctf hr (pa_cons (pv 1) pa_nil)))
  (pss_cons (ps_expr (pe_methM0 M3 (pv 1) R.cl hr))
  (pss_one (ps_ret (pe_callS Cto.ok (hr.mono (by decide)) rfl Cto.m Cto.kp Cto.b (fun σ => passAt (takes_of rfl rfl rfl rfl) σ) (pa_cons (pv 2) pa_nil)))))))), ?_⟩
  rcases h with ⟨T0, cs, rfl, ⟨k, k2, txt, rest, fr, t, rfl, hh, ht, hfr, rfl⟩, hl, q1, q2⟩ | ⟨D, hv, hn, q⟩ | ⟨hd, q⟩
  · refine ⟨_, rfl, _, rfl, .inl ⟨.str _, .str _, fun _ => ?_, fun z => by cases z⟩⟩
    refine ⟨_, rfl, fun x dx nx nd ne => ⟨x, dx, _, rfl, upd_same, fun H1 m1 h1 => ⟨rfl, ?_⟩⟩⟩
    have s1 : Same H H1 := same_mv (same_make nx nd ne) nx m1
    refine ⟨_, rfl, x, dx, [], txt, rest, [], k, k2, fr, t, rfl, h1, hh, ⟨rfl, rfl, rfl⟩, rfl, ht, hfr, by rw [List.nil_append]; omega, fun H2 u pre' k2' h2 e2 w2 => ?_⟩
    rw [List.append_nil] at e2
    subst e2
    have s2 : Same H H2 := fun b o e => k2' b o (ne_of_none e nx) (s1 b o e)
    refine ⟨_, rfl, x, dx, _, rfl, h2, rF_no, x, dx, _, rfl, h2, by rw [List.nil_append]; omega, ?_⟩
    refine ⟨_, rfl, u, _, rfl, w2, fun hd u' hu => q1 hd H2 u' s2 hu, fun hd => (q2 hd).same s2⟩
  · exact ⟨_, rfl, _, rfl, .inl ⟨D, hv, fun z => (by rw [hn] at z; cases z), fun _ => q⟩⟩
  · exact ⟨_, rfl, _, rfl, .inr ⟨hd, q⟩⟩
theorem okform_text {CB : Addr} (Ccf : CalX P w K mg base "check_form" 16 Nis_leaf (spCheckForm K CB)) (Cw : Cal P w K mg base "written" 27 Nis_leaf (spWritten K false 13)) (F : Fun K "form_text" "form_text" sform_text f fd)
    (hD : ∀ t : FT, t.Ok → t.dep ≤ 12 → isForm 12 t.data = true ∧ shortD t.data = true ∧ t.data.depth ≤ 60) : FnOk P w K mg base (L2.CX P w) 31 f fd Nis_leaf (spFormText K CB) := by
  refine F.okX scform_text (fun vs H Q E h => ?_) (fun cdv A outer s H vs Q E hr h => ?_)
  · obtain ⟨v, rfl, _⟩ := h
    rfl
  obtain ⟨v, rfl, h⟩ := h
  refine ⟨_, (pss_cons (ps_expr (pe_callS Ccf.ok (hr.mono (by decide)) rfl Ccf.m Ccf.kp Ccf.b (fun σ => passAt (takes_of rfl rfl rfl rfl) σ) (pa_cons (pv 0) pa_nil)))
  (pss_one (ps_ret (pe_callC Cw hr (pa_cons (pv 0) pa_nil))))), ?_⟩
  rcases h with ⟨t, hf, hd, ok, hl, q⟩ | ⟨D, hv, hz, hs, hd, hn, q⟩ | ⟨hd, q⟩
  · obtain ⟨e1, e2, e3⟩ := hD t ok hd
    refine ⟨_, rfl, _, rfl, .inl ⟨t.data, FT.of_fm t hf, (fun z e => by cases t <;> cases e), e2, e3, fun _ H1 s1 => ?_, fun z => (by rw [e1] at z; cases z)⟩⟩
    exact ⟨_, rfl, v, t, rfl, (Same.kt s1).fm t hf, by omega, hl, q H1 s1⟩
  · exact ⟨_, rfl, _, rfl, .inl ⟨D, hv, hz, hs, hd, fun z => (by rw [hn] at z; cases z), fun _ => q⟩⟩
  · exact ⟨_, rfl, _, rfl, .inr ⟨hd, q⟩⟩
end
end My

set_option Elab.async false
set_option linter.all false
set_option maxRecDepth 100000
namespace My
open PySem L2
/-! ### texts that forms have -/
theorem wrt_half : ∀ t : FT, t.Ok → Half t (wrt true t)
  | .leaf co n, h => .leaf co n h
  | .node s l r, h => by
    have := Half.node s 0 1 1 0 (wrt_half l h.1) (wrt_half r h.2)
    have e : wrt true (.node s l r) = 40 :: (spc 0 ++ (wrt true l ++ (spc 1 ++ (s.code :: (spc 1 ++ (wrt true r ++ (spc 0 ++ [41]))))))) := by
      show 40 :: (wrt true l ++ (32 :: s.code :: 32 :: wrt true r) ++ [41]) = _
      simp only [List.append_assoc, List.replicate_succ, List.replicate_zero, List.nil_append, List.cons_append]
    rw [e]
    exact this
theorem wrt_tx (t : FT) (h : t.Ok) : Tx t (wrt false t) := by
  cases t with
  | leaf co n =>
    refine ⟨0, 0, leafS co n, [], [], .leaf co n, ?_, .leaf co n h, .nil, .inl ⟨rfl, co, n, rfl⟩, rfl⟩
    show leafS co n = _
    simp only [List.replicate_zero, List.nil_append, List.append_nil]
  | node s l r =>
    refine ⟨0, 1, wrt true l, _, [.lf s r], l, ?_, wrt_half l h.1, .lf s l 1 0 (wrt_half r h.2) (.rt1 s l), .inr ⟨s, r, rfl⟩, rfl⟩
    show wrt true l ++ (32 :: s.code :: 32 :: wrt true r) = _
    simp only [List.replicate_succ, List.replicate_zero, List.nil_append, List.cons_append, List.append_nil]
/-- tokens, with spaces between -/
inductive Gp : List (List Nat) → List Nat → Prop
  | nil (k : Nat) : Gp [] (spc k)
  | cons (k : Nat) {t : List Nat} {ts : List (List Nat)} {cs : List Nat} : Gp ts cs → Gp (t :: ts) (spc k ++ (t ++ cs))
def toks : Bool → FT → List (List Nat)
  | _, .leaf co n => [leafS co n]
  | false, .node s l r => toks true l ++ ([s.code] :: toks true r)
  | true, .node s l r => [40] :: (toks true l ++ ([s.code] :: toks true r) ++ [[41]])
theorem gp_half : ∀ (t : FT) {ts : List (List Nat)} {cs : List Nat}, t.Ok → Gp (toks true t ++ ts) cs → ∃ k txt cs', cs = spc k ++ (txt ++ cs') ∧ Half t txt ∧ Gp ts cs'
  | .leaf co n, ts, cs, h, g => by
    cases g with
    | cons k g => exact ⟨k, _, _, rfl, .leaf co n h, g⟩
  | .node s l r, ts, cs, h, g => by
    have e : toks true (.node s l r) ++ ts = [40] :: (toks true l ++ ([s.code] :: (toks true r ++ ([41] :: ts)))) := by
      show ([40] :: (toks true l ++ ([s.code] :: toks true r) ++ [[41]])) ++ ts = _
      simp only [List.append_assoc, List.cons_append, List.nil_append]
    rw [e] at g
    cases g with
    | cons k g =>
      obtain ⟨a, tl, c1, rfl, hl, g1⟩ := gp_half l h.1 g
      cases g1 with
      | @cons b _ _ c2 g2 =>
        obtain ⟨c, tr, c3, rfl, hr, g3⟩ := gp_half r h.2 g2
        cases g3 with
        | @cons d _ _ c4 g4 =>
          refine ⟨k, _, c4, ?_, .node s a b c d hl hr, g4⟩
          simp only [List.append_assoc, List.cons_append, List.nil_append]
theorem gp_tx (t : FT) {cs : List Nat} (h : t.Ok) (g : Gp (toks false t) cs) : Tx t cs := by
  cases t with
  | leaf co n =>
    cases g with
    | cons k g =>
      cases g with
      | nil k2 =>
        refine ⟨k, k2, leafS co n, [], [], .leaf co n, ?_, .leaf co n h, .nil, .inl ⟨rfl, co, n, rfl⟩, rfl⟩
        rw [List.append_nil]
  | node s l r =>
    have e : toks false (.node s l r) = toks true l ++ ([s.code] :: (toks true r ++ [])) := by rw [List.append_nil]; rfl
    rw [e] at g
    obtain ⟨a, tl, c1, rfl, hl, g1⟩ := gp_half l h.1 g
    cases g1 with
    | @cons b _ _ c2 g2 =>
      obtain ⟨c, tr, c3, rfl, hr, g3⟩ := gp_half r h.2 g2
      cases g3 with
      | nil d =>
        refine ⟨a, b, tl, _, [.lf s r], l, ?_, hl, .lf s l c d hr (.rt1 s l), .inr ⟨s, r, rfl⟩, rfl⟩
        rw [List.append_nil]
        rfl
theorem gp_flat : ∀ ts : List (List Nat), Gp ts ts.flatten
  | [] => .nil 0
  | t :: ts => by
    have := Gp.cons 0 (t := t) (gp_flat ts)
    rw [List.flatten_cons]
    exact this
theorem half_inner {s : Sg} {l r : FT} {txt : List Nat} (h : Half (.node s l r) txt) : ∃ body, txt = 40 :: (body ++ [41]) ∧ Tx (.node s l r) body := by
  cases h with
  | @node _ _ _ a b c d tl tr hl hr =>
    refine ⟨spc a ++ (tl ++ (spc b ++ (s.code :: (spc c ++ (tr ++ spc d))))), ?_, a, b, tl, _, [.lf s r], l, ?_, hl, .lf s l c d hr (.rt1 s l), .inr ⟨s, r, rfl⟩, rfl⟩
    · simp only [List.append_assoc, List.cons_append, List.nil_append]
    · rw [List.append_nil]
/-- forms within forms -/
def deepL (a : FT) : Nat → FT → FT
  | 0, t => t
  | n + 1, t => .node .mul a (deepL a n t)
def deepR (b : FT) : Nat → FT → FT
  | 0, t => t
  | n + 1, t => .node .amp (deepR b n t) b
def reps (n : Nat) (x : List Nat) : List Nat := (List.replicate n x).flatten
theorem reps_succ (n : Nat) (x : List Nat) : reps (n + 1) x = x ++ reps n x := by
  unfold reps
  rw [List.replicate_succ, List.flatten_cons]
theorem reps_succ' (n : Nat) (x : List Nat) : reps (n + 1) x = reps n x ++ x := by
  unfold reps
  rw [List.replicate_succ', List.flatten_append, List.flatten_cons, List.flatten_nil, List.append_nil]
def ltA : List Nat := [40, 97, 32, 42, 32]
def rtB : List Nat := [32, 38, 32, 98, 126, 41]
def ftA : FT := .leaf false [97]
def ftB : FT := .leaf true [98]
theorem half_deepL (t : FT) {txt : List Nat} (h : Half t txt) : ∀ n, Half (deepL ftA n t) (reps n ltA ++ (txt ++ reps n [41]))
  | 0 => by
    show Half t ([] ++ (txt ++ []))
    rw [List.nil_append, List.append_nil]
    exact h
  | n + 1 => by
    have := Half.node .mul 0 1 1 0 (Half.leaf false [97] (by decide +kernel)) (half_deepL t h n)
    rw [reps_succ, reps_succ']
    have e : ltA ++ reps n ltA ++ (txt ++ (reps n [41] ++ [41])) = 40 :: (spc 0 ++ (leafS false [97] ++ (spc 1 ++ (Sg.mul.code :: (spc 1 ++ ((reps n ltA ++ (txt ++ reps n [41])) ++ (spc 0 ++ [41]))))))) := by
      show [40, 97, 32, 42, 32] ++ reps n ltA ++ (txt ++ (reps n [41] ++ [41])) = 40 :: ([] ++ ([97] ++ ([32] ++ (42 :: ([32] ++ ((reps n ltA ++ (txt ++ reps n [41])) ++ ([] ++ [41])))))))
      simp only [List.append_assoc, List.cons_append, List.nil_append]
    rw [e]
    exact this
theorem half_deepR (t : FT) {txt : List Nat} (h : Half t txt) : ∀ n, Half (deepR ftB n t) (reps n [40] ++ (txt ++ reps n rtB))
  | 0 => by
    show Half t ([] ++ (txt ++ []))
    rw [List.nil_append, List.append_nil]
    exact h
  | n + 1 => by
    have := Half.node .amp 0 1 1 0 (half_deepR t h n) (Half.leaf true [98] (by decide +kernel))
    rw [reps_succ, reps_succ']
    have e : [40] ++ reps n [40] ++ (txt ++ (reps n rtB ++ rtB)) = 40 :: (spc 0 ++ ((reps n [40] ++ (txt ++ reps n rtB)) ++ (spc 1 ++ (Sg.amp.code :: (spc 1 ++ (leafS true [98] ++ (spc 0 ++ [41]))))))) := by
      show [40] ++ reps n [40] ++ (txt ++ (reps n rtB ++ [32, 38, 32, 98, 126, 41])) = 40 :: ([] ++ ((reps n [40] ++ (txt ++ reps n rtB)) ++ ([32] ++ (38 :: ([32] ++ ([98, 126] ++ ([] ++ [41])))))))
      simp only [List.append_assoc, List.cons_append, List.nil_append]
    rw [e]
    exact this
theorem deepL_dep (a : FT) (ha : a.dep = 0) (t : FT) : ∀ n, (deepL a n t).dep = n + t.dep
  | 0 => by show t.dep = _; omega
  | n + 1 => by
    show 1 + max a.dep (deepL a n t).dep = _
    rw [deepL_dep a ha t n, ha]
    omega
theorem deepR_dep (b : FT) (hb : b.dep = 0) (t : FT) : ∀ n, (deepR b n t).dep = n + t.dep
  | 0 => by show t.dep = _; omega
  | n + 1 => by
    show 1 + max (deepR b n t).dep b.dep = _
    rw [deepR_dep b hb t n, hb]
    omega
/-! ### forms as data -/
theorem sg_of {w : Str} (h : w ∈ halfW) : ∃ s : Sg, w = s.word := by
  unfold halfW at h
  simp only [List.mem_cons, List.not_mem_nil, or_false] at h
  rcases h with rfl | rfl | rfl | rfl
  · exact ⟨.mul, rfl⟩
  · exact ⟨.bar, rfl⟩
  · exact ⟨.amp, rfl⟩
  · exact ⟨.plus, rfl⟩
theorem leaf_of {w : Str} (h : w ∈ leafW) : ∃ co, w = leafZ co := by
  unfold leafW at h
  simp only [List.mem_cons, List.not_mem_nil, or_false] at h
  rcases h with rfl | rfl
  · exact ⟨false, rfl⟩
  · exact ⟨true, rfl⟩
theorem ft_of : ∀ {k : Nat} {D : PyData}, isForm k D = true → ∃ t : FT, D = t.data ∧ t.Ok ∧ t.dep ≤ k := by
  intro k
  induction k with
  | zero =>
    intro D h
    rcases isForm_inv h with ⟨w, n, rfl, hw, hn⟩ | ⟨j, w, a, b, e, _⟩
    · obtain ⟨co, rfl⟩ := leaf_of hw
      exact ⟨.leaf co n.cps.toList, rfl, hn, Nat.le_refl _⟩
    · cases e
  | succ k ih =>
    intro D h
    rcases isForm_inv h with ⟨w, n, rfl, hw, hn⟩ | ⟨j, w, a, b, e, rfl, hw, ha, hb⟩
    · obtain ⟨co, rfl⟩ := leaf_of hw
      exact ⟨.leaf co n.cps.toList, rfl, hn, Nat.zero_le _⟩
    · cases e
      obtain ⟨s, rfl⟩ := sg_of hw
      obtain ⟨l, rfl, ol, dl⟩ := ih ha
      obtain ⟨r, rfl, or', dr⟩ := ih hb
      exact ⟨.node s l r, rfl, ⟨ol, or'⟩, by show 1 + max l.dep r.dep ≤ k + 1; omega⟩
theorem fm_of_dp {K : PySem.W.Frag} {H : Hp} : ∀ (t : FT) {v : V}, Dp K H v t.data → Fm K H t v
  | .leaf co n, v, h => by
    cases h with | tup hT hA => cases hA with | cons h1 hA => cases hA with | cons h2 hN =>
    cases hN
    cases h1
    cases h2
    exact ⟨_, rfl, hT⟩
  | .node s l r, v, h => by
    cases h with | tup hT hA => cases hA with | cons h1 hA => cases hA with | cons h2 hA => cases hA with | cons h3 hN =>
    cases hN
    cases h1
    exact ⟨_, _, _, rfl, hT, fm_of_dp l h2, fm_of_dp r h3⟩
end My

set_option Elab.async false
set_option linter.all false
set_option maxRecDepth 100000
namespace My
open PySem PySem.Spec PyProof.Rows L2 SX
section
variable {X : Cx}
def rMulT : R2 := fun x y H Q => ∃ (cs : List Nat) (n : Nat), x = .str (Z cs) ∧ y = .int n ∧ cs.length ≤ 16 ∧ n ≤ 2000 ∧ Q (.str (Z (reps n cs))) H
theorem fold_list (a : Array Nat) : ∀ (k : Nat) (b : Array Nat), ((List.replicate k a).foldl (· ++ ·) b).toList = b.toList ++ reps k a.toList
  | 0, b => by
    show b.toList = b.toList ++ []
    rw [List.append_nil]
  | k + 1, b => by
    rw [List.replicate_succ, List.foldl_cons, fold_list a k (b ++ a), reps_succ, Array.toList_append, List.append_assoc]
theorem mul_Z (cs : List Nat) (n : Nat) : Txt.mul (Z cs) (n : Int) = Z (reps n cs) := by
  unfold Txt.mul
  by_cases h0 : (n : Int) < 1
  · have e : n = 0 := by omega
    subst e
    rw [if_pos h0]
    rfl
  · rw [if_neg h0]
    by_cases h1 : ((n : Int) == 1 || (Z cs).length == 0) = true
    · rw [if_pos h1]
      rw [Bool.or_eq_true] at h1
      rcases h1 with h1 | h1
      · have e : n = 1 := by have := eq_of_beq h1; omega
        subst e
        show Z cs = Z (reps 1 cs)
        rw [reps_succ]
        show Z cs = Z (cs ++ [])
        rw [List.append_nil]
      · have e : cs = [] := by
          have := eq_of_beq h1
          rw [Z_len] at this
          exact List.eq_nil_of_length_eq_zero this
        subst e
        have : ∀ n, reps n [] = [] := fun n => by
          induction n with
          | zero => rfl
          | succ n ih => rw [reps_succ, ih]; rfl
        rw [this]
    · rw [if_neg h1]
      refine TL.ext_tl ?_
      show ((List.replicate (n : Int).toNat (Z cs).cps).foldl (· ++ ·) #[]).toList = reps n cs
      rw [fold_list]
      rfl
theorem op_mulT : OpR X (binaryOp .Mult) rMulT := by
  intro pins s σ H x y v u Q I rx ry ⟨cs, n, ex, ey, hz, hn, q⟩
  subst ex ey
  obtain ⟨t, rfl⟩ := rx
  obtain ⟨t2, rfl⟩ := ry
  exact PySem.SB.mul (mulOk_of 16 2000 (by rw [Z_len]; exact hz) (by omega) (by omega) (by decide) (by decide)) fun t' k => ⟨.str (Txt.mul (Z cs) n), H, I.tok _, ⟨_, rfl⟩, by rw [mul_Z]; exact q⟩
end
abbrev s_law_form_text : Stmt := top 42
abbrev N_law_form_text : List Str := ["_law_form", "_law_is_half", "_law_sign", "_law_text"]
abbrev P_law_form_text : List Str := ["_law_form", "_law_is_half"]
theorem sc_law_form_text : FnScope N_law_form_text P_law_form_text (defScope s_law_form_text) := ⟨rfl, rfl, rfl, by decide +kernel, rfl, by decide +kernel, by decide +kernel⟩
def spLText (K : PySem.W.Frag) (n : Nat) : Sp := fun vs H Q _ => ∃ (v : V) (t : FT) (h : Bool), vs = [v, .bl h] ∧ Fm K H t v ∧ t.dep < n ∧ (wrt true t).length + 20 ≤ sizeLine ∧ ∀ H', Same H H' → Q (.str (Z (wrt h t))) H'
def signD : List (Key × V) := [(.inr "both", .str "*"), (.inr "between", .str "|"), (.inr "offered", .str "&"), (.inr "chosen", .str "+")]
theorem signD_get (s : Sg) : valV (mergeK [] signD) (.inr s.word) = some (.str (Z [s.code])) := by cases s <;> rfl
theorem sl {n m : Nat} (a : List Nat) (b : List Nat) (h : a.length + b.length ≤ sizeLine) : (Z a).length + (Z b).length ≤ sizeLine := by rw [Z_len, Z_len]; exact h
theorem leafS_eq (co : Bool) (n : List Nat) : leafS co n = n ++ reps (if co then 1 else 0) [126] := by cases co <;> rfl
theorem wrt_short (h : Bool) (t : FT) : (wrt h t).length ≤ (wrt true t).length := by
  cases t with
  | leaf co n => cases h <;> exact Nat.le_refl _
  | node s l r =>
    cases h with
    | true => exact Nat.le_refl _
    | false =>
      show (wrt true l ++ (32 :: s.code :: 32 :: wrt true r)).length ≤ (40 :: (wrt true l ++ (32 :: s.code :: 32 :: wrt true r) ++ [41])).length
      simp only [List.length_append, List.length_cons, List.length_nil]
      omega
theorem same_disp {H : Hp} {p : Addr} {o o' : HO} (n : H p = none) : Same H (upd (upd H p o) p o') := fun b u e => by
  rw [upd_ne (ne_of_none e n), upd_ne (ne_of_none e n)]
  exact e
section
variable {P : Program} {w : World} {K : PySem.W.Frag} {mg : Str → Option Value} {base : Heap} {f : Addr} {fd : FuncData} {CR CW fI : Addr}
theorem ok_law_form_text {n : Nat} (T : Txt K mg) (F : Fun K "_law_form_text" "_law_form_text" s_law_form_text f fd) (C_law_form_text : Cal P w K mg base "_law_form_text" (1 + n) P_law_form_text (spLText K n)) : FnOk P w K mg base CX0 (1 + n + 1) f fd P_law_form_text (spLText K (n + 1)) := by
  refine F.ok sc_law_form_text (fun vs H Q E h => ?_) (fun cdv A outer s H vs Q E hr h => ?_)
  · obtain ⟨v, t, h, rfl, _⟩ := h
    rfl
  obtain ⟨v, t, b, rfl, hf, hd, hl, q⟩ := h
  refine ⟨_, (pss_cons (ps_if (pt_cmpR op_eq (pe_callB call_len rfl T.len (by decide +kernel) (pa_cons (pv 0) pa_nil)) pe_int (nomark _))
    (pss_one (ps_ret (pe_op op_add_str (pe_ix ix_tup (pv 0) pe_int (fun _ _ => rfl)) (pe_op op_mulT pe_str (pe_callTy call_int1 rfl T.int (by decide +kernel) (pa_cons (pe_cmpR op_eq (pe_ix ix_tup (pv 0) pe_int (fun _ _ => rfl)) pe_str (nomark _)) pa_nil))))))
    pss_nil)
  (pss_cons (ps_set (i := 2) sc_law_form_text.nd rfl (Or.inl rfl) (pe_dget (hu_of hr) (pe_disp (pps_cons pe_str pe_str (pps_cons pe_str pe_str (pps_cons pe_str pe_str (pps_cons pe_str pe_str pps_nil)))) (by rfl) (by rfl) (fun z => by cases z) (by decide)) (pe_ix ix_tup (pv 0) pe_int (fun _ _ => rfl)) (fun _ _ => rfl)))
  (pss_cons (ps_set (i := 3) sc_law_form_text.nd rfl (Or.inl rfl) (pe_op op_add_str (pe_op op_add_str (pe_op op_add_str (pe_op op_add_str (pe_callC C_law_form_text hr (pa_cons (pe_ix ix_tup (pv 0) pe_int (fun _ _ => rfl)) (pa_cons pe_bl pa_nil))) pe_str) (pv 2)) pe_str) (pe_callC C_law_form_text hr (pa_cons (pe_ix ix_tup (pv 0) pe_int (fun _ _ => rfl)) (pa_cons pe_bl pa_nil)))))
  (pss_one (ps_ret (pe_ifExp (pt_truth (pv 1) (by intro _; rfl)) (pe_op op_add_str (pe_op op_add_str pe_str (pv 3)) pe_str) (pv 3))))))), ?_⟩
  cases t with
  | leaf co m =>
    obtain ⟨a, rfl, hs⟩ := hf
    have hl2 : (leafS co m).length + 20 ≤ sizeLine := hl
    have hl3 : m.length ≤ (leafS co m).length := by
      unfold leafS
      rw [List.length_append]
      omega
    refine ⟨_, rfl, _, _, rfl, .inr ⟨_, hs, rfl⟩, rfl, _, rfl, iteT ?_⟩
    refine ⟨_, rfl, a, _, _, _, rfl, rfl, hs, rfl, ?_⟩
    refine ⟨_, rfl, a, _, _, _, rfl, rfl, hs, rfl, rfl, .inr ⟨_, rfl, [126], (if co then 1 else 0), rfl, ?_, by decide, by cases co <;> decide, _, _, rfl, rfl, ?_, ?_⟩⟩
    · cases co <;> rfl
    · refine sl (n := 0) (m := 0) _ _ ?_
      have : (reps (if co then 1 else 0) [126]).length ≤ 1 := by cases co <;> decide
      omega
    · show Q (.str (Z m ++ Z (reps (if co then 1 else 0) [126]))) H
      rw [Z_cat, ← leafS_eq]
      exact q H (Same.refl H)
  | node s l r =>
    obtain ⟨a, x, y, rfl, hs, hx, hy⟩ := hf
    have hdd : 1 + max l.dep r.dep < n + 1 := hd
    have hl2 : (wrt true l).length + (wrt true r).length + 25 ≤ sizeLine := by
      have e : wrt true (.node s l r) = 40 :: (wrt true l ++ (32 :: s.code :: 32 :: wrt true r) ++ [41]) := rfl
      rw [e] at hl
      simp only [List.length_append, List.length_cons, List.length_nil] at hl
      omega
    refine ⟨_, rfl, _, _, rfl, .inr ⟨_, hs, rfl⟩, rfl, _, rfl, iteF ?_⟩
    intro p5 np5
    refine ⟨upd_same, signD, rfl, by decide, ?_⟩
    have s5 : Same H (upd (upd H p5 (.dK [])) p5 (.dK (mergeK [] signD))) := same_disp np5
    refine ⟨_, rfl, a, _, _, _, rfl, rfl, (Same.kt s5).seq hs, rfl, p5, .str (Z [s.code]), rfl, .inl ⟨_, .inr s.word, .inl upd_same, rfl, (signD_get s).symm⟩, ?_⟩
    refine ⟨_, rfl, a, _, _, _, rfl, rfl, (Same.kt s5).seq hs, rfl, x, l, true, rfl, (Same.kt s5).fm l hx, by omega, by omega, fun H1 s1 => ?_⟩
    have k1 := Same.kt (s5.trans s1)
    have z1 : Z (wrt true l) ++ Str.ofString " " = Z (wrt true l ++ [32]) := Z_cat _ [32]
    have z2 : Z (wrt true l ++ [32]) ++ Z [s.code] = Z (wrt true l ++ [32] ++ [s.code]) := Z_cat _ [s.code]
    have z3 : Z (wrt true l ++ [32] ++ [s.code]) ++ Str.ofString " " = Z (wrt true l ++ [32] ++ [s.code] ++ [32]) := Z_cat _ [32]
    have z4 : Z (wrt true l ++ [32] ++ [s.code] ++ [32]) ++ Z (wrt true r) = Z (wrt false (.node s l r)) := by
      rw [Z_cat, show wrt false (.node s l r) = wrt true l ++ (32 :: s.code :: 32 :: wrt true r) from rfl]
      simp only [List.append_assoc, List.cons_append, List.nil_append]
    refine ⟨_, _, rfl, rfl, sl (n := 0) (m := 0) _ [32] (by simp only [List.length_cons, List.length_nil]; omega), ?_⟩
    rw [z1]
    refine ⟨_, rfl, _, _, rfl, rfl, sl (n := 0) (m := 0) _ [s.code] (by simp only [List.length_append, List.length_cons, List.length_nil]; omega), ?_⟩
    rw [z2]
    refine ⟨_, _, rfl, rfl, sl (n := 0) (m := 0) _ [32] (by simp only [List.length_append, List.length_cons, List.length_nil]; omega), ?_⟩
    rw [z3]
    refine ⟨_, rfl, a, _, _, _, rfl, rfl, k1.seq hs, rfl, y, r, true, rfl, k1.fm r hy, by omega, by omega, fun H2 s2 => ⟨_, _, rfl, rfl, sl (n := 0) (m := 0) _ _ (by simp only [List.length_append, List.length_cons, List.length_nil]; omega), ?_⟩⟩
    rw [z4]
    have s6 : Same H H2 := (s5.trans s1).trans s2
    have hb : (wrt false (.node s l r)).length + 2 ≤ sizeLine := by
      have := wrt_short false (.node s l r)
      omega
    refine ⟨_, rfl, b, rfl, ?_⟩
    cases b with
    | false => exact iteF ⟨_, rfl, q H2 s6⟩
    | true =>
      have y1 : Str.ofString "(" ++ Z (wrt false (.node s l r)) = Z (40 :: wrt false (.node s l r)) := Z_cat [40] _
      have y2 : Z (40 :: wrt false (.node s l r)) ++ Str.ofString ")" = Z (wrt true (.node s l r)) := Z_cat _ [41]
      refine iteT ⟨_, rfl, _, _, rfl, rfl, sl (n := 0) (m := 0) [40] _ (by simp only [List.length_cons, List.length_nil]; omega), ?_⟩
      rw [y1]
      refine ⟨_, _, rfl, rfl, sl (n := 0) (m := 0) _ [41] (by simp only [List.length_cons, List.length_nil]; omega), ?_⟩
      rw [y2]
      exact q H2 s6
end
end My

set_option Elab.async false
set_option linter.all false
set_option maxRecDepth 100000
namespace My
open PySem L2
abbrev s_law_tokens : Stmt := top 55
abbrev N_law_tokens : List Str := ["_law_form", "_law_is_half", "_law_sign", "_law_tokens_here"]
theorem sc_law_tokens : FnScope N_law_tokens P_law_form_text (defScope s_law_tokens) := ⟨rfl, rfl, rfl, by decide +kernel, rfl, by decide +kernel, by decide +kernel⟩
abbrev s_law_spaced : Stmt := top 56
abbrev N_law_spaced : List Str := ["_law_pen", "_law_tokens_here", "_law_most", "_law_out", "_law_token"]
abbrev P_law_spaced : List Str := ["_law_pen", "_law_tokens_here"]
theorem sc_law_spaced : FnScope N_law_spaced P_law_spaced (defScope s_law_spaced) := ⟨rfl, rfl, rfl, by decide +kernel, rfl, by decide +kernel, by decide +kernel⟩
def zsV (ts : List (List Nat)) : List V := ts.map fun t => V.str (Z t)
def spTokens (K : PySem.W.Frag) (n : Nat) : Sp := fun vs H Q _ => ∃ (v : V) (t : FT) (h : Bool), vs = [v, .bl h] ∧ Fm K H t v ∧ t.dep < n ∧ (toks true t).length + 20 ≤ 1000 ∧ (wrt true t).length + 20 ≤ sizeLine ∧ ∀ H' p, Same H H' → H' p = some (.lst (zsV (toks h t))) → Q (.ref p) H'
theorem zsV_len (ts : List (List Nat)) : (zsV ts).length = ts.length := by unfold zsV; rw [List.length_map]
theorem zsV_cat (a b : List (List Nat)) : zsV (a ++ b) = zsV a ++ zsV b := by unfold zsV; rw [List.map_append]
section
variable {P : Program} {w : World} {K : PySem.W.Frag} {mg : Str → Option Value} {base : Heap} {f : Addr} {fd : FuncData} {CR CW fI : Addr}
theorem ok_law_tokens {n : Nat} (T : Txt K mg) (F : Fun K "_law_tokens" "_law_tokens" s_law_tokens f fd) (C_law_tokens : Cal P w K mg base "_law_tokens" (1 + n) P_law_form_text (spTokens K n)) : FnOk P w K mg base CX0 (1 + n + 1) f fd P_law_form_text (spTokens K (n + 1)) := by
  refine F.ok sc_law_tokens (fun vs H Q E h => ?_) (fun cdv A outer s H vs Q E hr h => ?_)
  · obtain ⟨v, t, h, rfl, _⟩ := h
    rfl
  obtain ⟨v, t, b, rfl, hf, hd, hn, hl, q⟩ := h
  refine ⟨_, (pss_cons (ps_if (pt_cmpR op_eq (pe_callB call_len rfl T.len (by decide +kernel) (pa_cons (pv 0) pa_nil)) pe_int (nomark _))
    (pss_one (ps_ret (pe_lstN (pa_cons (pe_op op_add_str (pe_ix ix_tup (pv 0) pe_int (fun _ _ => rfl)) (pe_op op_mulT pe_str (pe_callTy call_int1 rfl T.int (by decide +kernel) (pa_cons (pe_cmpR op_eq (pe_ix ix_tup (pv 0) pe_int (fun _ _ => rfl)) pe_str (nomark _)) pa_nil)))) pa_nil))))
    pss_nil)
  (pss_cons (ps_set (i := 2) sc_law_tokens.nd rfl (Or.inl rfl) (pe_dget (hu_of hr) (pe_disp (pps_cons pe_str pe_str (pps_cons pe_str pe_str (pps_cons pe_str pe_str (pps_cons pe_str pe_str pps_nil)))) (by rfl) (by rfl) (fun z => by cases z) (by decide)) (pe_ix ix_tup (pv 0) pe_int (fun _ _ => rfl)) (fun _ _ => rfl)))
  (pss_cons (ps_set (i := 3) sc_law_tokens.nd rfl (Or.inl rfl) (pe_op op_catLN (pe_op op_catLN (pe_callC C_law_tokens hr (pa_cons (pe_ix ix_tup (pv 0) pe_int (fun _ _ => rfl)) (pa_cons pe_bl pa_nil))) (pe_lstN (pa_cons (pv 2) pa_nil))) (pe_callC C_law_tokens hr (pa_cons (pe_ix ix_tup (pv 0) pe_int (fun _ _ => rfl)) (pa_cons pe_bl pa_nil)))))
  (pss_one (ps_ret (pe_ifExp (pt_truth (pv 1) (by intro _; rfl)) (pe_op op_catLN (pe_op op_catLN (pe_lstN (pa_cons pe_str pa_nil)) (pv 3)) (pe_lstN (pa_cons pe_str pa_nil))) (pv 3))))))), ?_⟩
  cases t with
  | leaf co m =>
    obtain ⟨a, rfl, hs⟩ := hf
    have hl2 : (leafS co m).length + 20 ≤ sizeLine := hl
    have hl3 : m.length ≤ (leafS co m).length := by
      unfold leafS
      rw [List.length_append]
      omega
    refine ⟨_, rfl, _, _, rfl, .inr ⟨_, hs, rfl⟩, rfl, _, rfl, iteT ?_⟩
    refine ⟨_, rfl, a, _, _, _, rfl, rfl, hs, rfl, ?_⟩
    refine ⟨_, rfl, a, _, _, _, rfl, rfl, hs, rfl, rfl, .inr ⟨_, rfl, [126], (if co then 1 else 0), rfl, ?_, by decide, by cases co <;> decide, _, _, rfl, rfl, ?_, le1k, fun p H1 s1 h1 => q H1 p s1 ?_⟩⟩
    · cases co <;> rfl
    · refine sl (n := 0) (m := 0) _ _ ?_
      have : (reps (if co then 1 else 0) [126]).length ≤ 1 := by cases co <;> decide
      omega
    · have e : Z m ++ Z (reps (if co then 1 else 0) [126]) = Z (leafS co m) := by rw [Z_cat, ← leafS_eq]
      have h1 : H1 p = some (.lst [V.str (Z m ++ Z (reps (if co then 1 else 0) [126]))]) := h1
      rw [e] at h1
      cases b <;> exact h1
  | node s l r =>
    obtain ⟨a, x, y, rfl, hs, hx, hy⟩ := hf
    have hdd : 1 + max l.dep r.dep < n + 1 := hd
    have hl2 : (wrt true l).length + (wrt true r).length + 25 ≤ sizeLine := by
      have e : wrt true (.node s l r) = 40 :: (wrt true l ++ (32 :: s.code :: 32 :: wrt true r) ++ [41]) := rfl
      rw [e] at hl
      simp only [List.length_append, List.length_cons, List.length_nil] at hl
      omega
    have hn2 : (toks true l).length + (toks true r).length + 23 ≤ 1000 := by
      have e : toks true (.node s l r) = [40] :: (toks true l ++ ([s.code] :: toks true r) ++ [[41]]) := rfl
      rw [e] at hn
      simp only [List.length_append, List.length_cons, List.length_nil] at hn
      omega
    refine ⟨_, rfl, _, _, rfl, .inr ⟨_, hs, rfl⟩, rfl, _, rfl, iteF ?_⟩
    intro p5 np5
    refine ⟨upd_same, signD, rfl, by decide, ?_⟩
    have s5 : Same H (upd (upd H p5 (.dK [])) p5 (.dK (mergeK [] signD))) := same_disp np5
    refine ⟨_, rfl, a, _, _, _, rfl, rfl, (Same.kt s5).seq hs, rfl, p5, .str (Z [s.code]), rfl, .inl ⟨_, .inr s.word, .inl upd_same, rfl, (signD_get s).symm⟩, ?_⟩
    refine ⟨_, rfl, a, _, _, _, rfl, rfl, (Same.kt s5).seq hs, rfl, x, l, true, rfl, (Same.kt s5).fm l hx, by omega, by omega, by omega, fun H1 p1 s1 h1 => ?_⟩
    refine ⟨_, rfl, le1k, fun p2 H2 s2 h2 => ⟨p1, p2, _, _, rfl, rfl, s2 _ _ h1, h2, by rw [zsV_len]; simp only [List.length_cons, List.length_nil]; omega, fun p3 H3 s3 h3 => ?_⟩⟩
    have k3 := Same.kt (((s5.trans s1).trans s2).trans s3)
    refine ⟨_, rfl, a, _, _, _, rfl, rfl, k3.seq hs, rfl, y, r, true, rfl, k3.fm r hy, by omega, by omega, by omega, fun H4 p4 s4 h4 => ?_⟩
    refine ⟨p3, p4, _, _, rfl, rfl, s4 _ _ h3, h4, by simp only [List.length_append, zsV_len, List.length_cons, List.length_nil]; omega, fun p6 H6 s6 h6 => ?_⟩
    have sA : Same H H6 := ((((s5.trans s1).trans s2).trans s3).trans s4).trans s6
    have e6 : zsV (toks true l) ++ [V.str (Z [s.code])] ++ zsV (toks true r) = zsV (toks false (.node s l r)) := by
      show _ = zsV (toks true l ++ ([s.code] :: toks true r))
      rw [zsV_cat, List.append_assoc]
      rfl
    rw [e6] at h6
    have hb : (toks false (.node s l r)).length + 2 ≤ 1000 := by
      show (toks true l ++ ([s.code] :: toks true r)).length + 2 ≤ 1000
      simp only [List.length_append, List.length_cons]
      omega
    refine ⟨_, rfl, b, rfl, ?_⟩
    cases b with
    | false => exact iteF ⟨_, rfl, q H6 p6 sA h6⟩
    | true =>
      refine iteT ⟨le1k, fun p7 H7 s7 h7 => ⟨_, rfl, p7, p6, _, _, rfl, rfl, h7, s7 _ _ h6, by rw [zsV_len]; simp only [List.length_cons, List.length_nil]; omega, fun p8 H8 s8 h8 => ⟨le1k, fun p9 H9 s9 h9 => ⟨p8, p9, _, _, rfl, rfl, s9 _ _ h8, h9, by simp only [List.length_append, zsV_len, List.length_cons, List.length_nil]; omega, fun p10 H10 s10 h10 => ?_⟩⟩⟩⟩
      refine q H10 p10 ((((sA.trans s7).trans s8).trans s9).trans s10) ?_
      rw [h10]
      have e8 : [V.str (Str.ofString "(")] ++ zsV (toks false (.node s l r)) ++ [V.str (Str.ofString ")")] = zsV (toks true (.node s l r)) := by
        show _ = zsV ([40] :: (toks false (.node s l r) ++ [[41]]))
        show _ = V.str (Z [40]) :: zsV (toks false (.node s l r) ++ [[41]])
        rw [zsV_cat]
        rfl
      rw [e8]
end
end My

set_option Elab.async false
set_option linter.all false
set_option maxRecDepth 100000
namespace My
open PySem L2
theorem reps_one (x : Nat) : ∀ n, reps n [x] = List.replicate n x
  | 0 => rfl
  | n + 1 => by rw [reps_succ, reps_one x n]; rfl
/-- the tokens up to here are laid -/
def Go (ts : List (List Nat)) (cs : List Nat) : Prop := ∀ ts' cs', Gp ts' cs' → Gp (ts ++ ts') (cs ++ cs')
theorem Go.nil : Go [] [] := fun _ _ h => h
theorem Go.snoc {ts : List (List Nat)} {cs t : List Nat} (g : Go ts cs) (k : Nat) : Go (ts ++ [t]) (cs ++ spc k ++ t) := fun ts' cs' h => by
  have := g (t :: ts') _ (.cons k h)
  rw [List.append_assoc, List.append_assoc, List.append_assoc]
  exact this
theorem Go.done {ts : List (List Nat)} {cs : List Nat} (g : Go ts cs) (k : Nat) : Gp ts (cs ++ spc k) := by
  have := g [] _ (.nil k)
  rw [List.append_nil] at this
  exact this
def spSpaced (K : PySem.W.Frag) : Sp := fun vs H Q _ => ∃ (d L a : Addr) (ns : List Int) (n : Nat) (ts : List (List Nat)), vs = [.ref d, .ref a] ∧ Pen K H d L ns n ∧ n + ts.length + 2 < 2 ^ 39 ∧ H a = some (.lst (zsV ts)) ∧ ts.length ≤ 1000 ∧ ts.flatten.length + 4 * ts.length + 10 ≤ sizeLine ∧
  ∀ cs H', Gp ts cs → cs.length ≤ ts.flatten.length + 4 * ts.length + 4 → Keep d H H' → Pen K H' d L ns (n + ts.length + 2) → Q (.str (Z cs)) H'
theorem flat_take (ts : List (List Nat)) (i : Nat) : (ts.take i).flatten.length ≤ ts.flatten.length := by
  have : ts.flatten = (ts.take i).flatten ++ (ts.drop i).flatten := by rw [← List.flatten_append, List.take_append_drop]
  rw [this, List.length_append]
  omega
section
variable {P : Program} {w : World} {K : PySem.W.Frag} {mg : Str → Option Value} {base : Heap} {f : Addr} {fd : FuncData}
theorem ok_law_spaced (F : Fun K "_law_spaced" "_law_spaced" s_law_spaced f fd) (C_law_draw : Cal P w K mg base "_law_draw" 1 ["_law_pen", "_law_span"] (spDraw K)) (C_law_pick : Cal P w K mg base "_law_pick" 2 ["_law_pen", "_law_some"] (spPick K)) :
    FnOk P w K mg base CX0 3 f fd P_law_spaced (spSpaced K) := by
  refine F.ok sc_law_spaced (fun vs H Q E h => ?_) (fun cdv A outer s H vs Q E hr h => ?_)
  · obtain ⟨d, L, a, ns, n, ts, rfl, _⟩ := h
    rfl
  obtain ⟨d, L, a, ns, n, ts, rfl, p, hn, ha, ht, hl, q⟩ := h
  refine ⟨_, (pss_cons (ps_par (i := 2) (j := 3) (by rfl) sc_law_spaced.nd rfl rfl (by decide) rfl rfl (pa_cons (pe_callC C_law_pick hr (pa_cons (pv 0) (pa_cons (pe_lst (pa_cons pe_int (pa_cons pe_int (pa_cons pe_int pa_nil)))) pa_nil))) (pa_cons pe_str pa_nil)) (by rfl))
  (pss_cons (ps_for PassesOwn.never rfl (pi_list (pv 1)) (pg_name (i := 4) sc_law_spaced.nd rfl (Or.inl rfl))
    (pss_one (ps_set (i := 3) sc_law_spaced.nd rfl (Or.inl rfl) (pe_op op_add_str (pe_op op_add_str (pv 3) (pe_op op_mulT pe_str (pe_callC C_law_draw hr (pa_cons (pv 0) (pa_cons (pv 2) pa_nil))))) (pv 4)))))
  (pss_one (ps_ret (pe_op op_add_str (pv 3) (pe_op op_mulT pe_str (pe_callC C_law_draw hr (pa_cons (pv 0) (pa_cons (pv 2) pa_nil))))))))), ?_⟩
  have nad : a ≠ d := fun e => by
    obtain ⟨kvs, h⟩ := p.isDk
    rw [← e, ha] at h
    cases h
  refine ⟨_, rfl, by show 3 ≤ sizeLine; decide, fun p0 np0 => ?_⟩
  refine ⟨d, L, ns, n, _, rfl, p.same (same_new np0 _), by omega, .inl ⟨p0, _, rfl, SqL.of upd_same, by simp, by show 3 ≤ 1000; decide, fun x H1 hx k1 p1 => ?_⟩⟩
  have k1' : Keep d H H1 := (Same.toKeep (same_new np0 _)).trans k1
  obtain ⟨m, rfl, m0, m4⟩ : ∃ m : Int, x = .int m ∧ 0 < m ∧ m ≤ 4 := by
    simp only [List.mem_cons, List.not_mem_nil, or_false] at hx
    rcases hx with rfl | rfl | rfl
    · exact ⟨1, rfl, by decide, by decide⟩
    · exact ⟨2, rfl, by decide, by decide⟩
    · exact ⟨4, rfl, by decide, by decide⟩
  have ha1 : H1 a = some (.lst (zsV ts)) := k1' _ _ nad ha
  refine ⟨_, _, rfl, _, rfl, a, rfl, ⟨_, SqL.of ha1⟩, ?_⟩
  have zl := zsV_len ts
  refine for_it walk_list (fun i σ H' => ∃ cs o, σ = [some (.ref d), some (.ref a), some (.int m), some (.str (Z cs)), o] ∧ Keep d H H' ∧ Pen K H' d L ns (n + 1 + i) ∧ Go (ts.take i) cs ∧ cs.length ≤ (ts.take i).flatten.length + 4 * i)
    ⟨[], none, rfl, k1', p1, Go.nil, Nat.zero_le _⟩ (fun i σ H' _ ⟨_, _, _, k, _⟩ => SqL.of (k _ _ nad ha)) (fun i x σ H9 H10 hi pv y => ?_) (fun σ H' pv => ?_)
  · obtain ⟨rfl, hx⟩ := y
    obtain ⟨cs, o, rfl, k9, p9, g9, l9⟩ := pv
    rw [zl] at hi
    obtain ⟨t, ht1, rfl⟩ : ∃ t, ts[i]? = some t ∧ x = .str (Z t) := by
      unfold zsV at hx
      rw [List.getElem?_map] at hx
      cases e : ts[i]? with
      | none => rw [e] at hx; cases hx
      | some t =>
        rw [e] at hx
        exact ⟨t, rfl, (Option.some.inj hx).symm⟩
    refine ⟨_, rfl, _, rfl, _, rfl, d, L, ns, _, m, rfl, p9, by omega, m0, by omega, fun r H11 r0 r1 k11 p11 => ?_⟩
    obtain ⟨k, rfl⟩ : ∃ k : Nat, r = k := ⟨r.toNat, by omega⟩
    have htk : ts.take (i + 1) = ts.take i ++ [t] := take_next ht1
    have hf := flat_take ts (i + 1)
    rw [htk, List.flatten_append, List.length_append, List.flatten_cons, List.flatten_nil, List.append_nil] at hf
    have hi4 : 4 * i + 4 ≤ 4 * ts.length := by omega
    refine ⟨[32], k, rfl, rfl, by decide, by omega, _, _, rfl, rfl, ?_, ?_⟩
    · rw [Z_len, Z_len, reps_one, List.length_replicate]
      omega
    rw [Z_cat, reps_one]
    refine ⟨_, rfl, _, _, rfl, rfl, ?_, ?_⟩
    · rw [Z_len, Z_len, List.length_append, List.length_replicate]
      omega
    rw [Z_cat]
    refine ⟨_, _, rfl, k9.trans k11, p11, ?_, ?_⟩
    · rw [htk]
      exact g9.snoc k
    · rw [htk, List.flatten_append, List.length_append, List.flatten_cons, List.flatten_nil, List.append_nil, List.length_append, List.length_append, List.length_replicate]
      omega
  · obtain ⟨cs, o, rfl, k9, p9, g9, l9⟩ := pv
    rw [zl] at p9 g9 l9
    rw [List.take_length] at g9 l9
    refine ⟨_, rfl, _, rfl, _, rfl, d, L, ns, _, m, rfl, p9, by omega, m0, by omega, fun r H11 r0 r1 k11 p11 => ?_⟩
    obtain ⟨k, rfl⟩ : ∃ k : Nat, r = k := ⟨r.toNat, by omega⟩
    refine ⟨[32], k, rfl, rfl, by decide, by omega, _, _, rfl, rfl, ?_, ?_⟩
    · rw [Z_len, Z_len, reps_one, List.length_replicate]
      omega
    rw [Z_cat, reps_one]
    exact q _ H11 (g9.done k) (by rw [List.length_append, List.length_replicate]; omega) (k9.trans k11) (p11.mono (by omega))
end
end My

set_option Elab.async false
set_option linter.all false
set_option maxRecDepth 100000
namespace My
open PySem L2
namespace Told
variable {X : Cx} {k j : Nat} {ps : List Str} {sp : Sp} {x : Str} {p pos : Pos} {e : Expr} {es : List Expr} {t : TA}
/-- a call of a def that may raise, where it does not -/
theorem pe_callV (C : CalX X.prog X.w X.K X.mg X.base x k ps sp) (hr : Room j X.A) (ha : PA X (e :: es) t) (hk : k ≤ j := by omega) (hg : Gl X x := by rfl) (hdb : (x == ("__debug__" : Str)) = false := by decide)
    (he : starEach (e :: es) X.env = (false, eval e X.env) :: starEach es X.env := by rfl) (hpl : (backTo pos (starEach es X.env)).any (·.1) = false := by rfl) :
    PE X (.Call (.Name x p) (e :: es) [] pos) (tCall sp [] E0 t) := pe_call C.ok (hr.mono hk) hg C.m C.kp C.b .nil passL ha hdb he hpl
end Told
abbrev s_law_text_right : Stmt := top 57
abbrev N_law_text_right : List Str := ["_law_pen", "_law_form", "_law_text", "_law_tokens_here", "_law_spaced_here"]
abbrev P_law_text_right : List Str := ["_law_pen", "_law_form"]
theorem sc_law_text_right : FnScope N_law_text_right P_law_text_right (defScope s_law_text_right) := ⟨rfl, rfl, rfl, by decide +kernel, rfl, by decide +kernel, by decide +kernel⟩
theorem tw_fm {K : PySem.W.Frag} {H : Hp} : ∀ (t : FT) (n : Nat) {v u : V}, t.dep + 2 ≤ n → Fm K H t v → Fm K H t u → Tw K H n v u := by
  intro t
  induction t with
  | leaf co m =>
    intro n v u h hv hu
    obtain ⟨a, ea, ha⟩ := hv
    obtain ⟨b, eb, hb⟩ := hu
    obtain ⟨k, rfl⟩ : ∃ k, n = k + 2 := ⟨n - 2, by omega⟩
    have w1 : ∀ z : Str, Tw K H (k + 1) (.str z) (.str z) := fun z => .inl ⟨rfl, rfl⟩
    exact .inr (.inr (.inl ⟨a, b, _, _, ea, eb, ha, hb, le1k, .cons (w1 _) (.cons (w1 _) .nil)⟩))
  | node s l r ihl ihr =>
    intro n v u h hv hu
    obtain ⟨a, x, y, ea, ha, hx, hy⟩ := hv
    obtain ⟨b, x', y', eb, hb, hx', hy'⟩ := hu
    have hd : 1 + max l.dep r.dep + 2 ≤ n := h
    obtain ⟨k, rfl⟩ : ∃ k, n = k + 1 := ⟨n - 1, by omega⟩
    obtain ⟨k, rfl⟩ : ∃ j, k = j + 1 := ⟨k - 1, by omega⟩
    have w1 : ∀ z : Str, Tw K H (k + 1) (.str z) (.str z) := fun z => .inl ⟨rfl, rfl⟩
    exact .inr (.inr (.inl ⟨a, b, _, _, ea, eb, ha, hb, le1k, .cons (w1 _) (.cons (ihl (k + 1) (by omega) hx hx') (.cons (ihr (k + 1) (by omega) hy hy') .nil))⟩))
theorem toks_flat : ∀ (t : FT) (h : Bool), (toks h t).flatten.length ≤ (wrt h t).length
  | .leaf co n, h => by
    have : (toks h (.leaf co n)).flatten = leafS co n ++ [] := by cases h <;> rfl
    rw [this, List.append_nil]
    cases h <;> exact Nat.le_refl _
  | .node s l r, h => by
    have hl := toks_flat l true
    have hr := toks_flat r true
    cases h with
    | false =>
      show (toks true l ++ ([s.code] :: toks true r)).flatten.length ≤ (wrt true l ++ (32 :: s.code :: 32 :: wrt true r)).length
      simp only [List.flatten_append, List.flatten_cons, List.length_append, List.length_cons, List.length_nil]
      omega
    | true =>
      show ([40] :: (toks true l ++ ([s.code] :: toks true r) ++ [[41]])).flatten.length ≤ (40 :: (wrt true l ++ (32 :: s.code :: 32 :: wrt true r) ++ [41])).length
      simp only [List.flatten_append, List.flatten_cons, List.flatten_nil, List.length_append, List.length_cons, List.length_nil]
      omega
theorem toks_short (h : Bool) (t : FT) : (toks h t).length ≤ (toks true t).length := by
  cases t with
  | leaf co n => cases h <;> exact Nat.le_refl _
  | node s l r =>
    cases h with
    | true => exact Nat.le_refl _
    | false =>
      show (toks true l ++ ([s.code] :: toks true r)).length ≤ ([40] :: (toks true l ++ ([s.code] :: toks true r) ++ [[41]])).length
      simp only [List.length_append, List.length_cons, List.length_nil]
      omega
theorem big : 100000 ≤ sizeLine := by decide
def spTextRight (K : PySem.W.Frag) : Sp := fun vs H Q _ => ∃ (d L : Addr) (ns : List Int) (n : Nat) (v : V) (t : FT), vs = [.ref d, v] ∧ Pen K H d L ns n ∧ n < 2 ^ 38 ∧ Fm K H t v ∧ t.Ok ∧ t.dep ≤ 12 ∧ (toks true t).length ≤ 900 ∧ (wrt true t).length ≤ 10000 ∧
  ∀ H', Keep d H H' → Pen K H' d L ns (n + 2000) → Q (.bl true) H'
section
variable {P : Program} {w : World} {K : PySem.W.Frag} {mg : Str → Option Value} {base : Heap} {f : Addr} {fd : FuncData}
theorem kt_pen {d L : Addr} {ns : List Int} {n : Nat} {H H' : Hp} (p : Pen K H d L ns n) (k : Keep d H H') : KT H H' := fun a o h e => by
  obtain ⟨kvs, hd⟩ := p.isDk
  refine k a o (fun z => ?_) e
  subst z
  rw [hd] at e
  have e := Option.some.inj e
  subst e
  rcases h with ⟨_, e⟩ | ⟨_, _, e⟩ <;> cases e
theorem sum_flat : ∀ ts : List (List Nat), ((ts.map Z).map (·.length)).sum = ts.flatten.length
  | [] => rfl
  | t :: ts => by
    rw [List.map_cons, List.map_cons, List.sum_cons, sum_flat ts, List.flatten_cons, List.length_append, Z_len]
theorem join_Z (ts : List (List Nat)) : Txt.join Str.empty (ts.map Z) = Z ts.flatten := by
  have e0 : Txt.join Str.empty (ts.map Z) = Str.join Str.empty (ts.map Z) := TL.join_eq _ _
  rw [e0]
  clear e0
  induction ts with
  | nil => rfl
  | cons t ts ih =>
    cases ts with
    | nil =>
      show Z t = Z (t ++ [])
      rw [List.append_nil]
    | cons t2 ts =>
      have e : Str.join Str.empty ((t :: t2 :: ts).map Z) = Z t ++ Z [] ++ Str.join Str.empty ((t2 :: ts).map Z) := rfl
      rw [e, ih, Z_cat t [], List.append_nil, Z_cat t _]
      rfl
theorem ok_law_text_right {CB CD : Addr} (F : Fun K "_law_text_right" "_law_text_right" s_law_text_right f fd) (C_law_form_text : Cal P w K mg base "_law_form_text" 14 P_law_form_text (spLText K 13)) (C_law_same : Cal P w K mg base "_law_same" 16 P_law_same (spSame K 15))
    (Cform_text : CalX P w K mg base "form_text" 31 Nis_leaf (spFormText K CB)) (Cread_form : CalX P w K mg base "read_form" 7 Ncheck_text (spReadForm K CB CD)) (C_law_tokens : Cal P w K mg base "_law_tokens" 14 P_law_form_text (spTokens K 13)) (C_law_spaced : Cal P w K mg base "_law_spaced" 3 P_law_spaced (spSpaced K)) :
    FnOk P w K mg base CX0 32 f fd P_law_text_right (spTextRight K) := by
  refine F.ok sc_law_text_right (fun vs H Q E h => ?_) (fun cdv A outer s H vs Q E hr h => ?_)
  · obtain ⟨d, L, ns, n, v, t, rfl, _⟩ := h
    rfl
  obtain ⟨d, L, ns, n, v, t, rfl, p, hn, hf, ok, hd, ht, hw, q⟩ := h
  refine ⟨_, (pss_cons (ps_set (i := 2) sc_law_text_right.nd rfl (Or.inl rfl) (pe_callC C_law_form_text hr (pa_cons (pv 1) (pa_cons pe_bl pa_nil))))
  (pss_cons (ps_if (PW.pt (pw_or (pt_not (pt_val (pe_callC C_law_same hr (pa_cons (Told.pe_callV Cform_text hr (pa_cons (pv 1) pa_nil)) (pa_cons (pv 2) pa_nil))))) (pw_or1 (pt_not (pt_val (pe_callC C_law_same hr (pa_cons (Told.pe_callV Cread_form hr (pa_cons (pv 2) pa_nil)) (pa_cons (pv 1) pa_nil))))))))
    (pss_one (ps_ret pe_bl))
    pss_nil)
  (pss_cons (ps_set (i := 3) sc_law_text_right.nd rfl (Or.inl rfl) (pe_callC C_law_tokens hr (pa_cons (pv 1) (pa_cons pe_bl pa_nil))))
  (pss_cons (ps_for PassesOwn.never rfl (pi_list (pe_lstN (pa_cons (pe_join pe_str (pv 3)) (pa_cons (pe_callC C_law_spaced hr (pa_cons (pv 0) (pa_cons (pv 3) pa_nil))) (pa_cons (pe_callC C_law_spaced hr (pa_cons (pv 0) (pa_cons (pv 3) pa_nil))) pa_nil))))) (pg_name (i := 4) sc_law_text_right.nd rfl (Or.inl rfl))
    (pss_one (ps_if (pt_not (pt_val (pe_callC C_law_same hr (pa_cons (Told.pe_callV Cread_form hr (pa_cons (pv 4) pa_nil)) (pa_cons (pv 1) pa_nil)))))
      (pss_one (ps_ret pe_bl))
      pss_nil)))
  (pss_one (ps_ret pe_bl)))))), ?_⟩
  have hbig := big
  have hw2 := wrt_short false t
  refine ⟨_, rfl, v, t, false, rfl, hf, by omega, by omega, fun H1 s1 => ?_⟩
  refine ⟨_, rfl, v, rfl, .inl ⟨t, (Same.kt s1).fm t hf, hd, ok, by omega, fun H2 s2 => ?_⟩⟩
  refine ⟨_, rfl, _, _, rfl, .inl ⟨rfl, rfl⟩, fun H3 s3 => ⟨_, rfl, iteF ?_⟩⟩
  refine ⟨_, rfl, _, rfl, .inl ⟨t, wrt false t, rfl, wrt_tx t ok, by omega, fun _ H4 u s4 hu => ?_, fun h => absurd h (by omega)⟩⟩
  have s14 : Same H H4 := ((s1.trans s2).trans s3).trans s4
  refine ⟨_, rfl, u, v, rfl, tw_fm t 15 (by omega) hu ((Same.kt s14).fm t hf), fun H5 s5 => ⟨_, rfl, iteF ?_⟩⟩
  have s15 : Same H H5 := s14.trans s5
  refine ⟨_, rfl, v, t, false, rfl, (Same.kt s15).fm t hf, by omega, by omega, by omega, fun H6 l6 s6 e6 => ?_⟩
  have s16 : Same H H6 := s15.trans s6
  have p6 : Pen K H6 d L ns n := p.same s16
  have hts := toks_short false t
  have htf := toks_flat t false
  have e1 : zsV (toks false t) = ((toks false t).map Z).map V.str := by unfold zsV; rw [List.map_map]; rfl
  have nl6 : l6 ≠ d := fun e => by
    obtain ⟨kvs, h⟩ := p6.isDk
    rw [← e, e6] at h
    cases h
  refine ⟨⟨_, rfl⟩, _, rfl, Str.empty, l6, (toks false t).map Z, rfl, rfl, .inl (SqL.of (by rw [← e1]; exact e6)), ?_, ?_⟩
  · rw [sum_flat]
    show _ + ((toks false t).map Z).length * 0 ≤ 16777216
    omega
  rw [join_Z]
  refine ⟨_, rfl, _, rfl, d, L, l6, ns, n, toks false t, rfl, p6, by omega, e6, by omega, by omega, fun cs1 H7 g1 c1 k7 p7 => ?_⟩
  have e7 := k7 _ _ nl6 e6
  refine ⟨_, rfl, _, rfl, d, L, l6, ns, _, toks false t, rfl, p7, by omega, e7, by omega, by omega, fun cs2 H8 g2 c2 k8 p8 => ?_⟩
  have k8' : Keep d H H8 := ((Same.toKeep s16).trans k7).trans k8
  refine ⟨le1k, fun l9 H9 s9 e9 => ⟨l9, rfl, ⟨_, SqL.of e9⟩, ?_⟩⟩
  have kt9 : ∀ t v, Fm K H t v → Fm K H9 t v := by
    intro t v h
    have ka : KT H H7 := (Same.kt s16).trans (kt_pen p6 k7)
    exact ((ka.trans (kt_pen p7 k8)).trans (Same.kt s9)).fm t h
  refine for_it walk_list (fun i σ H' => σ.length = 5 ∧ σ[1]? = some (some v) ∧ Same H9 H') ⟨rfl, rfl, Same.refl _⟩ (fun i σ H' _ pv => SqL.of (pv.2.2 _ _ e9)) (fun i x σ H10 H11 hi pv y => ?_) (fun σ H' pv => ?_)
  · obtain ⟨rfl, hx⟩ := y
    obtain ⟨gl, g1', s10⟩ := pv
    obtain ⟨cs, rfl, hg, hc⟩ : ∃ cs, x = .str (Z cs) ∧ Gp (toks false t) cs ∧ cs.length ≤ 20000 := by
      have hm := List.mem_of_getElem? hx
      simp only [List.mem_cons, List.not_mem_nil, or_false] at hm
      rcases hm with rfl | rfl | rfl
      · exact ⟨_, rfl, gp_flat _, by omega⟩
      · exact ⟨_, rfl, g1, by omega⟩
      · exact ⟨_, rfl, g2, by omega⟩
    refine ⟨_, by rw [List.getElem?_set_self (by omega)], _, rfl, .inl ⟨t, cs, rfl, gp_tx t ok hg, by omega, fun _ H12 u s12 hu => ?_, fun h => absurd h (by omega)⟩⟩
    refine ⟨v, by rw [List.getElem?_set_ne (by omega)]; exact g1', u, v, rfl, tw_fm t 15 (by omega) hu ((Same.kt (s10.trans s12)).fm t (kt9 t v hf)), fun H13 s13 => ⟨_, rfl, iteF ?_⟩⟩
    exact ⟨by rw [List.length_set]; exact gl, by rw [List.getElem?_set_ne (by omega)]; exact g1', (s10.trans s12).trans s13⟩
  · exact q H' (k8'.trans (Same.toKeep (s9.trans pv.2.2))) (((p8.same s9).same pv.2.2).mono (by omega))
end
end My

set_option Elab.async false
set_option linter.all false
set_option maxRecDepth 100000
namespace My
open PySem L2
abbrev s_law_no_form : Stmt := top 54
abbrev N_law_no_form : List Str := ["_law_pen", "_law_form", "_law_odd"]
abbrev P_law_no_form : List Str := ["_law_pen", "_law_form"]
theorem sc_law_no_form : FnScope N_law_no_form P_law_no_form (defScope s_law_no_form) := ⟨rfl, rfl, rfl, by decide +kernel, rfl, by decide +kernel, by decide +kernel⟩
def spNoForm (K : PySem.W.Frag) : Sp := fun vs H Q _ => ∃ (d L : Addr) (ns : List Int) (n : Nat) (v : V) (D : PyData), vs = [.ref d, v] ∧ Pen K H d L ns n ∧ n < 2 ^ 37 + 100 ∧ Dp K H v D ∧ isForm 12 D = true ∧
  ∀ v' D' H', Dp K H' v' D' → shortD D' = true → widD D' = true → D'.depth ≤ 20 → isForm 12 D' = false → Keep d H H' → Q v' H'
theorem deep_not {D : PyData} (h : Deep 13 D) : isForm 12 D = false := h.2 12 (by decide)
section
variable {P : Program} {w : World} {K : PySem.W.Frag} {mg : Str → Option Value} {base : Heap} {f : Addr} {fd : FuncData}
theorem ok_law_no_form (T : Txt K mg) (F : Fun K "_law_no_form" "_law_no_form" s_law_no_form f fd) (C_law_pick : Cal P w K mg base "_law_pick" 2 P_law_pick (spPick K)) (C_law_bent : Cal P w K mg base "_law_bent" 16 P_law_bent (spBent K 13)) (C_law_is_form : Cal P w K mg base "_law_is_form" 15 P_law_is_form (spFormL K 13))
    (C_law_deeper : Cal P w K mg base "_law_deeper" 14 P_law_deeper (spDeeper K)) : FnOk P w K mg base CX0 17 f fd P_law_no_form (spNoForm K) := by
  refine F.ok sc_law_no_form (fun vs H Q E h => ?_) (fun cdv A outer s H vs Q E hr h => ?_)
  · obtain ⟨d, L, ns, n, v, D, rfl, _⟩ := h
    rfl
  obtain ⟨d, L, ns, n, v, D, rfl, hp, hn, hv, hD, q⟩ := h
  refine ⟨_, (pss_cons (ps_set (i := 2) sc_law_no_form.nd rfl (Or.inl rfl) (pe_callC C_law_bent hr (pa_cons (pv 0) (pa_cons (pv 1) pa_nil))))
  (pss_cons (ps_if (pt_val (pe_callC C_law_is_form hr (pa_cons (pv 2) (pa_cons pe_int pa_nil))))
    (pss_one (ps_set (i := 2) sc_law_no_form.nd rfl (Or.inl rfl) (pe_callC C_law_pick hr (pa_cons (pv 0) (pa_cons (pe_lstN (pa_cons pe_non (pa_cons (pe_callTy call_listN rfl T.list (by decide +kernel) (pa_cons (pv 1) pa_nil)) (pa_cons (pe_tupN (pa_cons pe_str (pa_cons pe_str pa_nil))) (pa_cons (pe_callC C_law_deeper hr (pa_cons (pv 1) (pa_cons pe_int pa_nil))) pa_nil))))) pa_nil)))))
    pss_nil)
  (pss_one (ps_ret (pv 2))))), ?_⟩
  refine ⟨_, rfl, _, rfl, d, L, ns, n, v, D, 12, rfl, by omega, by omega, hp, by omega, hv, hD, fun v1 D1 H1 h1 s1 w1 dp1 k1 p1 => ?_⟩
  refine ⟨_, rfl, v1, 12, D1, rfl, by omega, h1, s1, by omega, fun H2 s2 => ⟨_, rfl, ?_⟩⟩
  have hd1 := p1.isDk
  have k2 := k1.trans (Same.toKeep s2)
  cases c : isForm 12 D1 with
  | false => exact ⟨_, rfl, q v1 D1 H2 (dp_same s2 _ _ h1) s1 w1 (by omega) c k2⟩
  | true =>
    obtain ⟨a, xs, ds, rfl, hT, hA, rfl⟩ : ∃ a xs ds, v = .ref a ∧ SqT K H a xs ∧ DpAll K H xs ds ∧ D = .tuple ds := by
      rcases isForm_inv hD with ⟨y, m, rfl, hy, hm⟩ | ⟨j, y, b, e, _, rfl, hy, hc, hd⟩
      · cases hv with | tup g1 g2 => exact ⟨_, _, _, rfl, g1, g2, rfl⟩
      · cases hv with | tup g1 g2 => exact ⟨_, _, _, rfl, g1, g2, rfl⟩
    have kd := hp.isDk
    refine ⟨_, rfl, _, rfl, a, xs, rfl, .inr (seqT_keep kd k2 hT), fun l1 H3 s3 e3 => ?_⟩
    refine ⟨le1k, fun t1 H4 s4 e4 => ?_⟩
    have s24 := Same.trans s3 s4
    have k4 := k2.trans (Same.toKeep s24)
    refine ⟨_, rfl, .ref a, .tuple ds, 13, rfl, by decide, by decide, dp_keep kd k4 _ _ (.tup hT hA), hD, fun v5 D5 H5 h5 d5 _ s5 => ⟨le1k, fun l6 H6 s6 e6 => ?_⟩⟩
    have s26 := Same.trans s24 (Same.trans s5 s6)
    have p6 := p1.same (Same.trans s2 s26)
    refine ⟨d, L, ns, _, .ref l6, rfl, p6, by omega, .inl ⟨l6, _, rfl, SqL.of e6, by simp, le1k, fun x H7 hx k7 p7 => ⟨_, rfl, ?_⟩⟩⟩
    have kd6 := p6.isDk
    have k07 := (k2.trans (Same.toKeep s26)).trans k7
    have dsl : ds.length ≤ 3 := by
      rcases isForm_inv hD with ⟨y, m, e, _⟩ | ⟨j, y, b, e, _, e2, _⟩
      · cases e
        show 2 ≤ 3
        decide
      · cases e2
        show 3 ≤ 3
        decide
    simp only [List.mem_cons, List.not_mem_nil, or_false] at hx
    rcases hx with rfl | rfl | rfl | rfl
    · exact q .non .none H7 .non rfl rfl (by simp [PyData.depth]) rfl k07
    · refine q (.ref l1) (.list ds) H7 (.lst (seqL_keep kd6 k7 ((Same.trans s4 (Same.trans s5 s6)).seq (SqL.of e3))) (dpAll_keep kd k07 _ _ hA)) (show shortD (.tuple ds) = true from short_form hD) (show widD (.tuple ds) = true from wid_form hD) ?_ (isForm_not_tup 12 _ rfl) k07
      have := depth_form hD
      simp only [PyData.depth] at this ⊢
      omega
    · exact q (.ref t1) (.tuple [.str "good", .str "A"]) H7 (.tup (seqT_keep kd6 k7 (seqT_same (Same.trans s5 s6) e4)) (.cons (.str _) (.cons (.str _) .nil))) (by decide +kernel) rfl (by simp [PyData.depth, PyData.depthAll]) (by decide +kernel) k07
    · rcases d5 with d5 | ⟨z, _⟩
      · have dd := depth_form d5.1
        exact q x D5 H7 (dp_keep kd6 k7 _ _ (dp_same s6 _ _ h5)) (short_form d5.1) (wid_form d5.1) (by omega) (deep_not d5) k07
      · exact absurd z (by decide)
end
end My

set_option Elab.async false
set_option linter.all false
set_option maxRecDepth 100000
namespace My
open PySem L2
/-- a def of the text whose code object is known -/
structure FunC (K : PySem.W.Frag) (x qual : Str) (st : Stmt) (f : Addr) (fd : FuncData) (cdv : Value) : Prop where
  ex : ∃ (oc : Value) (od : Option Addr) (kV doc pm : Value) (an : Option Addr) (ct : Value) (osl : Array (Option Value)),
    fd = PySem.W.fnOf x qual (defArgs st) (defBody st) (defScope st) .none kV doc pm an cdv ct ∧ K.lookup f = some ⟨oc, od, .func fd, osl⟩ ∧ PySem.W.codeIn K cdv qual = true
theorem FunC.ok {P : Program} {w : World} {K : PySem.W.Frag} {mg : Str → Option Value} {base : Heap} {x qual : Str} {st : Stmt} {f : Addr} {fd : FuncData} {cdv : Value} {N ps : List Str} {k : Nat} {sp : Sp} (F : FunC K x qual st f fd cdv) (S : FnScope N ps (defScope st))
    (len : ∀ vs H Q E, sp vs H Q E → vs.length = ps.length)
    (hbody : ∀ (A : Around) (outer : List Env) (s : Shared) (H : Hp) (vs : List V) (Q : VK) (E : XK), Room k (A.deeper (PyProof.Rows.envOfC qual (defScope st) s.heap.objs.size f cdv)) → sp vs H Q E →
      ∃ t, PSs (cxOf CX0 P w K mg base N qual (defScope st) f cdv A outer s H E).nox (defBody st) t ∧ t { nx := fun _ H' => Q .non H', rt := Q } (L2.start N vs) H) : FnOk P w K mg base CX0 (k + 1) f fd ps sp := by
  obtain ⟨oc, od, kV, doc, pm, an, ct, osl, rfl, lk, hcd⟩ := F.ex
  refine fn_of lk hcd S len fun A outer s H vs Q E hr hsp => ?_
  obtain ⟨t, h, q⟩ := hbody A outer s H vs Q E hr hsp
  exact ⟨t, h.nox, q⟩
theorem cells_mono {env : Env} {N : List Str} {σ τ : L2.St} {C : Addr → Option Obj} (h : ∀ (i : Nat) (x : Str) (v : V), N[i]? = some x → σ[i]? = some (some v) → (env.kindOf x = some .cell ∨ env.kindOf x = some .free) → τ[i]? = some (some v)) (K : Clo.CellsAt env N τ C) : Clo.CellsAt env N σ C :=
  ⟨K.all, fun i x v c hn hs hk e => K.val i x v c hn (h i x v hn hs hk) hk e⟩
theorem minus_plus {C : Addr → Option Obj} {H : Hp} (h : ∀ c o, C c = some o → H c = none) : Clo.minus C (Clo.plus C H) = H := by
  funext b
  cases e : C b with
  | none => rw [Clo.minus_out e, Clo.plus_out e]
  | some o => rw [Clo.minus_in e, h b o e]
section
variable {K : PySem.W.Frag}
theorem seqT_x {H H' : Hp} (k : LamX.ExtN H H') {a : Addr} {xs : List V} (h : SqT K H a xs) : SqT K H' a xs := by
  rcases h with (h | ⟨o, h⟩) | h
  · exact .inl (.inl (k _ _ h fun _ z => nomatch z))
  · exact .inl (.inr ⟨o, k _ _ h fun _ z => nomatch z⟩)
  · exact .inr h
theorem seqL_x {H H' : Hp} (k : LamX.ExtN H H') {a : Addr} {xs : List V} (h : SqL K H a xs) : SqL K H' a xs := by
  rcases h with (h | ⟨o, h⟩) | h
  · exact .inl (.inl (k _ _ h fun _ z => nomatch z))
  · exact .inl (.inr ⟨o, k _ _ h fun _ z => nomatch z⟩)
  · exact .inr h
mutual
theorem dp_x {H H' : Hp} (k : LamX.ExtN H H') : ∀ (D : PyData) (v : V), Dp K H v D → Dp K H' v D
  | .none, _, h => by cases h; exact .non
  | .bool b, _, h => by cases h; exact .bl b
  | .int i, _, h => by cases h; exact .int i
  | .str x, _, h => by cases h; exact .str x
  | .list ds, _, h => by cases h with | lst hs ha => exact .lst (seqL_x k hs) (dpAll_x k ds _ ha)
  | .tuple ds, _, h => by cases h with | tup hs ha => exact .tup (seqT_x k hs) (dpAll_x k ds _ ha)
  | .dict _, _, h => by cases h
theorem dpAll_x {H H' : Hp} (k : LamX.ExtN H H') : ∀ (Ds : List PyData) (vs : List V), DpAll K H vs Ds → DpAll K H' vs Ds
  | [], _, h => by cases h; exact .nil
  | D :: Ds, _, h => by cases h with | cons h1 h2 => exact .cons (dp_x k D _ h1) (dpAll_x k Ds _ h2)
end
end
theorem tabs_keep {d : Addr} {H H' : Hp} {Tb : List (Addr × Str)} (hd : IsDk H d) (k : Keep d H H') (t : LamX.Tabs Tb H) : LamX.Tabs Tb H' := fun p hp => by
  obtain ⟨kvs, hd⟩ := hd
  obtain ⟨ps, h1, h2, h3⟩ := t p hp
  refine ⟨ps, k _ _ (fun z => by rw [z, hd] at h1; cases h1) h1, h2, fun pos cv hc => ?_⟩
  obtain ⟨c, e, hc2⟩ := h3 pos cv hc
  exact ⟨c, e, k _ _ (fun z => by
    rw [z, hd] at hc2
    have z' := Option.some.inj hc2
    unfold LamX.CodeO at z'
    cases z') hc2⟩
theorem kt_x {H H' : Hp} (k : LamX.ExtN H H') : KT H H' := fun a o n h => by
  rcases n with ⟨_, rfl⟩ | ⟨_, _, rfl⟩
  · exact k _ _ h fun _ z => nomatch z
  · exact k _ _ h fun _ z => nomatch z
end My

set_option Elab.async false
set_option linter.all false
set_option maxRecDepth 100000
namespace My
open PySem L2
abbrev s_law_too_deep : Stmt := top 58
abbrev N_law_too_deep : List Str := ["_law_pen", "_law_form", "_law_many", "_law_left", "_law_text"]
abbrev P_law_too_deep : List Str := ["_law_pen", "_law_form"]
theorem sc_law_too_deep : FnScope N_law_too_deep P_law_too_deep (defScope s_law_too_deep) := ⟨rfl, rfl, rfl, by decide +kernel, rfl, by decide +kernel, by decide +kernel⟩
abbrev lamQd : Str := "_law_too_deep.<locals>.<lambda>"
theorem cut_in (body : List Nat) : cutS (Z (40 :: (body ++ [41]))) (some 1) (some (-1)) = Z body := by
  unfold cutS
  rw [Z_len]
  have h1 : HT.sIx (40 :: (body ++ [41])).length 0 (some 1) = 1 := by
    have := HT.sIx_nat (40 :: (body ++ [41])).length 0 1
    rw [show ((1 : Nat) : Int) = 1 from rfl] at this
    rw [this]
    simp only [List.length_cons, List.length_append, List.length_nil]
    omega
  have h2 : HT.sIx (40 :: (body ++ [41])).length (40 :: (body ++ [41])).length (some (-1)) = body.length + 1 := by
    show (if (-1 : Int) < 0 then (-1 + ((40 :: (body ++ [41])).length : Int)).toNat else min (-1 : Int).toNat (40 :: (body ++ [41])).length) = _
    rw [if_pos (by decide)]
    simp only [List.length_cons, List.length_append, List.length_nil]
    omega
  rw [h1, h2]
  show Z (((40 :: (body ++ [41])).drop 1).take (body.length + 1 - 1)) = Z body
  rw [List.drop_one, List.tail_cons, Nat.add_sub_cancel, List.take_left]
theorem reps_len (x : List Nat) : ∀ n, (reps n x).length = n * x.length
  | 0 => by rw [Nat.zero_mul]; rfl
  | n + 1 => by rw [reps_succ, List.length_append, reps_len x n, Nat.succ_mul]; omega
/-- the text that is too deep, of which form -/
theorem too_deep (t : FT) (h : t.Ok) (m l : Nat) (hl : l < m) : ∃ (T0 : FT) (body : List Nat), reps (m - l) [40] ++ reps l ltA ++ wrt true t ++ reps l [41] ++ reps (m - l) rtB = 40 :: (body ++ [41]) ∧ Tx T0 body ∧ T0.dep = m + t.dep := by
  have h1 := half_deepR _ (half_deepL t (wrt_half t h) l) (m - l)
  obtain ⟨k, e⟩ : ∃ k, m - l = k + 1 := ⟨m - l - 1, by omega⟩
  have hd : (deepR ftB (m - l) (deepL ftA l t)).dep = m + t.dep := by
    rw [deepR_dep ftB rfl, deepL_dep ftA rfl]
    omega
  rw [e] at h1 hd ⊢
  obtain ⟨body, e1, tx⟩ := half_inner h1
  refine ⟨_, body, ?_, tx, hd⟩
  rw [← e1]
  simp only [List.append_assoc]
theorem ft_isForm : ∀ (t : FT) {k : Nat}, t.Ok → t.dep ≤ k → isForm k t.data = true
  | .leaf co n, k, h, _ => by
    show isForm k (.tuple [.str (leafZ co), .str (Z n)]) = true
    rw [isForm_m2, Bool.and_eq_true]
    exact ⟨by cases co <;> decide +kernel, h⟩
  | .node s l r, k, h, hk => by
    have hk' : 1 + max l.dep r.dep ≤ k := hk
    obtain ⟨j, rfl⟩ : ∃ j, k = j + 1 := ⟨k - 1, by omega⟩
    show isForm (j + 1) (.tuple [.str s.word, l.data, r.data]) = true
    rw [isForm_m3, Bool.and_eq_true, Bool.and_eq_true]
    exact ⟨by cases s <;> decide +kernel, ft_isForm l h.1 (by omega), ft_isForm r h.2 (by omega)⟩
end My

set_option Elab.async false
set_option linter.all false
set_option maxRecDepth 100000
namespace My
open PySem L2
/-- all but what stands at d, and tables, stays -/
def KeepX (d : Addr) (H H' : Hp) : Prop := ∀ b o, b ≠ d → (∀ ps, o ≠ .tbl ps) → H b = some o → H' b = some o
theorem KeepX.of_keep {d : Addr} {H H' : Hp} (k : Keep d H H') : KeepX d H H' := fun b o n _ h => k b o n h
theorem KeepX.of_ext {d : Addr} {H H' : Hp} (k : LamX.ExtN H H') : KeepX d H H' := fun b o _ t h => k b o h t
theorem KeepX.trans {d : Addr} {H H1 H2 : Hp} (a : KeepX d H H1) (b : KeepX d H1 H2) : KeepX d H H2 := fun c o n t h => b c o n t (a c o n t h)
theorem pen_x {K : PySem.W.Frag} {H H' : Hp} {d L : Addr} {ns : List Int} {n : Nat} (k : LamX.ExtN H H') (p : Pen K H d L ns n) : Pen K H' d L ns n := by
  obtain ⟨⟨b, l, h, h0, h1⟩, c, f⟩ := p
  exact ⟨⟨b, l, k _ _ h (fun _ z => nomatch z), h0, h1⟩, seqL_x k c, f⟩
def spTooDeep (K : PySem.W.Frag) (Tb : List (Addr × Str)) : Sp := fun vs H Q _ => ∃ (d L : Addr) (ns : List Int) (n : Nat) (v : V) (t : FT), vs = [.ref d, v] ∧ Pen K H d L ns n ∧ n < 2 ^ 37 + 5000 ∧ Fm K H t v ∧ t.Ok ∧ t.dep ≤ 12 ∧ (wrt true t).length ≤ 10000 ∧ LamX.Tabs Tb H ∧
  ∀ H', KeepX d H H' → Pen K H' d L ns (n + 5) → LamX.Tabs Tb H' → Q (.bl true) H'
section
variable {P : Program} {w : World} {K : PySem.W.Frag} {mg : Str → Option Value} {base : Heap} {f : Addr} {fd : FuncData}
theorem ok_law_too_deep {c Pt : Addr} {Tb : List (Addr × Str)} {T : ErrT K mg} (TB : LamX.TabB base mg c Pt) (hin : (Pt, lamQd) ∈ Tb) (hone : ∀ p ∈ Tb, p.1 = Pt → p.2 = lamQd) (F : FunC K "_law_too_deep" "_law_too_deep" s_law_too_deep f fd (.ref c))
    (C_law_depth : Cal P w K mg base "_law_depth" 13 ["_law_form"] (spDepth K 13)) (C_law_draw : Cal P w K mg base "_law_draw" 1 ["_law_pen", "_law_span"] (spDraw K)) (C_law_pick : Cal P w K mg base "_law_pick" 2 ["_law_pen", "_law_some"] (spPick K))
    (C_law_form_text : Cal P w K mg base "_law_form_text" 14 P_law_form_text (spLText K 13)) (C_law_faults : Cal P w K mg base "_law_faults" 88 P_law_faults (spFaults P w K mg base T 33 53)) (Cread_form : CalX P w K mg base "read_form" 7 Ncheck_text (spReadForm K T.B T.D)) :
    FnOk P w K mg base CX0 92 f fd P_law_too_deep (spTooDeep K Tb) := by
  refine F.ok sc_law_too_deep (fun vs H Q E h => ?_) (fun A outer s H vs Q E hr h => ?_)
  · obtain ⟨d, L, ns, n, v, t, rfl, _⟩ := h
    rfl
  obtain ⟨d, L, ns, n, v, t, rfl, hp, hn, hf, ok, hd, hw, tabs, q⟩ := h
  refine ⟨_, (pss_cons (ps_for PassesOwn.never rfl (pi_list (pe_lstN (pa_cons (pe_op op_sub pe_int (pe_callC C_law_depth hr (pa_cons (pv 1) pa_nil))) (pa_cons (pe_op op_add pe_int (pe_callC C_law_draw hr (pa_cons (pv 0) (pa_cons pe_int pa_nil)))) (pa_cons (pe_callC C_law_pick hr (pa_cons (pv 0) (pa_cons (pe_lst (pa_cons pe_int (pa_cons pe_int (pa_cons pe_int pa_nil)))) pa_nil))) pa_nil))))) (pg_name (i := 2) sc_law_too_deep.nd rfl (Or.inl rfl))
    (pss_cons (ps_asg (pe_tupN (pa_cons (pe_callC C_law_draw hr (pa_cons (pv 0) (pa_cons (pv 2) pa_nil))) (pa_cons (pe_callC C_law_form_text hr (pa_cons (pv 1) (pa_cons pe_bl pa_nil))) pa_nil))) (pg_tup rfl (pgs_cons (pg_name (i := 3) sc_law_too_deep.nd rfl (Or.inl rfl)) (pgs_cons (pg_name (i := 4) sc_law_too_deep.nd rfl (Or.inr rfl)) pgs_nil))))
    (pss_cons (ps_set (i := 4) sc_law_too_deep.nd rfl (Or.inr rfl) (pe_op op_add_str (pe_op op_add_str (pe_op op_add_str (pe_op op_add_str (pe_op op_mulT pe_str (pe_op op_sub (pv 2) (pv 3))) (pe_op op_mulT pe_str (pv 3))) (pv 4)) (pe_op op_mulT pe_str (pv 3))) (pe_op op_mulT pe_str (pe_op op_sub (pv 2) (pv 3)))))
    (pss_one (ps_if (pt_not (pt_val (Clo.pe_callT C_law_faults.ok (hr.mono (by decide)) rfl C_law_faults.m C_law_faults.kp C_law_faults.b (fun _ => rfl) (pa_cons
        (Clo.pe_lam (k := 32) (t := fun E => tCallS (spReadForm K T.B T.D) (WE fun cls d _ H => E cls d H) (tCons (tSl rSlS (tVar 4) (tPart (tC (.int 1))) (tPart (tUn (rU fun i => V.int (-i)) (tC (.int 1))))) tNil)) TB rfl hin hone (show LamX.LamS (defScope s_law_too_deep) _ from LamX.lamS_by (by decide +kernel)) rfl (fun _ _ _ _ _ => rfl)
          (fun A outer s H E f c' hr' => pe_callS Cread_form.ok (hr'.mono (by decide)) rfl Cread_form.m Cread_form.kp Cread_form.b (fun σ => passAt (takes_of rfl rfl rfl rfl) σ) (pa_cons (pe_slice sl_str (pv 4) (po_some pe_int) (po_some (pe_un un_neg pe_int))) pa_nil)))
        (pa_cons (pe_tup (pa_cons pe_str (pa_cons pe_int pa_nil))) pa_nil)))))
      (pss_one (ps_ret pe_bl))
      pss_nil)))))
  (pss_one (ps_ret pe_bl))), ?_⟩
  have h13 : isForm 12 t.data = true := ft_isForm t ok hd
  refine ⟨_, rfl, v, t.data, 12, rfl, by omega, FT.of_fm t hf, h13, fun j H1 hj dj s1 => ?_⟩
  have jd : j ≤ t.dep := by
    refine Nat.le_of_not_lt fun h => ?_
    have h1 := dj.2 t.dep h
    rw [ft_isForm t ok (Nat.le_refl _)] at h1
    cases h1
  have p1 := hp.same s1
  refine ⟨_, _, rfl, rfl, _, rfl, d, L, ns, n, 40, rfl, p1, by omega, by decide, by decide, fun r H2 r0 r1 k2 p2 => ⟨_, _, rfl, rfl, ?_⟩⟩
  refine ⟨_, rfl, by show 3 ≤ sizeLine; decide, fun p0 np0 => ?_⟩
  refine ⟨d, L, ns, _, _, rfl, p2.same (same_new np0 _), by omega, .inl ⟨p0, _, rfl, SqL.of upd_same, by simp, by show 3 ≤ 1000; decide, fun x H3 hx k3 p3 => ⟨le1k, fun l4 H4 s4 e4 => ?_⟩⟩⟩
  have kA : Keep d H H4 := (((Same.toKeep s1).trans k2).trans (Same.toKeep (same_new np0 _))).trans (k3.trans (Same.toKeep s4))
  have p4 : Pen K H4 d L ns (n + 1 + 1) := p3.same s4
  have tabs4 := tabs_keep hp.isDk kA tabs
  have nld : l4 ≠ d := fun e => by
    obtain ⟨kvs, h⟩ := p4.isDk
    rw [← e, e4] at h
    cases h
  refine ⟨l4, rfl, ⟨_, SqL.of e4⟩, ?_⟩
  have all : ∀ y ∈ [V.int (13 - (j : Int)), .int (13 + r), x], ∃ m : Nat, y = .int m ∧ 0 < m ∧ m ≤ 1200 ∧ 13 ≤ m + t.dep := by
    intro y hy
    simp only [List.mem_cons, List.not_mem_nil, or_false] at hy
    rcases hy with rfl | rfl | rfl
    · exact ⟨13 - j, by congr 1; omega, by omega, by omega, by omega⟩
    · exact ⟨(13 + r).toNat, by congr 1; omega, by omega, by omega, by omega⟩
    · simp only [List.mem_cons, List.not_mem_nil, or_false] at hx
      rcases hx with rfl | rfl | rfl
      · exact ⟨13, rfl, by decide, by decide, by omega⟩
      · exact ⟨400, rfl, by decide, by decide, by omega⟩
      · exact ⟨1200, rfl, by decide, by decide, by omega⟩
  have f4 : Fm K H4 t v := (kt_pen hp kA).fm t hf
  refine for_it walk_list (fun i σ H' => (∃ o2 o3 o4, σ = [some (.ref d), some v, o2, o3, o4]) ∧ KeepX d H4 H' ∧ Pen K H' d L ns (n + 2 + i) ∧ LamX.Tabs Tb H' ∧ Fm K H' t v) ⟨⟨none, none, none, rfl⟩, fun _ _ _ _ h => h, p4, tabs4, f4⟩
    (fun i σ H' _ pv => SqL.of (pv.2.1 _ _ nld (fun _ z => nomatch z) e4)) (fun i y σ HX H5 hi pv yy => ?_) (fun σ H' pv => ?_)
  · obtain ⟨rfl, hx5⟩ := yy
    obtain ⟨⟨o2, o3, o4, rfl⟩, kx, p5, tb5, f5⟩ := pv
    obtain ⟨m, rfl, m0, m1, m13⟩ := all y (List.mem_of_getElem? hx5)
    have hi3 : i < 3 := hi
    have hbig := big
    refine ⟨_, rfl, _, rfl, d, L, ns, _, m, rfl, p5, by omega, by omega, by omega, fun l H6 l0 l1 k6 p6 => ?_⟩
    obtain ⟨k, rfl⟩ : ∃ k : Nat, l = k := ⟨l.toNat, by omega⟩
    have f6 : Fm K H6 t v := (kt_pen p5 k6).fm t f5
    refine ⟨_, rfl, v, t, true, rfl, f6, by omega, by omega, fun H7 s7 => ⟨le1k, fun tt H8 s8 e8 => ⟨tt, _, rfl, e8, rfl, _, _, rfl, _, _, rfl, rfl, ?_⟩⟩⟩
    have k8 : Keep d H5 H8 := k6.trans (Same.toKeep (s7.trans s8))
    have p8 : Pen K H8 d L ns (n + 2 + i + 1) := (p6.same s7).same s8
    have tb8 := tabs_keep p5.isDk k8 tb5
    have f8 : Fm K H8 t v := (Same.kt (s7.trans s8)).fm t f6
    have r1 : (reps (m - k) [40]).length = m - k := by rw [reps_len]; show (m - k) * 1 = _; omega
    have r2 : (reps k ltA).length = k * 5 := reps_len _ _
    have r3 : (reps k [41]).length = k := by rw [reps_len]; show k * 1 = _; omega
    have r4 : (reps (m - k) rtB).length = (m - k) * 6 := reps_len _ _
    have hsub : V.int ((m : Int) - (k : Int)) = V.int ((m - k : Nat) : Int) := by congr 1; omega
    refine ⟨_, rfl, _, rfl, _, _, rfl, rfl, [40], m - k, rfl, hsub, by decide, by omega, _, rfl, ltA, k, rfl, rfl, by decide, by omega, _, _, rfl, rfl, by simp only [Z_len]; omega, ?_⟩
    rw [Z_cat]
    refine ⟨_, rfl, _, _, rfl, rfl, by simp only [Z_len, List.length_append]; omega, ?_⟩
    rw [Z_cat]
    refine ⟨_, rfl, [41], k, rfl, rfl, by decide, by omega, _, _, rfl, rfl, by simp only [Z_len, List.length_append]; omega, ?_⟩
    rw [Z_cat]
    refine ⟨_, rfl, _, rfl, _, _, rfl, rfl, rtB, m - k, rfl, hsub, by decide, by omega, _, _, rfl, rfl, by simp only [Z_len, List.length_append]; omega, ?_⟩
    rw [Z_cat]
    obtain ⟨T0, body, eb, tx, hT0⟩ := too_deep t ok m k (by omega)
    have hb : body.length + 2 ≤ 60000 := by
      have := congrArg List.length eb
      simp only [List.length_append, List.length_cons, List.length_nil, r1, r2, r3, r4] at this
      omega
    rw [eb]
    refine ⟨tb8, fun f1 fo1 c1 H9 x9 t9 n9 p9 q9 o9 a9 => ⟨by show 2 ≤ sizeLine; decide, fun tp ntp => ?_⟩⟩
    intro C KC hC
    have out_ : ∀ {b : Addr} {o : HO}, upd H9 tp (.tup [.str "deep", .int 12]) b = some o → C b = none := fun {b o} e => Clo.out_of e hC
    have s9 : Same H9 (upd H9 tp (.tup [.str "deep", .int 12])) := same_new ntp _
    have tp9 : upd H9 tp (.tup [.str "deep", .int 12]) tp = some (.tup [.str "deep", .int 12]) := upd_same
    generalize upd H9 tp (.tup [.str "deep", .int 12]) = G0 at *
    refine ⟨.ref f1, .ref tp, rfl, f1, fo1, _, rfl, o9, by rw [Clo.plus_out (out_ (s9 _ _ p9))]; exact s9 _ _ p9, Clo.Act.mono (a9 C KC) (by decide), fun Q' E' i1 i2 => ⟨by rw [Clo.plus_out (out_ (s9 _ _ p9))]; exact s9 _ _ p9, by rw [Clo.plus_out (out_ (s9 _ _ q9))]; exact s9 _ _ q9, fun c o e => Clo.plus_in e, ?_⟩⟩
    rw [minus_plus hC]
    have fin : badE T.D "most" (.int 12) G0 (fun cls d H' => (∀ c o, C c = some o → H' c = none) → E' cls d (Clo.plus C H')) := fun d' H10 s10 nd' non => by
      refine i2 _ _ _ ⟨T.D, d', "most", "deep", .int 12, rfl, rfl, .inr (.inr (.inl ⟨rfl, rfl, rfl⟩)), ?_, fun pp npp => ?_⟩
      · rw [Clo.plus_out (Clo.out_of upd_same non)]
        exact upd_same
      · have sG : Same G0 (Clo.plus C (upd H10 d' (.xd [("most", .int 12)]))) := fun b o e => by
          have e1 := s10 _ _ e
          rw [Clo.plus_out (out_ e), upd_ne (ne_of_none e1 nd')]
          exact e1
        have s2 : Same G0 (upd (Clo.plus C (upd H10 d' (.xd [("most", .int 12)]))) pp (.tup [.str "deep", .int 12])) := Same.trans sG (same_new npp _)
        refine ⟨.inr (.inr (.inl ⟨pp, tp, [.str "deep", .int 12], [.str "deep", .int 12], rfl, rfl, SqT.of upd_same, SqT.of (s2 _ _ tp9), le1k, .cons (.inl ⟨rfl, rfl⟩) (.cons (.inl ⟨rfl, rfl⟩) .nil)⟩)), fun H11 s11 => ⟨fun c o e => ?_, ?_⟩⟩
        · refine s11 _ _ ?_
          have e1 : Clo.plus C (upd H10 d' (.xd [("most", .int 12)])) c = some (Clo.Pin c o) := Clo.plus_in e
          rw [upd_ne (ne_of_none e1 npp)]
          exact e1
        · refine ⟨true, rfl, ?_⟩
          have sM : Same H9 (Clo.minus C H11) := fun b o e => by
            have e1 := s9 _ _ e
            rw [Clo.minus_out (out_ e1)]
            exact s11 _ _ (s2 _ _ e1)
          exact ⟨⟨_, _, _, rfl⟩, ((kx.trans (KeepX.of_keep k8)).trans (KeepX.of_ext x9)).trans (KeepX.of_keep (Same.toKeep sM)), ((pen_x x9 p8).same sM).mono (by omega), t9.ext sM, (Same.kt sM).fm t ((kt_x x9).fm t f8)⟩
    refine ⟨_, rfl, _, rfl, _, rfl, _, rfl, _, rfl, by rw [Z_len]; simp only [List.length_cons, List.length_append, List.length_nil]; omega, ?_⟩
    show spReadForm K T.B T.D [V.str (cutS (Z (40 :: (body ++ [41]))) (some 1) (some (-1)))] G0 _ _
    rw [cut_in]
    exact ⟨_, rfl, .inl ⟨T0, body, rfl, tx, by omega, fun h => absurd h (by omega), fun _ => fin⟩⟩
  · exact q H' ((KeepX.of_keep kA).trans pv.2.1) (pv.2.2.1.mono (by show n + 2 + 3 ≤ n + 5; omega)) pv.2.2.2.1
end
end My

set_option Elab.async false
set_option linter.all false
set_option maxRecDepth 100000
namespace My
open PySem L2
abbrev s_law_refuses : Stmt := top 59
abbrev N_law_refuses : List Str := ["_law_pen", "_law_form", "_law_odd", "_law_other"]
abbrev P_law_refuses : List Str := ["_law_pen", "_law_form"]
theorem sc_law_refuses : FnScope N_law_refuses P_law_refuses (defScope s_law_refuses) := ⟨rfl, rfl, rfl, by decide +kernel, rfl, by decide +kernel, by decide +kernel⟩
abbrev lamQr : Str := "_law_refuses.<locals>.<lambda>"
/-- what is no text -/
def NoTx (K : PySem.W.Frag) (H : Hp) (v : V) : Prop := (∃ D, Dp K H v D ∧ widD D = true ∧ D.depth ≤ 20 ∧ isStrD D = false) ∨ ∃ (a : Addr) (kvs : List (Key × V)), v = .ref a ∧ H a = some (.dK kvs) ∧ (kvs.map (·.1)).Nodup ∧ ∀ p ∈ kvs, flatB p.2 = true
theorem NoTx.x {K : PySem.W.Frag} {H H' : Hp} {v : V} (k : LamX.ExtN H H') (h : NoTx K H v) : NoTx K H' v := by
  rcases h with ⟨D, h1, h2⟩ | ⟨a, kvs, e, h1, h2⟩
  · exact .inl ⟨D, dp_x k _ _ h1, h2⟩
  · exact .inr ⟨a, kvs, e, k _ _ h1 (fun _ z => nomatch z), h2⟩
theorem NoTx.tw {K : PySem.W.Frag} {H : Hp} {v : V} (h : NoTx K H v) : Tw K H 52 v v := by
  rcases h with ⟨D, h1, h2, h3, _⟩ | ⟨a, kvs, e, h1, h2, h3⟩
  · exact tw_mono (by omega) (tw_dp D v v h2 h1 h1)
  · exact .inr (.inl ⟨a, kvs, e, e, h1, h2, h3⟩)
def spRefuses (K : PySem.W.Frag) (Tb : List (Addr × Str)) : Sp := fun vs H Q _ => ∃ (d L : Addr) (ns : List Int) (n : Nat) (v : V) (t : FT), vs = [.ref d, v] ∧ Pen K H d L ns n ∧ n < 2 ^ 37 + 100 ∧ Fm K H t v ∧ t.Ok ∧ t.dep ≤ 12 ∧ (wrt true t).length ≤ 10000 ∧ LamX.Tabs Tb H ∧ ∀ H', Q (.bl true) H'
section
variable {P : Program} {w : World} {K : PySem.W.Frag} {mg : Str → Option Value} {base : Heap} {f : Addr} {fd : FuncData}
theorem ok_law_refuses {c Pt : Addr} {Tb : List (Addr × Str)} {T : ErrT K mg} (TB : LamX.TabB base mg c Pt) (hin : (Pt, lamQr) ∈ Tb) (hone : ∀ p ∈ Tb, p.1 = Pt → p.2 = lamQr) (F : FunC K "_law_refuses" "_law_refuses" s_law_refuses f fd (.ref c))
    (C_law_no_form : Cal P w K mg base "_law_no_form" 17 P_law_no_form (spNoForm K)) (C_law_form_text : Cal P w K mg base "_law_form_text" 14 P_law_form_text (spLText K 13)) (C_law_faults : Cal P w K mg base "_law_faults" 88 P_law_faults (spFaults P w K mg base T 33 53))
    (Cform_text : CalX P w K mg base "form_text" 31 Nis_leaf (spFormText K T.B)) (Cread_form : CalX P w K mg base "read_form" 7 Ncheck_text (spReadForm K T.B T.D)) :
    FnOk P w K mg base CX0 92 f fd P_law_refuses (spRefuses K Tb) := by
  refine F.ok sc_law_refuses (fun vs H Q E h => ?_) (fun A outer s H vs Q E hr h => ?_)
  · obtain ⟨d, L, ns, n, v, t, rfl, _⟩ := h
    rfl
  obtain ⟨d, L, ns, n, v, t, rfl, hp, hn, hf, ok, hd, hw, tabs, q⟩ := h
  refine ⟨_, (pss_cons (ps_set (i := 2) sc_law_refuses.nd rfl (Or.inr rfl) (pe_callC C_law_no_form hr (pa_cons (pv 0) (pa_cons (pv 1) pa_nil))))
  (pss_cons (ps_if (pt_not (pt_val (Clo.pe_callT C_law_faults.ok (hr.mono (by decide)) rfl C_law_faults.m C_law_faults.kp C_law_faults.b (fun _ => rfl) (pa_cons
        (Clo.pe_lam (k := 32) (t := fun E => tCallS (spFormText K T.B) (WE fun cls d _ H => E cls d H) (tCons (tVar 2) tNil)) TB rfl hin hone (show LamX.LamS (defScope s_law_refuses) _ from LamX.lamS_by (by decide +kernel)) rfl (fun _ _ _ _ _ => rfl)
          (fun A outer s H E f c' hr' => pe_callS Cform_text.ok (hr'.mono (by decide)) rfl Cform_text.m Cform_text.kp Cform_text.b (fun σ => passAt (takes_of rfl rfl rfl rfl) σ) (pa_cons (pv 2) pa_nil)))
        (pa_cons (pe_tup (pa_cons pe_str (pa_cons (pv 2) pa_nil))) pa_nil)))))
    (pss_one (ps_ret pe_bl))
    pss_nil)
  (pss_cons (ps_for PassesOwn.never rfl (pi_list (pe_lstN (pa_cons pe_non (pa_cons pe_bl (pa_cons pe_int (pa_cons (pv 1) (pa_cons (pe_lstN (pa_cons (pe_callC C_law_form_text hr (pa_cons (pv 1) (pa_cons pe_bl pa_nil))) pa_nil)) (pa_cons pe_dnewK pa_nil)))))))) (pg_name (i := 3) sc_law_refuses.nd rfl (Or.inr rfl))
    (pss_one (ps_if (pt_not (pt_val (Clo.pe_callT C_law_faults.ok (hr.mono (by decide)) rfl C_law_faults.m C_law_faults.kp C_law_faults.b (fun _ => rfl) (pa_cons
        (Clo.pe_lam (k := 32) (t := fun E => tCallS (spReadForm K T.B T.D) (WE fun cls d _ H => E cls d H) (tCons (tVar 3) tNil)) TB rfl hin hone (show LamX.LamS (defScope s_law_refuses) _ from LamX.lamS_by (by decide +kernel)) rfl (fun _ _ _ _ _ => rfl)
          (fun A outer s H E f c' hr' => pe_callS Cread_form.ok (hr'.mono (by decide)) rfl Cread_form.m Cread_form.kp Cread_form.b (fun σ => passAt (takes_of rfl rfl rfl rfl) σ) (pa_cons (pv 3) pa_nil)))
        (pa_cons (pe_tup (pa_cons pe_str (pa_cons (pv 3) pa_nil))) pa_nil)))))
      (pss_one (ps_ret pe_bl))
      pss_nil)))
  (pss_one (ps_ret pe_bl))))), ?_⟩
  have h13 : isForm 12 t.data = true := ft_isForm t ok hd
  have hbig := big
  refine ⟨_, rfl, _, rfl, d, L, ns, n, v, t.data, rfl, hp, hn, FT.of_fm t hf, h13, fun odd D H8 hD sD wD dD nD k8 => ?_⟩
  have f8 : Fm K H8 t v := (kt_pen hp k8).fm t hf
  have tb8 := tabs_keep hp.isDk k8 tabs
  refine ⟨tb8, fun f1 fo1 c1 H9 x9 t9 n9 p9 q9 o9 a9 => ⟨_, rfl, by show 2 ≤ sizeLine; decide, fun tp ntp => ?_⟩⟩
  intro C KC hC
  have out_ : ∀ {b : Addr} {o : HO}, upd H9 tp (.tup [.str "value", odd]) b = some o → C b = none := fun {b o} e => Clo.out_of e hC
  have s9 : Same H9 (upd H9 tp (.tup [.str "value", odd])) := same_new ntp _
  have tp9 : upd H9 tp (.tup [.str "value", odd]) tp = some (.tup [.str "value", odd]) := upd_same
  generalize upd H9 tp (.tup [.str "value", odd]) = G0 at *
  have hD0 : Dp K G0 odd D := dp_same s9 _ _ (dp_x x9 _ _ hD)
  refine ⟨.ref f1, .ref tp, rfl, f1, fo1, _, rfl, o9, by rw [Clo.plus_out (out_ (s9 _ _ p9))]; exact s9 _ _ p9, Clo.Act.mono (a9 C KC) (by decide), fun Q' E' i1 i2 => ⟨by rw [Clo.plus_out (out_ (s9 _ _ p9))]; exact s9 _ _ p9, by rw [Clo.plus_out (out_ (s9 _ _ q9))]; exact s9 _ _ q9, fun c o e => Clo.plus_in e, ?_⟩⟩
  rw [minus_plus hC]
  have fin : badE T.B "value" odd G0 (fun cls d H' => (∀ c o, C c = some o → H' c = none) → E' cls d (Clo.plus C H')) := fun d' H10 s10 nd' non => by
    refine i2 _ _ _ ⟨T.B, d', "value", "value", odd, rfl, rfl, .inl ⟨rfl, rfl, rfl⟩, ?_, fun pp npp => ?_⟩
    · rw [Clo.plus_out (Clo.out_of upd_same non)]
      exact upd_same
    · have sG : Same G0 (Clo.plus C (upd H10 d' (.xd [("value", odd)]))) := fun b o e => by
        have e1 := s10 _ _ e
        rw [Clo.plus_out (out_ e), upd_ne (ne_of_none e1 nd')]
        exact e1
      have s2 : Same G0 (upd (Clo.plus C (upd H10 d' (.xd [("value", odd)]))) pp (.tup [.str "value", odd])) := Same.trans sG (same_new npp _)
      have hD2 := dp_same s2 _ _ hD0
      refine ⟨.inr (.inr (.inl ⟨pp, tp, [.str "value", odd], [.str "value", odd], rfl, rfl, SqT.of upd_same, SqT.of (s2 _ _ tp9), le1k, .cons (.inl ⟨rfl, rfl⟩) (.cons (tw_mono (show D.depth + 1 ≤ 52 by omega) (tw_dp D odd odd wD hD2 hD2)) .nil)⟩)), fun H11 s11 => ⟨fun c o e => ?_, ?_⟩⟩
      · refine s11 _ _ ?_
        have e1 : Clo.plus C (upd H10 d' (.xd [("value", odd)])) c = some (Clo.Pin c o) := Clo.plus_in e
        rw [upd_ne (ne_of_none e1 npp)]
        exact e1
      · refine ⟨true, rfl, ?_⟩
        have sM : Same H9 (Clo.minus C H11) := fun b o e => by
          have e1 := s9 _ _ e
          rw [Clo.minus_out (out_ e1)]
          exact s11 _ _ (s2 _ _ e1)
        have tM := t9.ext sM
        have fM : Fm K (Clo.minus C H11) t v := (Same.kt sM).fm t ((kt_x x9).fm t f8)
        clear i1 i2
        generalize Clo.minus C H11 = H20 at *
        have s3 : ∀ {G G' : Hp}, Same G G' → LamX.ExtN G G' := fun s => LamX.ExtN.of s
        refine iteF ⟨_, rfl, _, rfl, v, t, false, rfl, fM, by omega, by omega, fun H21 s21 => ⟨le1k, fun l1 H22 s22 e22 => fun p3 np3 => ⟨le1k, fun l4 H23 s23 e23 => ⟨l4, rfl, ⟨_, SqL.of e23⟩, ?_⟩⟩⟩⟩
        have s22' : Same H22 H23 := fun b o e => s23 _ _ (by rw [upd_ne (ne_of_none e np3)]; exact e)
        have f23 : Fm K H23 t v := (Same.kt ((s21.trans s22).trans s22')).fm t fM
        have tb23 := tM.ext ((s21.trans s22).trans s22')
        have all : ∀ y ∈ [V.non, .bl true, .int 0, v, .ref l1, .ref p3], NoTx K H23 y := by
          intro y hy
          simp only [List.mem_cons, List.not_mem_nil, or_false] at hy
          rcases hy with rfl | rfl | rfl | rfl | rfl | rfl
          · exact .inl ⟨_, .non, rfl, by decide, rfl⟩
          · exact .inl ⟨_, .bl true, rfl, by decide, rfl⟩
          · exact .inl ⟨_, .int 0, rfl, by decide, rfl⟩
          · exact .inl ⟨t.data, FT.of_fm t f23, wid_form h13, Nat.le_trans (depth_form h13) (by decide), by cases t <;> rfl⟩
          · exact .inl ⟨.list [.str (Z (wrt false t))], .lst (SqL.of (s22' _ _ e22)) (.cons (.str _) .nil), rfl, by simp [PyData.depth, PyData.depthAll], rfl⟩
          · exact .inr ⟨p3, [], rfl, s23 _ _ upd_same, by simp, fun _ h => by cases h⟩
        refine for_it walk_list (fun i σ H' => (∃ o3, σ = [some (.ref d), some v, some odd, o3]) ∧ LamX.ExtN H23 H' ∧ LamX.Tabs Tb H') ⟨⟨none, rfl⟩, LamX.ExtN.refl _, tb23⟩
          (fun i σ H' _ pv => SqL.of (pv.2.1 _ _ e23 (fun _ z => nomatch z))) (fun i y σ HX H5 hi pv yy => ?_) (fun σ H' pv => q H')
        obtain ⟨rfl, hx5⟩ := yy
        obtain ⟨⟨o3, rfl⟩, kx, tb5⟩ := pv
        have ny : NoTx K H5 y := (all y (List.mem_of_getElem? hx5)).x kx
        refine ⟨tb5, fun f2 fo2 c2 H6 x6 t6 n6 p6 q6 o6 a6 => ⟨_, rfl, by show 2 ≤ sizeLine; decide, fun tq ntq => ?_⟩⟩
        have nyG := (ny.x x6).x (s3 (same_new ntq (.tup [.str "value", y])))
        intro C2 KC2 hC2
        have out2 : ∀ {b : Addr} {o : HO}, upd H6 tq (.tup [.str "value", y]) b = some o → C2 b = none := fun {b o} e => Clo.out_of e hC2
        have s9 : Same H6 (upd H6 tq (.tup [.str "value", y])) := same_new ntq _
        have tq9 : upd H6 tq (.tup [.str "value", y]) tq = some (.tup [.str "value", y]) := upd_same
        generalize upd H6 tq (.tup [.str "value", y]) = G1 at *
        refine ⟨.ref f2, .ref tq, rfl, f2, fo2, _, rfl, o6, by rw [Clo.plus_out (out2 (s9 _ _ p6))]; exact s9 _ _ p6, Clo.Act.mono (a6 C2 KC2) (by decide), fun Q2 E2 j1 j2 => ⟨by rw [Clo.plus_out (out2 (s9 _ _ p6))]; exact s9 _ _ p6, by rw [Clo.plus_out (out2 (s9 _ _ q6))]; exact s9 _ _ q6, fun c o e => Clo.plus_in e, ?_⟩⟩
        rw [minus_plus hC2]
        have fin2 : badE T.B "value" y G1 (fun cls d H' => (∀ c o, C2 c = some o → H' c = none) → E2 cls d (Clo.plus C2 H')) := fun d' H10 s10 nd' non => by
          refine j2 _ _ _ ⟨T.B, d', "value", "value", y, rfl, rfl, .inl ⟨rfl, rfl, rfl⟩, ?_, fun pp npp => ?_⟩
          · rw [Clo.plus_out (Clo.out_of upd_same non)]
            exact upd_same
          · have sG : Same G1 (Clo.plus C2 (upd H10 d' (.xd [("value", y)]))) := fun b o e => by
              have e1 := s10 _ _ e
              rw [Clo.plus_out (out2 e), upd_ne (ne_of_none e1 nd')]
              exact e1
            have s2 : Same G1 (upd (Clo.plus C2 (upd H10 d' (.xd [("value", y)]))) pp (.tup [.str "value", y])) := Same.trans sG (same_new npp _)
            refine ⟨.inr (.inr (.inl ⟨pp, tq, [.str "value", y], [.str "value", y], rfl, rfl, SqT.of upd_same, SqT.of (s2 _ _ tq9), le1k, .cons (.inl ⟨rfl, rfl⟩) (.cons (nyG.x (s3 s2)).tw .nil)⟩)), fun H11 s11 => ⟨fun c o e => ?_, ?_⟩⟩
            · refine s11 _ _ ?_
              have e1 : Clo.plus C2 (upd H10 d' (.xd [("value", y)])) c = some (Clo.Pin c o) := Clo.plus_in e
              rw [upd_ne (ne_of_none e1 npp)]
              exact e1
            · refine ⟨true, rfl, ?_⟩
              have sM : Same H6 (Clo.minus C2 H11) := fun b o e => by
                have e1 := s9 _ _ e
                rw [Clo.minus_out (out2 e1)]
                exact s11 _ _ (s2 _ _ e1)
              exact ⟨⟨_, rfl⟩, (kx.trans x6).trans (s3 sM), t6.ext sM⟩
        refine ⟨_, rfl, _, rfl, ?_⟩
        rcases nyG with ⟨D2, h1, h2, h3, h4⟩ | ⟨b, kvs, e, h1, h2⟩
        · exact .inr (.inl ⟨D2, h1, h4, fin2⟩)
        · exact .inr (.inr ⟨⟨b, kvs, e, h1⟩, fin2⟩)
  exact ⟨_, rfl, _, rfl, .inr (.inl ⟨D, hD0, short_str sD, sD, by omega, nD, fin⟩)⟩
end
end My

set_option Elab.async false
set_option linter.all false
set_option maxRecDepth 100000
namespace My
open PySem L2
abbrev slaw : Stmt := top 60
abbrev Nlaw : List Str := ["_law_script", "_law_pen", "_law_names_here", "_law_form", "_law_other", "_law_some"]
abbrev Plaw : List Str := ["_law_script"]
theorem sclaw : FnScope Nlaw Plaw (defScope slaw) := ⟨rfl, rfl, rfl, by decide +kernel, rfl, by decide +kernel, by decide +kernel⟩
theorem lvs_data : ∀ t : FT, (lvs t.data).length = t.lvs
  | .leaf co n => by
    show (lvs (.tuple [.str (leafZ co), .str (Z n)])).length = 1
    rw [lvs2]
    rfl
  | .node s l r => by
    show (lvs (.tuple [.str s.word, l.data, r.data])).length = l.lvs + r.lvs
    rw [lvs3, List.length_append, lvs_data l, lvs_data r]
theorem toks_le : ∀ t : FT, (toks true t).length + 3 ≤ 4 * t.lvs
  | .leaf co n => by show 1 + 3 ≤ 4 * 1; decide
  | .node s l r => by
    have h1 := toks_le l
    have h2 := toks_le r
    show ([40] :: (toks true l ++ ([s.code] :: toks true r) ++ [[41]])).length + 3 ≤ 4 * (l.lvs + r.lvs)
    simp only [List.length_append, List.length_cons, List.length_nil]
    omega
theorem wrt_le : ∀ t : FT, t.Ok → (wrt true t).length + 5 ≤ 18 * t.lvs
  | .leaf co n, h => by
    have h : isName (Z n) = true := h
    unfold isName at h
    rw [Bool.and_eq_true, decide_eq_true_eq, Z_len] at h
    have hn := h.1.2
    show (leafS co n).length + 5 ≤ 18 * 1
    unfold leafS
    rw [List.length_append]
    have : (if co then [126] else [] : List Nat).length ≤ 1 := by cases co <;> decide
    omega
  | .node s l r, h => by
    have h1 := wrt_le l h.1
    have h2 := wrt_le r h.2
    show (40 :: (wrt true l ++ (32 :: s.code :: 32 :: wrt true r) ++ [41])).length + 5 ≤ 18 * (l.lvs + r.lvs)
    simp only [List.length_append, List.length_cons, List.length_nil]
    omega
/-- a form of which all looks are small -/
def Good (K : PySem.W.Frag) (H : Hp) (v : V) : Prop := ∃ t : FT, Fm K H t v ∧ t.Ok ∧ t.dep ≤ 12 ∧ (toks true t).length ≤ 900 ∧ (wrt true t).length ≤ 10000
theorem Good.of {K : PySem.W.Frag} {H : Hp} {v : V} {D : PyData} {k : Nat} (h : Dp K H v D) (hf : isForm k D = true) (hk : k ≤ 12) (hl : (lvs D).length ≤ 200) : Good K H v := by
  obtain ⟨t, rfl, ok, hd⟩ := ft_of hf
  rw [lvs_data] at hl
  have h1 := toks_le t
  have h2 := wrt_le t ok
  exact ⟨t, fm_of_dp t h, ok, by omega, by omega, by omega⟩
theorem Good.kt {K : PySem.W.Frag} {H H' : Hp} {v : V} (g : Good K H v) (k : KT H H') : Good K H' v := by
  obtain ⟨t, h, r⟩ := g
  exact ⟨t, k.fm t h, r⟩
def spLaw (K : PySem.W.Frag) (Tb : List (Addr × Str)) : Sp := fun vs H Q _ => ∃ (a : Addr) (ns : List Int), vs = [.ref a] ∧ SqL K H a (ns.map V.int) ∧ ns.length ≤ 63 ∧ LamX.Tabs Tb H ∧ ∀ H', Q (.bl true) H'
section
variable {P : Program} {w : World} {K : PySem.W.Frag} {mg : Str → Option Value} {base : Heap} {f : Addr} {fd : FuncData}
theorem ok_law {Tb : List (Addr × Str)} (T : Txt K mg) (F : Fun K "law" "law" slaw f fd) (C_law_begin : Cal P w K mg base "_law_begin" 1 ["_law_script"] (spBegin K)) (C_law_draw : Cal P w K mg base "_law_draw" 1 ["_law_pen", "_law_span"] (spDraw K)) (C_law_pick : Cal P w K mg base "_law_pick" 2 ["_law_pen", "_law_some"] (spPick K))
    (C_law_names : Cal P w K mg base "_law_names" 4 P_law_names (spNames K)) (C_law_shape : Cal P w K mg base "_law_shape" 15 P_law_shape (spShape K 13)) (C_law_deeper : Cal P w K mg base "_law_deeper" 14 P_law_deeper (spDeeper K))
    (C_law_text_right : Cal P w K mg base "_law_text_right" 32 P_law_text_right (spTextRight K)) (C_law_too_deep : Cal P w K mg base "_law_too_deep" 92 P_law_too_deep (spTooDeep K Tb)) (C_law_refuses : Cal P w K mg base "_law_refuses" 92 P_law_refuses (spRefuses K Tb)) :
    FnOk P w K mg base CX0 93 f fd Plaw (spLaw K Tb) := by
  refine F.ok sclaw (fun vs H Q E h => ?_) (fun cdv A outer s H vs Q E hr h => ?_)
  · obtain ⟨a, ns, rfl, _⟩ := h
    rfl
  obtain ⟨a, ns, rfl, hS, h63, tabs, q⟩ := h
  refine ⟨_, (pss_cons (ps_set (i := 1) sclaw.nd rfl (Or.inr rfl) (pe_callC C_law_begin hr (pa_cons (pv 0) pa_nil)))
  (pss_cons (ps_set (i := 2) sclaw.nd rfl (Or.inl rfl) (pe_callC C_law_names hr (pa_cons (pv 1) (pa_cons pe_int pa_nil))))
  (pss_cons (ps_set (i := 3) sclaw.nd rfl (Or.inl rfl) (pe_callC C_law_shape hr (pa_cons (pv 1) (pa_cons (pv 2) (pa_cons (pe_op op_add pe_int (pe_callC C_law_draw hr (pa_cons (pv 1) (pa_cons pe_int pa_nil)))) (pa_cons (pe_callC C_law_pick hr (pa_cons (pv 1) (pa_cons (pe_lst (pa_cons pe_int (pa_cons pe_int pa_nil))) pa_nil))) pa_nil))))))
  (pss_cons (ps_if (pt_cmpR op_eq (pe_callC C_law_draw hr (pa_cons (pv 1) (pa_cons pe_int pa_nil))) pe_int (nomark _))
    (pss_one (ps_set (i := 3) sclaw.nd rfl (Or.inl rfl) (pe_callC C_law_shape hr (pa_cons (pv 1) (pa_cons (pv 2) (pa_cons (pe_op op_add pe_int (pe_callC C_law_draw hr (pa_cons (pv 1) (pa_cons pe_int pa_nil)))) (pa_cons (pe_callC C_law_pick hr (pa_cons (pv 1) (pa_cons (pe_lst (pa_cons pe_int (pa_cons pe_int pa_nil))) pa_nil))) pa_nil)))))))
    pss_nil)
  (pss_cons (ps_set (i := 4) sclaw.nd rfl (Or.inl rfl) (pe_callC C_law_shape hr (pa_cons (pv 1) (pa_cons (pv 2) (pa_cons (pe_op op_add pe_int (pe_callC C_law_draw hr (pa_cons (pv 1) (pa_cons pe_int pa_nil)))) (pa_cons pe_int pa_nil))))))
  (pss_cons (ps_if (pt_not (pt_val (pe_callB (cr_all rfl) rfl T.all (by decide +kernel) (pa_cons (pe_lc (own := [("_law_some", 5)]) (g := (gName 5)) (te := tCall (spTextRight K) [] E0 (tCons (tVar 1) (tCons (tVar 5) tNil))) rfl sclaw.nd (pi_list (pe_lstN (pa_cons (pv 3) (pa_cons (pv 4) (pa_cons (pe_callC C_law_deeper hr (pa_cons (pv 4) (pa_cons pe_int pa_nil))) pa_nil))))) (blkOk_by (own := [("_law_some", 5)]) (N := Nlaw) (sc := defScope slaw) (by decide +kernel)) (fun _ _ _ _ _ => (pg_name (i := 5) sclaw.nd rfl (Or.inl rfl))) (fun _ _ _ _ _ => pts_nil) (fun _ _ _ _ _ => (pe_callC C_law_text_right hr (pa_cons (pv 1) (pa_cons (pv 5) pa_nil))))) pa_nil))))
    (pss_one (ps_ret pe_bl))
    pss_nil)
  (pss_one (ps_ret (pe_and (pe_callC C_law_too_deep hr (pa_cons (pv 1) (pa_cons (pv 3) pa_nil))) (pe_one (pe_callC C_law_refuses hr (pa_cons (pv 1) (pa_cons (pv 3) pa_nil))))))))))))), ?_⟩
  refine ⟨_, rfl, a, ns, rfl, hS, h63, fun d L H1 S1 p1 => ?_⟩
  refine ⟨_, rfl, d, L, ns, 0, 4, rfl, p1, by decide, by decide, by decide, fun na zs H2 hz hne hzl hnS k2 p2 => ?_⟩
  have kd1 := p1.isDk
  have i1 : ∀ k : Nat, (1 : Int) + (k : Int) = ((1 + k : Nat) : Int) := fun k => by omega
  have i41 : ∀ k : Nat, (41 : Int) + (k : Int) = ((41 + k : Nat) : Int) := fun k => by omega
  have hzl' : zs.length ≤ 1000 := by omega
  -- the first form
  refine ⟨_, rfl, _, rfl, _, rfl, d, L, ns, _, 40, rfl, p2, by omega, by decide, by decide, fun r H3 r0 r1 k3 p3 => ⟨_, _, rfl, rfl, ?_⟩⟩
  obtain ⟨k, rfl⟩ : ∃ k : Nat, r = k := ⟨r.toNat, by omega⟩
  refine ⟨_, rfl, by show 2 ≤ sizeLine; decide, fun p0 np0 => ?_⟩
  refine ⟨d, L, ns, _, _, rfl, p3.same (same_new np0 _), by omega, .inl ⟨p0, _, rfl, SqL.of upd_same, by simp, by show 2 ≤ 1000; decide, fun x H4 hx k4 p4 => ?_⟩⟩
  obtain ⟨tl, rfl, t6, t12⟩ : ∃ t : Nat, x = .int t ∧ 6 ≤ t ∧ t ≤ 12 := by
    simp only [List.mem_cons, List.not_mem_nil, or_false] at hx
    rcases hx with rfl | rfl
    · exact ⟨6, rfl, by decide, by decide⟩
    · exact ⟨12, rfl, by decide, by decide⟩
  have pow6 : 2 ^ 6 ≤ 2 ^ tl := Nat.pow_le_pow_right (show 0 < 2 by decide) t6
  have k24 : Keep d H2 H4 := (k3.trans (Same.toKeep (same_new np0 _))).trans k4
  have nS4 := seqL_keep p2.isDk k24 hnS
  refine ⟨d, L, ns, _, na, zs, 1 + k, tl, congrArg (fun i => [V.ref d, V.ref na, V.int i, V.int (tl : Int)]) (i1 k), by omega, p4, by omega, nS4, hne, hzl', hz, by omega, by omega, by omega, by omega, fun v1 D1 H5 hd1 hf1 hl1 k5 p5 => ?_⟩
  have g5 : Good K H5 v1 := .of hd1 hf1 t12 (by omega)
  have nS5 := seqL_keep p4.isDk k5 nS4
  have k15 : Keep d H1 H5 := (k2.trans k24).trans k5
  refine ⟨_, rfl, d, L, ns, _, 3, rfl, p5, by omega, by decide, by decide, fun r6 H6 r60 r61 k6 p6 => ⟨rfl, _, rfl, ?_⟩⟩
  have g6 := g5.kt (kt_pen p5 k6)
  have nS6 := seqL_keep p5.isDk k6 nS5
  have k16 := k15.trans k6
  refine ite2 (fun _ => ?_) (fun _ => ?_)
  · refine ⟨_, rfl, _, rfl, _, rfl, d, L, ns, _, 60, rfl, p6, by omega, by decide, by decide, fun r H7 r0 r1 k7 p7 => ⟨_, _, rfl, rfl, ?_⟩⟩
    obtain ⟨kk, rfl⟩ : ∃ k : Nat, r = k := ⟨r.toNat, by omega⟩
    refine ⟨_, rfl, by show 2 ≤ sizeLine; decide, fun p0 np0 => ?_⟩
    refine ⟨d, L, ns, _, _, rfl, p7.same (same_new np0 _), by omega, .inl ⟨p0, _, rfl, SqL.of upd_same, by simp, by show 2 ≤ 1000; decide, fun x H8 hx k8 p8 => ?_⟩⟩
    obtain ⟨tk, rfl, tk6, tk12⟩ : ∃ t : Nat, x = .int t ∧ 7 ≤ t ∧ t ≤ 12 := by
      simp only [List.mem_cons, List.not_mem_nil, or_false] at hx
      rcases hx with rfl | rfl
      · exact ⟨7, rfl, by decide, by decide⟩
      · exact ⟨12, rfl, by decide, by decide⟩
    have pow7 : 2 ^ 7 ≤ 2 ^ tk := Nat.pow_le_pow_right (show 0 < 2 by decide) tk6
    have k68 : Keep d H6 H8 := (k7.trans (Same.toKeep (same_new np0 _))).trans k8
    have nS8 := seqL_keep p6.isDk k68 nS6
    refine ⟨d, L, ns, _, na, zs, 41 + kk, tk, congrArg (fun i => [V.ref d, V.ref na, V.int i, V.int (tk : Int)]) (i41 kk), by omega, p8, by omega, nS8, hne, hzl', hz, by omega, by omega, by omega, by omega, fun vF D9 H9 hd9 hf9 hl9 k9 p9 => ?_⟩
    have gF : Good K H9 vF := .of hd9 hf9 tk12 (by omega)
    have nS9 := seqL_keep p8.isDk k9 nS8
    have k19 := (k16.trans k68).trans k9
    refine ⟨_, rfl, _, rfl, _, rfl, d, L, ns, _, 3, rfl, p9, by omega, by decide, by decide, fun r H10 r0 r1 k10 p10 => ⟨_, _, rfl, rfl, ?_⟩⟩
    obtain ⟨kj, rfl⟩ : ∃ k : Nat, r = k := ⟨r.toNat, by omega⟩
    have nS10 := seqL_keep p9.isDk k10 nS9
    refine ⟨d, L, ns, _, na, zs, 1 + kj, 2, congrArg (fun i => [V.ref d, V.ref na, V.int i, V.int 2]) (i1 kj), by omega, p10, by omega, nS10, hne, hzl', hz, by omega, by omega, (by show 1 + kj ≤ 4; omega), by omega, fun v2 D2 H11 hd2 hf2 hl2 k11 p11 => ?_⟩
    have g2 : Good K H11 v2 := .of hd2 hf2 (by decide) (by omega)
    have gF11 : Good K H11 vF := (gF.kt (kt_pen p9 k10)).kt (kt_pen p10 k11)
    have k111 := (k19.trans k10).trans k11
    have f12 : isForm 12 D2 = true := isForm_le hf2 (by decide)
    refine ⟨_, rfl, _, rfl, _, rfl, v2, D2, 12, rfl, by decide, by decide, hd2, f12, fun v3 D3 H12 hd3 hf3 lv3 s12 => ⟨le1k, fun l4 H13 s13 e13 => ?_⟩⟩
    have g3 : Good K H12 v3 := by
      refine .of hd3 (k := 12) ?_ (by decide) (by omega)
      rcases hf3 with h | ⟨_, h⟩
      · exact h.1
      · exact h
    have p13 := (p11.same s12).same s13
    have s23 := s12.trans s13
    refine ⟨l4, rfl, ⟨_, SqL.of e13⟩, fun Dl nD => ?_⟩
    have all : ∀ y ∈ [vF, v2, v3], Good K H13 y := by
      intro y hy
      simp only [List.mem_cons, List.not_mem_nil, or_false] at hy
      rcases hy with rfl | rfl | rfl
      · exact gF11.kt (Same.kt s23)
      · exact g2.kt (Same.kt s23)
      · exact g3.kt (Same.kt s13)
    have nld : l4 ≠ d := fun e => by
      obtain ⟨kvs, h⟩ := p13.isDk
      rw [← e, e13] at h
      cases h
    have nDd : Dl ≠ d := fun e => by
      obtain ⟨kvs, h⟩ := p13.isDk
      rw [← e, nD] at h
      cases h
    refine lc_it (walk_list (xs := [vF, v2, v3])) (fun i H' => Keep d H13 H' ∧ Pen K H' d L ns (5000 + 2000 * i) ∧ H' Dl = some (.lst ((List.replicate i true).map V.bl))) ⟨Same.toKeep (same_new nD _), (p13.same (same_new nD _)).mono (by omega), upd_same⟩ (fun i H' _ p => SqL.of (p.1 _ _ nld e13)) (fun i y H14 H15 hi p yy => ?_) (fun H14 p => ?_)
    · obtain ⟨rfl, hy⟩ := yy
      obtain ⟨k14, p14, e14⟩ := p
      have hi3 : i < 3 := hi
      obtain ⟨t, ft, okt, dt, tt, wt⟩ := (all y (List.mem_of_getElem? hy)).kt (kt_pen p13 k14)
      refine ⟨rfl, _, rfl, y, rfl, d, L, ns, _, y, t, rfl, p14, by omega, ft, okt, dt, tt, wt, fun H16 k16' p16 => ⟨_, k16' _ _ nDd e14, small1000 ?_, ?_, ?_, ?_⟩⟩
      · rw [List.length_map, List.length_replicate]
        omega
      · intro b o nb e
        rw [upd_ne (fun z => by rw [z, nD] at e; cases e)]
        exact (k14.trans k16') b o nb e
      · exact (p16.fresh (k14.trans k16') (p13.cells) p13.isDk nD).mono (by omega)
      · rw [upd_same, List.replicate_succ', List.map_append]
        rfl
    · obtain ⟨k14, p14, e14⟩ := p
      refine ⟨Dl, _, rfl, SqL.of e14, ?_⟩
      refine ⟨_, rfl, iteF ?_⟩
      have kF := k111.trans ((Same.toKeep s23).trans k14)
      have tabsF := tabs_keep kd1 kF (tabs.ext S1)
      have gL : Good K H14 vF := (all vF List.mem_cons_self).kt (kt_pen p13 k14)
      obtain ⟨t, ft, okt, dt, tt, wt⟩ := gL
      refine ⟨_, rfl, _, rfl, d, L, ns, _, vF, t, rfl, p14, (by show 5000 + 2000 * 3 < 2 ^ 37 + 5000; decide), ft, okt, dt, wt, tabsF, fun H20 kx20 p20 tb20 => ⟨_, rfl, iteT ?_⟩⟩
      have ft20 : Fm K H20 t vF := by
        have kt20 : KT H14 H20 := fun a o n h => by
          refine kx20 a o (fun z => ?_) (fun ps z => ?_) h
          · subst z
            obtain ⟨kvs, hd'⟩ := p14.isDk
            rw [hd'] at h
            have h := Option.some.inj h
            subst h
            rcases n with ⟨_, e⟩ | ⟨_, _, e⟩ <;> cases e
          · subst z
            rcases n with ⟨_, e⟩ | ⟨_, _, e⟩ <;> cases e
        exact kt20.fm t ft
      exact ⟨_, rfl, _, rfl, d, L, ns, _, vF, t, rfl, p20, (by show 5000 + 2000 * 3 + 5 < 2 ^ 37 + 100; decide), ft20, okt, dt, wt, tb20, fun H21 => q H21⟩
  · have gF := g6
    have nS9 := nS6
    have k19 := k16
    have p9 := p6
    refine ⟨_, rfl, _, rfl, _, rfl, d, L, ns, _, 3, rfl, p9, by omega, by decide, by decide, fun r H10 r0 r1 k10 p10 => ⟨_, _, rfl, rfl, ?_⟩⟩
    obtain ⟨kj, rfl⟩ : ∃ k : Nat, r = k := ⟨r.toNat, by omega⟩
    have nS10 := seqL_keep p9.isDk k10 nS9
    refine ⟨d, L, ns, _, na, zs, 1 + kj, 2, congrArg (fun i => [V.ref d, V.ref na, V.int i, V.int 2]) (i1 kj), by omega, p10, by omega, nS10, hne, hzl', hz, by omega, by omega, (by show 1 + kj ≤ 4; omega), by omega, fun v2 D2 H11 hd2 hf2 hl2 k11 p11 => ?_⟩
    have g2 : Good K H11 v2 := .of hd2 hf2 (by decide) (by omega)
    have gF11 : Good K H11 v1 := (gF.kt (kt_pen p9 k10)).kt (kt_pen p10 k11)
    have k111 := (k19.trans k10).trans k11
    have f12 : isForm 12 D2 = true := isForm_le hf2 (by decide)
    refine ⟨_, rfl, _, rfl, _, rfl, v2, D2, 12, rfl, by decide, by decide, hd2, f12, fun v3 D3 H12 hd3 hf3 lv3 s12 => ⟨le1k, fun l4 H13 s13 e13 => ?_⟩⟩
    have g3 : Good K H12 v3 := by
      refine .of hd3 (k := 12) ?_ (by decide) (by omega)
      rcases hf3 with h | ⟨_, h⟩
      · exact h.1
      · exact h
    have p13 := (p11.same s12).same s13
    have s23 := s12.trans s13
    refine ⟨l4, rfl, ⟨_, SqL.of e13⟩, fun Dl nD => ?_⟩
    have all : ∀ y ∈ [v1, v2, v3], Good K H13 y := by
      intro y hy
      simp only [List.mem_cons, List.not_mem_nil, or_false] at hy
      rcases hy with rfl | rfl | rfl
      · exact gF11.kt (Same.kt s23)
      · exact g2.kt (Same.kt s23)
      · exact g3.kt (Same.kt s13)
    have nld : l4 ≠ d := fun e => by
      obtain ⟨kvs, h⟩ := p13.isDk
      rw [← e, e13] at h
      cases h
    have nDd : Dl ≠ d := fun e => by
      obtain ⟨kvs, h⟩ := p13.isDk
      rw [← e, nD] at h
      cases h
    refine lc_it (walk_list (xs := [v1, v2, v3])) (fun i H' => Keep d H13 H' ∧ Pen K H' d L ns (5000 + 2000 * i) ∧ H' Dl = some (.lst ((List.replicate i true).map V.bl))) ⟨Same.toKeep (same_new nD _), (p13.same (same_new nD _)).mono (by omega), upd_same⟩ (fun i H' _ p => SqL.of (p.1 _ _ nld e13)) (fun i y H14 H15 hi p yy => ?_) (fun H14 p => ?_)
    · obtain ⟨rfl, hy⟩ := yy
      obtain ⟨k14, p14, e14⟩ := p
      have hi3 : i < 3 := hi
      obtain ⟨t, ft, okt, dt, tt, wt⟩ := (all y (List.mem_of_getElem? hy)).kt (kt_pen p13 k14)
      refine ⟨rfl, _, rfl, y, rfl, d, L, ns, _, y, t, rfl, p14, by omega, ft, okt, dt, tt, wt, fun H16 k16' p16 => ⟨_, k16' _ _ nDd e14, small1000 ?_, ?_, ?_, ?_⟩⟩
      · rw [List.length_map, List.length_replicate]
        omega
      · intro b o nb e
        rw [upd_ne (fun z => by rw [z, nD] at e; cases e)]
        exact (k14.trans k16') b o nb e
      · exact (p16.fresh (k14.trans k16') (p13.cells) p13.isDk nD).mono (by omega)
      · rw [upd_same, List.replicate_succ', List.map_append]
        rfl
    · obtain ⟨k14, p14, e14⟩ := p
      refine ⟨Dl, _, rfl, SqL.of e14, ?_⟩
      refine ⟨_, rfl, iteF ?_⟩
      have kF := k111.trans ((Same.toKeep s23).trans k14)
      have tabsF := tabs_keep kd1 kF (tabs.ext S1)
      have gL : Good K H14 v1 := (all v1 List.mem_cons_self).kt (kt_pen p13 k14)
      obtain ⟨t, ft, okt, dt, tt, wt⟩ := gL
      refine ⟨_, rfl, _, rfl, d, L, ns, _, v1, t, rfl, p14, (by show 5000 + 2000 * 3 < 2 ^ 37 + 5000; decide), ft, okt, dt, wt, tabsF, fun H20 kx20 p20 tb20 => ⟨_, rfl, iteT ?_⟩⟩
      have ft20 : Fm K H20 t v1 := by
        have kt20 : KT H14 H20 := fun a o n h => by
          refine kx20 a o (fun z => ?_) (fun ps z => ?_) h
          · subst z
            obtain ⟨kvs, hd'⟩ := p14.isDk
            rw [hd'] at h
            have h := Option.some.inj h
            subst h
            rcases n with ⟨_, e⟩ | ⟨_, _, e⟩ <;> cases e
          · subst z
            rcases n with ⟨_, e⟩ | ⟨_, _, e⟩ <;> cases e
        exact kt20.fm t ft
      exact ⟨_, rfl, _, rfl, d, L, ns, _, v1, t, rfl, p20, (by show 5000 + 2000 * 3 + 5 < 2 ^ 37 + 100; decide), ft20, okt, dt, wt, tb20, fun H21 => q H21⟩
end
end My

set_option Elab.async false
set_option linter.all false
set_option maxRecDepth 100000
namespace My
open PySem L2
section
variable {P : Program} {w : World} {K : PySem.W.Frag} {mg : Str → Option Value} {base : Heap} {f : Addr} {fd : FuncData}
theorem vac {C : CXT} {k : Nat} {ps : List Str} {sp : Sp} (no : ∀ vs H Q E, ¬ sp vs H Q E) : FnOk P w K mg base C k f fd ps sp :=
  ⟨fun vs H Q E h => absurd h (no vs H Q E), fun A outer s H args us vs Q E _ _ _ _ h => absurd h (no vs H Q E)⟩
theorem all_fits_form (T : Txt K mg) (F : Fun K "fits_form" "fits_form" sfits_form f fd) (b : Binds K fd Pfits_form []) (m : mg "fits_form" = some (.ref f)) (C : Cal P w K mg base "fits_name" 2 ["value"] (spName K)) : ∀ n : Nat, FnOk P w K mg base CX0 (2 + n) f fd Pfits_form (spForm K n)
  | 0 => vac fun vs H Q E ⟨_, k, _, h, _⟩ => Nat.not_lt_zero k h
  | n + 1 => ok_fits_form T F C ⟨f, fd, all_fits_form T F b m C n, m, F.kp, b⟩
theorem all_law_same (T : Txt K mg) (zip : mg "zip" = none) (F : Fun K "_law_same" "_law_same" s_law_same f fd) (b : Binds K fd P_law_same []) (m : mg "_law_same" = some (.ref f)) : ∀ n : Nat, FnOk P w K mg base CX0 (1 + n) f fd P_law_same (spSame K n)
  | 0 => vac fun vs H Q E ⟨_, _, _, h, _⟩ => h
  | n + 1 => ok_law_same T zip F ⟨f, fd, all_law_same T zip F b m n, m, F.kp, b⟩
theorem all_law_is_form (T : Txt K mg) (F : Fun K "_law_is_form" "_law_is_form" s_law_is_form f fd) (b : Binds K fd P_law_is_form []) (m : mg "_law_is_form" = some (.ref f)) (C : Cal P w K mg base "_law_is_name" 2 ["_law_value"] (spName K)) : ∀ n : Nat, FnOk P w K mg base CX0 (2 + n) f fd P_law_is_form (spFormL K n)
  | 0 => vac fun vs H Q E ⟨_, k, _, _, h, _⟩ => Nat.not_lt_zero k h
  | n + 1 => ok_law_is_form T F C ⟨f, fd, all_law_is_form T F b m C n, m, F.kp, b⟩
theorem all_law_depth (T : Txt K mg) (F : Fun K "_law_depth" "_law_depth" s_law_depth f fd) (b : Binds K fd P_law_depth []) (m : mg "_law_depth" = some (.ref f)) : ∀ n : Nat, FnOk P w K mg base CX0 n f fd P_law_depth (spDepth K n)
  | 0 => vac fun vs H Q E ⟨_, _, k, _, h, _⟩ => Nat.not_lt_zero k h
  | n + 1 => ok_law_depth T F ⟨f, fd, all_law_depth T F b m n, m, F.kp, b⟩
theorem all_law_shape (T : Txt K mg) (F : Fun K "_law_shape" "_law_shape" s_law_shape f fd) (b : Binds K fd P_law_shape []) (m : mg "_law_shape" = some (.ref f)) (C1 : Cal P w K mg base "_law_draw" 1 P_law_draw (spDraw K)) (C2 : Cal P w K mg base "_law_pick" 2 P_law_pick (spPick K)) : ∀ n : Nat, FnOk P w K mg base CX0 (2 + n) f fd P_law_shape (spShape K n)
  | 0 => vac fun vs H Q E ⟨_, _, _, _, _, _, _, t, _, h, _⟩ => Nat.not_lt_zero t h
  | n + 1 => ok_law_shape T F C1 C2 ⟨f, fd, all_law_shape T F b m C1 C2 n, m, F.kp, b⟩
theorem all_law_bent (T : Txt K mg) (F : Fun K "_law_bent" "_law_bent" s_law_bent f fd) (b : Binds K fd P_law_bent []) (m : mg "_law_bent" = some (.ref f)) (C1 : Cal P w K mg base "_law_draw" 1 P_law_draw (spDraw K)) (C2 : Cal P w K mg base "_law_pick" 2 P_law_pick (spPick K)) (C3 : Cal P w K mg base "_law_bent_name" 3 P_law_bent_name (spBentName K)) : ∀ n : Nat, FnOk P w K mg base CX0 (3 + n) f fd P_law_bent (spBent K n)
  | 0 => vac fun vs H Q E ⟨_, _, _, _, _, _, k, _, h, _⟩ => Nat.not_lt_zero k h
  | n + 1 => ok_law_bent T F C1 C2 C3 ⟨f, fd, all_law_bent T F b m C1 C2 C3 n, m, F.kp, b⟩
theorem all_written {f2 : Addr} {fd2 : FuncData} (Y : TxtS K mg w) (F : Fun K "written" "written" swritten f fd) (b : Binds K fd Nis_leaf []) (m : mg "written" = some (.ref f)) (F2 : Fun K "written_half" "written_half" swritten_half f2 fd2) (b2 : Binds K fd2 Nis_leaf []) (m2 : mg "written_half" = some (.ref f2)) (C : Cal P w K mg base "is_leaf" 1 Nis_leaf (spLeafT K)) :
    ∀ n : Nat, FnOk P w K mg base CX0 (1 + 2 * n) f fd Nis_leaf (spWritten K false n)
  | 0 => vac fun vs H Q E ⟨_, _, _, _, h, _⟩ => Nat.not_lt_zero _ h
  | n + 1 => okwritten Y F ⟨f2, fd2, okwritten_half (k := 2 * n) C F2 ⟨f, fd, all_written Y F b m F2 b2 m2 C n, m, F.kp, b⟩, m2, F2.kp, b2⟩
theorem all_law_form_text (T : Txt K mg) (F : Fun K "_law_form_text" "_law_form_text" s_law_form_text f fd) (b : Binds K fd P_law_form_text []) (m : mg "_law_form_text" = some (.ref f)) : ∀ n : Nat, FnOk P w K mg base CX0 (1 + n) f fd P_law_form_text (spLText K n)
  | 0 => vac fun vs H Q E ⟨_, _, _, _, _, h, _⟩ => Nat.not_lt_zero _ h
  | n + 1 => ok_law_form_text T F ⟨f, fd, all_law_form_text T F b m n, m, F.kp, b⟩
theorem all_law_tokens (T : Txt K mg) (F : Fun K "_law_tokens" "_law_tokens" s_law_tokens f fd) (b : Binds K fd P_law_form_text []) (m : mg "_law_tokens" = some (.ref f)) : ∀ n : Nat, FnOk P w K mg base CX0 (1 + n) f fd P_law_form_text (spTokens K n)
  | 0 => vac fun vs H Q E ⟨_, _, _, _, _, h, _⟩ => Nat.not_lt_zero _ h
  | n + 1 => ok_law_tokens T F ⟨f, fd, all_law_tokens T F b m n, m, F.kp, b⟩
theorem sc_i3 : FnScope ["self", "most"] ["self", "most"] (defScope (meth 4 0)) := ⟨rfl, rfl, rfl, by decide +kernel, rfl, by decide +kernel, by decide +kernel⟩
theorem ok_i3 (C : Addr) (F : Fun K "__init__" "TooDeep.__init__" (meth 4 0) f fd) : FnOk P w K mg base CX0 1 f fd ["self", "most"] (spInit K C "most") := by
  refine F.ok sc_i3 (fun vs H Q E h => ?_) (fun cdv A outer s H vs Q E hr h => ?_)
  · obtain ⟨a, v, rfl, _⟩ := h
    rfl
  obtain ⟨a, v, rfl, ea, T, no, q⟩ := h
  refine ⟨_, pss_one (ps_ost (pv 0) (pv 1)), ?_⟩
  exact ⟨v, rfl, _, rfl, a, C, rfl, T, no, .inl ⟨ea, fun dx n ne => q dx n ne⟩⟩
abbrev Pis_leaf : List Str := Nis_leaf
abbrev Pcheck_form : List Str := Nis_leaf
abbrev Pcheck_text : List Str := Ncheck_text
abbrev Pwritten : List Str := Nis_leaf
abbrev Pwritten_half : List Str := Nis_leaf
abbrev Pform_text : List Str := Nis_leaf
abbrev Pread_form : List Str := Ncheck_text
abbrev Ptold_form : List Str := Ntold_form
abbrev P_law_tokens : List Str := P_law_form_text
theorem kd_eq {a : Addr} {z z' : Str} {v : V} (e : z = z') (h : KDct K w a z' v) : KDct K w a z v := by rw [e]; exact h
end
/-- whether an error of the class at A is what «except B» names -/
theorem exm_two {K : PySem.W.Frag} {A B : Addr} {b : Bool} (h1 : PySem.W.subIn K (.ref B) (.type "BaseException") = some true) (h2 : PySem.W.isClsIn K B = true) (h3 : PySem.W.typeIn K (.ref B) = some (.type "type")) (h4 : PySem.W.subIn K (.ref A) (.ref B) = some b) : PySem.W.exmOne K (.ref A) (.ref B) = some b := by
  have e1 : (PySem.W.subIn K (.ref B) (.type "BaseException") == some true) = true := by rw [h1] <;> rfl
  have e2 : ((PySem.W.clsIn K B).isSome && PySem.W.typeIn K (.ref B) == some (.type "type")) = true := by
    have h2' : (PySem.W.clsIn K B).isSome = true := h2
    rw [h2', h3] <;> rfl
  show (if (PySem.W.subIn K (.ref B) (.type "BaseException") == some true) = true then (if ((PySem.W.clsIn K B).isSome && PySem.W.typeIn K (.ref B) == some (.type "type")) = true then PySem.W.subIn K (.ref A) (.ref B) else none) else none) = some b
  rw [if_pos e1, if_pos e2]
  exact h4
set_option maxHeartbeats 0 in
theorem all_mk {l : PySem.W.OpenLaw} {w : World} {K : PySem.W.Frag} {h : Heap} {mg : Str → Option Value} {fa f1 f2 f3 f4 f5 f6 f7 f8 f9 f10 f11 f12 f13 f14 f15 f16 f17 f18 f19 f20 f21 f22 f23 f24 f25 f26 f27 f28 f29 f30 f31 f32 f33 f34 f35 f36 f37 f38 f39 f40 f41 f42 f43 f44 f45 f46 f47 f48 aL aH aS aW CR CW EB EN ED EM cc1 cc2 Pt1 Pt2 : Addr} (X : K.In h) (G : h.Ns mainGlobals mg) (hfa : mg "law" = some (.ref fa))
    {od1 an1 od2 an2 od3 an3 od4 an4 od5 an5 od6 an6 od7 an7 od8 an8 od9 an9 od10 an10 od11 an11 od12 an12 od13 an13 od14 an14 od15 an15 od16 an16 od17 an17 od18 an18 od19 an19 od20 an20 od21 an21 od22 an22 od23 an23 od24 an24 od25 an25 od26 an26 od27 an27 od28 an28 od29 an29 od30 an30 od31 an31 od32 an32 od33 an33 od34 an34 od35 an35 od36 an36 od37 an37 od38 an38 od39 an39 od40 an40 od41 an41 od42 an42 od43 an43 od44 an44 od45 an45 od46 an46 od47 an47 od48 an48 odL odH : Option Addr} {sl1 sl2 sl3 sl4 sl5 sl6 sl7 sl8 sl9 sl10 sl11 sl12 sl13 sl14 sl15 sl16 sl17 sl18 sl19 sl20 sl21 sl22 sl23 sl24 sl25 sl26 sl27 sl28 sl29 sl30 sl31 sl32 sl33 sl34 sl35 sl36 sl37 sl38 sl39 sl40 sl41 sl42 sl43 sl44 sl45 sl46 sl47 sl48 slL slH : Array (Option Value)} {oc1 kV1 dc1 pm1 cd1 ct1 oc2 kV2 dc2 pm2 cd2 ct2 oc3 kV3 dc3 pm3 cd3 ct3 oc4 kV4 dc4 pm4 cd4 ct4 oc5 kV5 dc5 pm5 cd5 ct5 oc6 kV6 dc6 pm6 cd6 ct6 oc7 kV7 dc7 pm7 cd7 ct7 oc8 kV8 dc8 pm8 cd8 ct8 oc9 kV9 dc9 pm9 cd9 ct9 oc10 kV10 dc10 pm10 cd10 ct10 oc11 kV11 dc11 pm11 cd11 ct11 oc12 kV12 dc12 pm12 cd12 ct12 oc13 kV13 dc13 pm13 cd13 ct13 oc14 kV14 dc14 pm14 cd14 ct14 oc15 kV15 dc15 pm15 cd15 ct15 oc16 kV16 dc16 pm16 cd16 ct16 oc17 kV17 dc17 pm17 cd17 ct17 oc18 kV18 dc18 pm18 cd18 ct18 oc19 kV19 dc19 pm19 cd19 ct19 oc20 kV20 dc20 pm20 cd20 ct20 oc21 kV21 dc21 pm21 cd21 ct21 oc22 kV22 dc22 pm22 cd22 ct22 oc23 kV23 dc23 pm23 cd23 ct23 oc24 kV24 dc24 pm24 cd24 ct24 oc25 kV25 dc25 pm25 cd25 ct25 oc26 kV26 dc26 pm26 cd26 ct26 oc27 kV27 dc27 pm27 cd27 ct27 oc28 kV28 dc28 pm28 cd28 ct28 oc29 kV29 dc29 pm29 cd29 ct29 oc30 kV30 dc30 pm30 cd30 ct30 oc31 kV31 dc31 pm31 cd31 ct31 oc32 kV32 dc32 pm32 cd32 ct32 oc33 kV33 dc33 pm33 cd33 ct33 oc34 kV34 dc34 pm34 cd34 ct34 oc35 kV35 dc35 pm35 cd35 ct35 oc36 kV36 dc36 pm36 ct36 oc37 kV37 dc37 pm37 ct37 oc38 kV38 dc38 pm38 cd38 ct38 oc39 kV39 dc39 pm39 cd39 ct39 oc40 kV40 dc40 pm40 cd40 ct40 oc41 kV41 dc41 pm41 cd41 ct41 oc42 kV42 dc42 pm42 cd42 ct42 oc43 kV43 dc43 pm43 cd43 ct43 oc44 kV44 dc44 pm44 cd44 ct44 oc45 kV45 dc45 pm45 cd45 ct45 oc46 kV46 dc46 pm46 cd46 ct46 oc47 kV47 dc47 pm47 cd47 ct47 oc48 kV48 dc48 pm48 cd48 ct48 : Value} {tl td tn tp u1 u2 u3 u4 u5 u6 v5 v6 v7 v8 : Tok} {nL nH nS nW : Nat} {esS esW : Array DictEntry}
    {nmB qB : Str} {NB : Addr} {bsB bmB : List Value} {snB : List Str} {subB : List Value} {abB : Bool} {colB : Option Bool} {ddB : Option Addr} {mz0B mz1B mz2B mz3B mz5B : Option Value}
    {nmD qD : Str} {ND : Addr} {bsD bmD : List Value} {snD : List Str} {subD : List Value} {abD : Bool} {colD : Option Bool} {ddD : Option Addr} {mz0D mz1D mz2D mz3D mz5D : Option Value}
    (tP1 : h.get? Pt1 = some { cls := .none, data := .fields #[] })
    (tP2 : h.get? Pt2 = some { cls := .none, data := .fields #[] })
    (tD : Pt1 ≠ Pt2)
    (a1 : PySem.W.nsIn K mainGlobals "fits_name" = some (some (.ref f1)))
    (l1 : K.lookup f1 = some ⟨oc1, od1, .func (PySem.W.fnOf "fits_name" "fits_name" (defArgs sfits_name) (defBody sfits_name) (defScope sfits_name) .none kV1 dc1 pm1 an1 cd1 ct1), sl1⟩)
    (c1 : PySem.W.codeIn K cd1 "fits_name" = true)
    (k1 : PySem.W.keepIn K (.ref f1) = true)
    (a2 : PySem.W.nsIn K mainGlobals "fits_form" = some (some (.ref f2)))
    (l2 : K.lookup f2 = some ⟨oc2, od2, .func (PySem.W.fnOf "fits_form" "fits_form" (defArgs sfits_form) (defBody sfits_form) (defScope sfits_form) .none kV2 dc2 pm2 an2 cd2 ct2), sl2⟩)
    (c2 : PySem.W.codeIn K cd2 "fits_form" = true)
    (k2 : PySem.W.keepIn K (.ref f2) = true)
    (a3 : PySem.W.nsIn K mainGlobals "is_leaf" = some (some (.ref f3)))
    (l3 : K.lookup f3 = some ⟨oc3, od3, .func (PySem.W.fnOf "is_leaf" "is_leaf" (defArgs sis_leaf) (defBody sis_leaf) (defScope sis_leaf) .none kV3 dc3 pm3 an3 cd3 ct3), sl3⟩)
    (c3 : PySem.W.codeIn K cd3 "is_leaf" = true)
    (k3 : PySem.W.keepIn K (.ref f3) = true)
    (a4 : PySem.W.nsIn K mainGlobals "check_form" = some (some (.ref f4)))
    (l4 : K.lookup f4 = some ⟨oc4, od4, .func (PySem.W.fnOf "check_form" "check_form" (defArgs scheck_form) (defBody scheck_form) (defScope scheck_form) .none kV4 dc4 pm4 an4 cd4 ct4), sl4⟩)
    (c4 : PySem.W.codeIn K cd4 "check_form" = true)
    (k4 : PySem.W.keepIn K (.ref f4) = true)
    (a5 : PySem.W.nsIn K mainGlobals "check_text" = some (some (.ref f5)))
    (l5 : K.lookup f5 = some ⟨oc5, od5, .func (PySem.W.fnOf "check_text" "check_text" (defArgs scheck_text) (defBody scheck_text) (defScope scheck_text) .none kV5 dc5 pm5 an5 cd5 ct5), sl5⟩)
    (c5 : PySem.W.codeIn K cd5 "check_text" = true)
    (k5 : PySem.W.keepIn K (.ref f5) = true)
    (a6 : PySem.W.nsIn K mainGlobals "take_leaf" = some (some (.ref f6)))
    (l6 : K.lookup f6 = some ⟨oc6, od6, .func (PySem.W.fnOf "take_leaf" "take_leaf" (defArgs stake_leaf) (defBody stake_leaf) (defScope stake_leaf) .none kV6 dc6 pm6 an6 cd6 ct6), sl6⟩)
    (c6 : PySem.W.codeIn K cd6 "take_leaf" = true)
    (k6 : PySem.W.keepIn K (.ref f6) = true)
    (a7 : PySem.W.nsIn K mainGlobals "take_sign" = some (some (.ref f7)))
    (l7 : K.lookup f7 = some ⟨oc7, od7, .func (PySem.W.fnOf "take_sign" "take_sign" (defArgs stake_sign) (defBody stake_sign) (defScope stake_sign) .none kV7 dc7 pm7 an7 cd7 ct7), sl7⟩)
    (c7 : PySem.W.codeIn K cd7 "take_sign" = true)
    (k7 : PySem.W.keepIn K (.ref f7) = true)
    (a8 : PySem.W.nsIn K mainGlobals "grouped" = some (some (.ref f8)))
    (l8 : K.lookup f8 = some ⟨oc8, od8, .func (PySem.W.fnOf "grouped" "grouped" (defArgs sgrouped) (defBody sgrouped) (defScope sgrouped) .none kV8 dc8 pm8 an8 cd8 ct8), sl8⟩)
    (c8 : PySem.W.codeIn K cd8 "grouped" = true)
    (k8 : PySem.W.keepIn K (.ref f8) = true)
    (a9 : PySem.W.nsIn K mainGlobals "take_halved" = some (some (.ref f9)))
    (l9 : K.lookup f9 = some ⟨oc9, od9, .func (PySem.W.fnOf "take_halved" "take_halved" (defArgs stake_halved) (defBody stake_halved) (defScope stake_halved) .none kV9 dc9 pm9 an9 cd9 ct9), sl9⟩)
    (c9 : PySem.W.codeIn K cd9 "take_halved" = true)
    (k9 : PySem.W.keepIn K (.ref f9) = true)
    (a10 : PySem.W.nsIn K mainGlobals "take_form" = some (some (.ref f10)))
    (l10 : K.lookup f10 = some ⟨oc10, od10, .func (PySem.W.fnOf "take_form" "take_form" (defArgs stake_form) (defBody stake_form) (defScope stake_form) .none kV10 dc10 pm10 an10 cd10 ct10), sl10⟩)
    (c10 : PySem.W.codeIn K cd10 "take_form" = true)
    (k10 : PySem.W.keepIn K (.ref f10) = true)
    (a11 : PySem.W.nsIn K mainGlobals "told_form" = some (some (.ref f11)))
    (l11 : K.lookup f11 = some ⟨oc11, od11, .func (PySem.W.fnOf "told_form" "told_form" (defArgs stold_form) (defBody stold_form) (defScope stold_form) .none kV11 dc11 pm11 an11 cd11 ct11), sl11⟩)
    (c11 : PySem.W.codeIn K cd11 "told_form" = true)
    (k11 : PySem.W.keepIn K (.ref f11) = true)
    (a12 : PySem.W.nsIn K mainGlobals "written" = some (some (.ref f12)))
    (l12 : K.lookup f12 = some ⟨oc12, od12, .func (PySem.W.fnOf "written" "written" (defArgs swritten) (defBody swritten) (defScope swritten) .none kV12 dc12 pm12 an12 cd12 ct12), sl12⟩)
    (c12 : PySem.W.codeIn K cd12 "written" = true)
    (k12 : PySem.W.keepIn K (.ref f12) = true)
    (a13 : PySem.W.nsIn K mainGlobals "written_half" = some (some (.ref f13)))
    (l13 : K.lookup f13 = some ⟨oc13, od13, .func (PySem.W.fnOf "written_half" "written_half" (defArgs swritten_half) (defBody swritten_half) (defScope swritten_half) .none kV13 dc13 pm13 an13 cd13 ct13), sl13⟩)
    (c13 : PySem.W.codeIn K cd13 "written_half" = true)
    (k13 : PySem.W.keepIn K (.ref f13) = true)
    (a14 : PySem.W.nsIn K mainGlobals "form_text" = some (some (.ref f14)))
    (l14 : K.lookup f14 = some ⟨oc14, od14, .func (PySem.W.fnOf "form_text" "form_text" (defArgs sform_text) (defBody sform_text) (defScope sform_text) .none kV14 dc14 pm14 an14 cd14 ct14), sl14⟩)
    (c14 : PySem.W.codeIn K cd14 "form_text" = true)
    (k14 : PySem.W.keepIn K (.ref f14) = true)
    (a15 : PySem.W.nsIn K mainGlobals "read_form" = some (some (.ref f15)))
    (l15 : K.lookup f15 = some ⟨oc15, od15, .func (PySem.W.fnOf "read_form" "read_form" (defArgs sread_form) (defBody sread_form) (defScope sread_form) .none kV15 dc15 pm15 an15 cd15 ct15), sl15⟩)
    (c15 : PySem.W.codeIn K cd15 "read_form" = true)
    (k15 : PySem.W.keepIn K (.ref f15) = true)
    (a16 : PySem.W.nsIn K mainGlobals "_law_begin" = some (some (.ref f16)))
    (l16 : K.lookup f16 = some ⟨oc16, od16, .func (PySem.W.fnOf "_law_begin" "_law_begin" (defArgs s_law_begin) (defBody s_law_begin) (defScope s_law_begin) .none kV16 dc16 pm16 an16 cd16 ct16), sl16⟩)
    (c16 : PySem.W.codeIn K cd16 "_law_begin" = true)
    (k16 : PySem.W.keepIn K (.ref f16) = true)
    (a17 : PySem.W.nsIn K mainGlobals "_law_draw" = some (some (.ref f17)))
    (l17 : K.lookup f17 = some ⟨oc17, od17, .func (PySem.W.fnOf "_law_draw" "_law_draw" (defArgs s_law_draw) (defBody s_law_draw) (defScope s_law_draw) .none kV17 dc17 pm17 an17 cd17 ct17), sl17⟩)
    (c17 : PySem.W.codeIn K cd17 "_law_draw" = true)
    (k17 : PySem.W.keepIn K (.ref f17) = true)
    (a18 : PySem.W.nsIn K mainGlobals "_law_pick" = some (some (.ref f18)))
    (l18 : K.lookup f18 = some ⟨oc18, od18, .func (PySem.W.fnOf "_law_pick" "_law_pick" (defArgs s_law_pick) (defBody s_law_pick) (defScope s_law_pick) .none kV18 dc18 pm18 an18 cd18 ct18), sl18⟩)
    (c18 : PySem.W.codeIn K cd18 "_law_pick" = true)
    (k18 : PySem.W.keepIn K (.ref f18) = true)
    (a19 : PySem.W.nsIn K mainGlobals "_law_depth" = some (some (.ref f19)))
    (l19 : K.lookup f19 = some ⟨oc19, od19, .func (PySem.W.fnOf "_law_depth" "_law_depth" (defArgs s_law_depth) (defBody s_law_depth) (defScope s_law_depth) .none kV19 dc19 pm19 an19 cd19 ct19), sl19⟩)
    (c19 : PySem.W.codeIn K cd19 "_law_depth" = true)
    (k19 : PySem.W.keepIn K (.ref f19) = true)
    (a20 : PySem.W.nsIn K mainGlobals "_law_form_text" = some (some (.ref f20)))
    (l20 : K.lookup f20 = some ⟨oc20, od20, .func (PySem.W.fnOf "_law_form_text" "_law_form_text" (defArgs s_law_form_text) (defBody s_law_form_text) (defScope s_law_form_text) .none kV20 dc20 pm20 an20 cd20 ct20), sl20⟩)
    (c20 : PySem.W.codeIn K cd20 "_law_form_text" = true)
    (k20 : PySem.W.keepIn K (.ref f20) = true)
    (a21 : PySem.W.nsIn K mainGlobals "_law_same" = some (some (.ref f21)))
    (l21 : K.lookup f21 = some ⟨oc21, od21, .func (PySem.W.fnOf "_law_same" "_law_same" (defArgs s_law_same) (defBody s_law_same) (defScope s_law_same) .none kV21 dc21 pm21 an21 cd21 ct21), sl21⟩)
    (c21 : PySem.W.codeIn K cd21 "_law_same" = true)
    (k21 : PySem.W.keepIn K (.ref f21) = true)
    (a22 : PySem.W.nsIn K mainGlobals "_law_fault" = some (some (.ref f22)))
    (l22 : K.lookup f22 = some ⟨oc22, od22, .func (PySem.W.fnOf "_law_fault" "_law_fault" (defArgs s_law_fault) (defBody s_law_fault) (defScope s_law_fault) .none kV22 dc22 pm22 an22 cd22 ct22), sl22⟩)
    (c22 : PySem.W.codeIn K cd22 "_law_fault" = true)
    (k22 : PySem.W.keepIn K (.ref f22) = true)
    (a23 : PySem.W.nsIn K mainGlobals "_law_faults" = some (some (.ref f23)))
    (l23 : K.lookup f23 = some ⟨oc23, od23, .func (PySem.W.fnOf "_law_faults" "_law_faults" (defArgs s_law_faults) (defBody s_law_faults) (defScope s_law_faults) .none kV23 dc23 pm23 an23 cd23 ct23), sl23⟩)
    (c23 : PySem.W.codeIn K cd23 "_law_faults" = true)
    (k23 : PySem.W.keepIn K (.ref f23) = true)
    (a24 : PySem.W.nsIn K mainGlobals "_law_name" = some (some (.ref f24)))
    (l24 : K.lookup f24 = some ⟨oc24, od24, .func (PySem.W.fnOf "_law_name" "_law_name" (defArgs s_law_name) (defBody s_law_name) (defScope s_law_name) .none kV24 dc24 pm24 an24 cd24 ct24), sl24⟩)
    (c24 : PySem.W.codeIn K cd24 "_law_name" = true)
    (k24 : PySem.W.keepIn K (.ref f24) = true)
    (a25 : PySem.W.nsIn K mainGlobals "_law_names" = some (some (.ref f25)))
    (l25 : K.lookup f25 = some ⟨oc25, od25, .func (PySem.W.fnOf "_law_names" "_law_names" (defArgs s_law_names) (defBody s_law_names) (defScope s_law_names) .none kV25 dc25 pm25 an25 cd25 ct25), sl25⟩)
    (c25 : PySem.W.codeIn K cd25 "_law_names" = true)
    (k25 : PySem.W.keepIn K (.ref f25) = true)
    (a26 : PySem.W.nsIn K mainGlobals "_law_shape" = some (some (.ref f26)))
    (l26 : K.lookup f26 = some ⟨oc26, od26, .func (PySem.W.fnOf "_law_shape" "_law_shape" (defArgs s_law_shape) (defBody s_law_shape) (defScope s_law_shape) .none kV26 dc26 pm26 an26 cd26 ct26), sl26⟩)
    (c26 : PySem.W.codeIn K cd26 "_law_shape" = true)
    (k26 : PySem.W.keepIn K (.ref f26) = true)
    (a27 : PySem.W.nsIn K mainGlobals "_law_is_name" = some (some (.ref f27)))
    (l27 : K.lookup f27 = some ⟨oc27, od27, .func (PySem.W.fnOf "_law_is_name" "_law_is_name" (defArgs s_law_is_name) (defBody s_law_is_name) (defScope s_law_is_name) .none kV27 dc27 pm27 an27 cd27 ct27), sl27⟩)
    (c27 : PySem.W.codeIn K cd27 "_law_is_name" = true)
    (k27 : PySem.W.keepIn K (.ref f27) = true)
    (a28 : PySem.W.nsIn K mainGlobals "_law_is_form" = some (some (.ref f28)))
    (l28 : K.lookup f28 = some ⟨oc28, od28, .func (PySem.W.fnOf "_law_is_form" "_law_is_form" (defArgs s_law_is_form) (defBody s_law_is_form) (defScope s_law_is_form) .none kV28 dc28 pm28 an28 cd28 ct28), sl28⟩)
    (c28 : PySem.W.codeIn K cd28 "_law_is_form" = true)
    (k28 : PySem.W.keepIn K (.ref f28) = true)
    (a29 : PySem.W.nsIn K mainGlobals "_law_bent_name" = some (some (.ref f29)))
    (l29 : K.lookup f29 = some ⟨oc29, od29, .func (PySem.W.fnOf "_law_bent_name" "_law_bent_name" (defArgs s_law_bent_name) (defBody s_law_bent_name) (defScope s_law_bent_name) .none kV29 dc29 pm29 an29 cd29 ct29), sl29⟩)
    (c29 : PySem.W.codeIn K cd29 "_law_bent_name" = true)
    (k29 : PySem.W.keepIn K (.ref f29) = true)
    (a30 : PySem.W.nsIn K mainGlobals "_law_bent" = some (some (.ref f30)))
    (l30 : K.lookup f30 = some ⟨oc30, od30, .func (PySem.W.fnOf "_law_bent" "_law_bent" (defArgs s_law_bent) (defBody s_law_bent) (defScope s_law_bent) .none kV30 dc30 pm30 an30 cd30 ct30), sl30⟩)
    (c30 : PySem.W.codeIn K cd30 "_law_bent" = true)
    (k30 : PySem.W.keepIn K (.ref f30) = true)
    (a31 : PySem.W.nsIn K mainGlobals "_law_deeper" = some (some (.ref f31)))
    (l31 : K.lookup f31 = some ⟨oc31, od31, .func (PySem.W.fnOf "_law_deeper" "_law_deeper" (defArgs s_law_deeper) (defBody s_law_deeper) (defScope s_law_deeper) .none kV31 dc31 pm31 an31 cd31 ct31), sl31⟩)
    (c31 : PySem.W.codeIn K cd31 "_law_deeper" = true)
    (k31 : PySem.W.keepIn K (.ref f31) = true)
    (a32 : PySem.W.nsIn K mainGlobals "_law_no_form" = some (some (.ref f32)))
    (l32 : K.lookup f32 = some ⟨oc32, od32, .func (PySem.W.fnOf "_law_no_form" "_law_no_form" (defArgs s_law_no_form) (defBody s_law_no_form) (defScope s_law_no_form) .none kV32 dc32 pm32 an32 cd32 ct32), sl32⟩)
    (c32 : PySem.W.codeIn K cd32 "_law_no_form" = true)
    (k32 : PySem.W.keepIn K (.ref f32) = true)
    (a33 : PySem.W.nsIn K mainGlobals "_law_tokens" = some (some (.ref f33)))
    (l33 : K.lookup f33 = some ⟨oc33, od33, .func (PySem.W.fnOf "_law_tokens" "_law_tokens" (defArgs s_law_tokens) (defBody s_law_tokens) (defScope s_law_tokens) .none kV33 dc33 pm33 an33 cd33 ct33), sl33⟩)
    (c33 : PySem.W.codeIn K cd33 "_law_tokens" = true)
    (k33 : PySem.W.keepIn K (.ref f33) = true)
    (a34 : PySem.W.nsIn K mainGlobals "_law_spaced" = some (some (.ref f34)))
    (l34 : K.lookup f34 = some ⟨oc34, od34, .func (PySem.W.fnOf "_law_spaced" "_law_spaced" (defArgs s_law_spaced) (defBody s_law_spaced) (defScope s_law_spaced) .none kV34 dc34 pm34 an34 cd34 ct34), sl34⟩)
    (c34 : PySem.W.codeIn K cd34 "_law_spaced" = true)
    (k34 : PySem.W.keepIn K (.ref f34) = true)
    (a35 : PySem.W.nsIn K mainGlobals "_law_text_right" = some (some (.ref f35)))
    (l35 : K.lookup f35 = some ⟨oc35, od35, .func (PySem.W.fnOf "_law_text_right" "_law_text_right" (defArgs s_law_text_right) (defBody s_law_text_right) (defScope s_law_text_right) .none kV35 dc35 pm35 an35 cd35 ct35), sl35⟩)
    (c35 : PySem.W.codeIn K cd35 "_law_text_right" = true)
    (k35 : PySem.W.keepIn K (.ref f35) = true)
    (a36 : PySem.W.nsIn K mainGlobals "_law_too_deep" = some (some (.ref f36)))
    (l36 : K.lookup f36 = some ⟨oc36, od36, .func (PySem.W.fnOf "_law_too_deep" "_law_too_deep" (defArgs s_law_too_deep) (defBody s_law_too_deep) (defScope s_law_too_deep) .none kV36 dc36 pm36 an36 (.ref cc1) ct36), sl36⟩)
    (c36 : PySem.W.codeIn K (.ref cc1) "_law_too_deep" = true)
    (k36 : PySem.W.keepIn K (.ref f36) = true)
    (a37 : PySem.W.nsIn K mainGlobals "_law_refuses" = some (some (.ref f37)))
    (l37 : K.lookup f37 = some ⟨oc37, od37, .func (PySem.W.fnOf "_law_refuses" "_law_refuses" (defArgs s_law_refuses) (defBody s_law_refuses) (defScope s_law_refuses) .none kV37 dc37 pm37 an37 (.ref cc2) ct37), sl37⟩)
    (c37 : PySem.W.codeIn K (.ref cc2) "_law_refuses" = true)
    (k37 : PySem.W.keepIn K (.ref f37) = true)
    (a38 : PySem.W.nsIn K mainGlobals "law" = some (some (.ref f38)))
    (l38 : K.lookup f38 = some ⟨oc38, od38, .func (PySem.W.fnOf "law" "law" (defArgs slaw) (defBody slaw) (defScope slaw) .none kV38 dc38 pm38 an38 cd38 ct38), sl38⟩)
    (c38 : PySem.W.codeIn K cd38 "law" = true)
    (k38 : PySem.W.keepIn K (.ref f38) = true)
    (tN1 : K.lookup Pt1 = none)
    (tC1 : PySem.W.codeHdIn K cc1 Pt1 = true)
    (tN2 : K.lookup Pt2 = none)
    (tC2 : PySem.W.codeHdIn K cc2 Pt2 = true)
    (gCR : PySem.W.nsIn K mainGlobals "Reader" = some (some (.ref CR)))
    (pgCR : PySem.W.plainGet K CR Str.empty = true)
    (hdCR : PySem.W.hasDictIn K CR = true)
    (poCR : PySem.W.plainOver K CR = true)
    (saCR : PySem.W.findIn K (.ref CR) "__setattr__" = some (some (.builtin "object.__setattr__")))
    (mkCR : PySem.W.makesIn K CR = true)
    (kpCR : PySem.W.keepIn K (.ref CR) = true)
    (gCW : PySem.W.nsIn K mainGlobals "Written" = some (some (.ref CW)))
    (pgCW : PySem.W.plainGet K CW Str.empty = true)
    (hdCW : PySem.W.hasDictIn K CW = true)
    (poCW : PySem.W.plainOver K CW = true)
    (saCW : PySem.W.findIn K (.ref CW) "__setattr__" = some (some (.builtin "object.__setattr__")))
    (mkCW : PySem.W.makesIn K CW = true)
    (kpCW : PySem.W.keepIn K (.ref CW) = true)
    (nR0 : PySem.W.findIn K (.ref CR) "at" = some none)
    (nR1 : PySem.W.findIn K (.ref CR) "text" = some none)
    (nW0 : PySem.W.findIn K (.ref CW) "form" = some none)
    (nW1 : PySem.W.findIn K (.ref CW) "depth" = some none)
    (nW2 : PySem.W.findIn K (.ref CW) "leaves" = some none)
    (gEB : PySem.W.nsIn K mainGlobals "BadValue" = some (some (.ref EB)))
    (gaEB : PySem.W.findIn K (.ref EB) "__getattribute__" = some (some (.builtin "BaseException.__getattribute__")))
    (ggEB : PySem.W.findIn K (.ref EB) "__getattr__" = some none)
    (exEB : PySem.W.subIn K (.ref EB) (.type "BaseException") = some true)
    (hdEB : PySem.W.hasDictIn K EB = true)
    (noEB : PySem.W.findIn K (.ref EB) "value" = some none)
    (isEB : PySem.W.isClsIn K EB = true)
    (tyEB : PySem.W.typeIn K (.ref EB) = some (.type "type"))
    (gEN : PySem.W.nsIn K mainGlobals "NotAText" = some (some (.ref EN)))
    (gaEN : PySem.W.findIn K (.ref EN) "__getattribute__" = some (some (.builtin "BaseException.__getattribute__")))
    (ggEN : PySem.W.findIn K (.ref EN) "__getattr__" = some none)
    (exEN : PySem.W.subIn K (.ref EN) (.type "BaseException") = some true)
    (hdEN : PySem.W.hasDictIn K EN = true)
    (noEN : PySem.W.findIn K (.ref EN) "at" = some none)
    (isEN : PySem.W.isClsIn K EN = true)
    (tyEN : PySem.W.typeIn K (.ref EN) = some (.type "type"))
    (gED : PySem.W.nsIn K mainGlobals "TooDeep" = some (some (.ref ED)))
    (gaED : PySem.W.findIn K (.ref ED) "__getattribute__" = some (some (.builtin "BaseException.__getattribute__")))
    (ggED : PySem.W.findIn K (.ref ED) "__getattr__" = some none)
    (exED : PySem.W.subIn K (.ref ED) (.type "BaseException") = some true)
    (hdED : PySem.W.hasDictIn K ED = true)
    (noED : PySem.W.findIn K (.ref ED) "most" = some none)
    (isED : PySem.W.isClsIn K ED = true)
    (tyED : PySem.W.typeIn K (.ref ED) = some (.type "type"))
    (gEM : PySem.W.nsIn K mainGlobals "TooMany" = some (some (.ref EM)))
    (gaEM : PySem.W.findIn K (.ref EM) "__getattribute__" = some (some (.builtin "BaseException.__getattribute__")))
    (ggEM : PySem.W.findIn K (.ref EM) "__getattr__" = some none)
    (exEM : PySem.W.subIn K (.ref EM) (.type "BaseException") = some true)
    (hdEM : PySem.W.hasDictIn K EM = true)
    (noEM : PySem.W.findIn K (.ref EM) "most" = some none)
    (isEM : PySem.W.isClsIn K EM = true)
    (tyEM : PySem.W.typeIn K (.ref EM) = some (.type "type"))
    (sBB : PySem.W.subIn K (.ref EB) (.ref EB) = some true)
    (sNB : PySem.W.subIn K (.ref EN) (.ref EB) = some false)
    (sNN : PySem.W.subIn K (.ref EN) (.ref EN) = some true)
    (sDB : PySem.W.subIn K (.ref ED) (.ref EB) = some false)
    (sDN : PySem.W.subIn K (.ref ED) (.ref EN) = some false)
    (sDD : PySem.W.subIn K (.ref ED) (.ref ED) = some true)
    (sMB : PySem.W.subIn K (.ref EM) (.ref EB) = some false)
    (sMN : PySem.W.subIn K (.ref EM) (.ref EN) = some false)
    (sMD : PySem.W.subIn K (.ref EM) (.ref ED) = some false)
    (sMM : PySem.W.subIn K (.ref EM) (.ref EM) = some true)
    (xB : K.lookup EB = some (excClassObj nmB qB EB NB bsB bmB true snB subB abB colB ddB mz0B mz1B mz2B mz3B mz5B "ValueError.__new__"))
    (rB : PySem.HandSPX.refsVE bmB = true)
    (saB : PySem.W.findIn K (.ref EB) "__setattr__" = some (some (.builtin "object.__setattr__")))
    (kB : PySem.W.keepIn K (.ref EB) = true)
    (xD : K.lookup ED = some (excClassObj nmD qD ED ND bsD bmD true snD subD abD colD ddD mz0D mz1D mz2D mz3D mz5D "ValueError.__new__"))
    (rD : PySem.HandSPX.refsVE bmD = true)
    (saD : PySem.W.findIn K (.ref ED) "__setattr__" = some (some (.builtin "object.__setattr__")))
    (kD : PySem.W.keepIn K (.ref ED) = true)
    (a39 : PySem.W.findIn K (.ref CR) "__init__" = some (some (.ref f39)))
    (i39 : PySem.W.isFn K (.ref f39) = true)
    (l39 : K.lookup f39 = some ⟨oc39, od39, .func (PySem.W.fnOf "__init__" "Reader.__init__" (defArgs sRd0) (defBody sRd0) (defScope sRd0) .none kV39 dc39 pm39 an39 cd39 ct39), sl39⟩)
    (c39 : PySem.W.codeIn K cd39 "Reader.__init__" = true)
    (k39 : PySem.W.keepIn K (.ref f39) = true)
    (a40 : PySem.W.findIn K (.ref CW) "__init__" = some (some (.ref f40)))
    (i40 : PySem.W.isFn K (.ref f40) = true)
    (l40 : K.lookup f40 = some ⟨oc40, od40, .func (PySem.W.fnOf "__init__" "Written.__init__" (defArgs sWr0) (defBody sWr0) (defScope sWr0) .none kV40 dc40 pm40 an40 cd40 ct40), sl40⟩)
    (c40 : PySem.W.codeIn K cd40 "Written.__init__" = true)
    (k40 : PySem.W.keepIn K (.ref f40) = true)
    (a41 : PySem.W.findIn K (.ref CR) "sees" = some (some (.ref f41)))
    (i41 : PySem.W.isFn K (.ref f41) = true)
    (l41 : K.lookup f41 = some ⟨oc41, od41, .func (PySem.W.fnOf "sees" "Reader.sees" (defArgs sRd1) (defBody sRd1) (defScope sRd1) .none kV41 dc41 pm41 an41 cd41 ct41), sl41⟩)
    (c41 : PySem.W.codeIn K cd41 "Reader.sees" = true)
    (k41 : PySem.W.keepIn K (.ref f41) = true)
    (a42 : PySem.W.findIn K (.ref CR) "is_done" = some (some (.ref f42)))
    (i42 : PySem.W.isFn K (.ref f42) = true)
    (l42 : K.lookup f42 = some ⟨oc42, od42, .func (PySem.W.fnOf "is_done" "Reader.is_done" (defArgs sRd2) (defBody sRd2) (defScope sRd2) .none kV42 dc42 pm42 an42 cd42 ct42), sl42⟩)
    (c42 : PySem.W.codeIn K cd42 "Reader.is_done" = true)
    (k42 : PySem.W.keepIn K (.ref f42) = true)
    (a43 : PySem.W.findIn K (.ref CR) "finish" = some (some (.ref f43)))
    (i43 : PySem.W.isFn K (.ref f43) = true)
    (l43 : K.lookup f43 = some ⟨oc43, od43, .func (PySem.W.fnOf "finish" "Reader.finish" (defArgs sRd3) (defBody sRd3) (defScope sRd3) .none kV43 dc43 pm43 an43 cd43 ct43), sl43⟩)
    (c43 : PySem.W.codeIn K cd43 "Reader.finish" = true)
    (k43 : PySem.W.keepIn K (.ref f43) = true)
    (a44 : PySem.W.findIn K (.ref CR) "take" = some (some (.ref f44)))
    (i44 : PySem.W.isFn K (.ref f44) = true)
    (l44 : K.lookup f44 = some ⟨oc44, od44, .func (PySem.W.fnOf "take" "Reader.take" (defArgs sRd4) (defBody sRd4) (defScope sRd4) .none kV44 dc44 pm44 an44 cd44 ct44), sl44⟩)
    (c44 : PySem.W.codeIn K cd44 "Reader.take" = true)
    (k44 : PySem.W.keepIn K (.ref f44) = true)
    (a45 : PySem.W.findIn K (.ref CR) "skip_spaces" = some (some (.ref f45)))
    (i45 : PySem.W.isFn K (.ref f45) = true)
    (l45 : K.lookup f45 = some ⟨oc45, od45, .func (PySem.W.fnOf "skip_spaces" "Reader.skip_spaces" (defArgs sRd5) (defBody sRd5) (defScope sRd5) .none kV45 dc45 pm45 an45 cd45 ct45), sl45⟩)
    (c45 : PySem.W.codeIn K cd45 "Reader.skip_spaces" = true)
    (k45 : PySem.W.keepIn K (.ref f45) = true)
    (a46 : PySem.W.findIn K (.ref CR) "take_name" = some (some (.ref f46)))
    (i46 : PySem.W.isFn K (.ref f46) = true)
    (l46 : K.lookup f46 = some ⟨oc46, od46, .func (PySem.W.fnOf "take_name" "Reader.take_name" (defArgs sRd9) (defBody sRd9) (defScope sRd9) .none kV46 dc46 pm46 an46 cd46 ct46), sl46⟩)
    (c46 : PySem.W.codeIn K cd46 "Reader.take_name" = true)
    (k46 : PySem.W.keepIn K (.ref f46) = true)
    (a47 : PySem.W.findIn K (.ref EB) "__init__" = some (some (.ref f47)))
    (i47 : PySem.W.typeIn K (.ref f47) = some (.type "function"))
    (l47 : K.lookup f47 = some ⟨oc47, od47, .func (PySem.W.fnOf "__init__" "BadValue.__init__" (defArgs (meth 3 0)) (defBody (meth 3 0)) (defScope (meth 3 0)) .none kV47 dc47 pm47 an47 cd47 ct47), sl47⟩)
    (c47 : PySem.W.codeIn K cd47 "BadValue.__init__" = true)
    (k47 : PySem.W.keepIn K (.ref f47) = true)
    (a48 : PySem.W.findIn K (.ref ED) "__init__" = some (some (.ref f48)))
    (i48 : PySem.W.typeIn K (.ref f48) = some (.type "function"))
    (l48 : K.lookup f48 = some ⟨oc48, od48, .func (PySem.W.fnOf "__init__" "TooDeep.__init__" (defArgs (meth 4 0)) (defBody (meth 4 0)) (defScope (meth 4 0)) .none kV48 dc48 pm48 an48 cd48 ct48), sl48⟩)
    (c48 : PySem.W.codeIn K cd48 "TooDeep.__init__" = true)
    (k48 : PySem.W.keepIn K (.ref f48) = true)
    (z1 : PySem.W.nsIn K mainGlobals "isinstance" = some none)
    (z2 : PySem.W.nsIn K mainGlobals "len" = some none)
    (z3 : PySem.W.nsIn K mainGlobals "all" = some none)
    (z4 : PySem.W.nsIn K mainGlobals "str" = some none)
    (z5 : PySem.W.nsIn K mainGlobals "tuple" = some none)
    (z6 : PySem.W.nsIn K mainGlobals "int" = some none)
    (z7 : PySem.W.nsIn K mainGlobals "list" = some none)
    (z8 : PySem.W.nsIn K mainGlobals "abs" = some none)
    (z9 : PySem.W.nsIn K mainGlobals "max" = some none)
    (z10 : PySem.W.nsIn K mainGlobals "min" = some none)
    (z11 : PySem.W.nsIn K mainGlobals "range" = some none)
    (z12 : PySem.W.nsIn K mainGlobals "bool" = some none)
    (z13 : PySem.W.nsIn K mainGlobals "zip" = some none)
    (z14 : PySem.W.nsIn K mainGlobals "dict" = some none)
    (y1 : PySem.W.nsIn K mainGlobals "LETTERS" = some (some (.str zLetters tl)))
    (y2 : PySem.W.nsIn K mainGlobals "DIGITS" = some (some (.str zDigits td)))
    (y3 : PySem.W.nsIn K mainGlobals "LONGEST_NAME" = some (some (.int 12 tn)))
    (y4 : PySem.W.nsIn K mainGlobals "DEEPEST" = some (some (.int 12 tp)))
    (y5 : PySem.W.nsIn K mainGlobals "LEAF_WORDS" = some (some (.ref aL)))
    (y6 : K.lookup aL = some ⟨.type "tuple", odL, .seq #[.str (Str.ofString "good") u1, .str (Str.ofString "counter") u2] nL, slL⟩)
    (y7 : PySem.W.nsIn K mainGlobals "HALVED_WORDS" = some (some (.ref aH)))
    (y8 : K.lookup aH = some ⟨.type "tuple", odH, .seq #[.str (Str.ofString "both") u3, .str (Str.ofString "between") u4, .str (Str.ofString "offered") u5, .str (Str.ofString "chosen") u6] nH, slH⟩)
    (y10 : PySem.W.nsIn K mainGlobals "FORM_WORDS" = some (some (.ref aS)))
    (y11 : K.lookup aS = some ⟨.type "dict", none, .dict esS nS, #[]⟩)
    (y12 : PySem.W.KeysLit w.params esS.toList)
    (y16 : Paired (fun (e : DictEntry) (kv : Key × V) => ∃ x t, e.key = .str x t ∧ kv.1 = .inr x ∧ RelV kv.2 e.val) esS.toList wordsF)
    (y17 : (aS == sysModules) = false)
    (y13 : PySem.W.nsIn K mainGlobals "WORD_SIGNS" = some (some (.ref aW)))
    (y14 : K.lookup aW = some ⟨.type "dict", none, .dict esW nW, #[]⟩)
    (y15 : PySem.W.KeysLit w.params esW.toList)
    (e5 : PySem.W.nsIn K aW "both" = some (some (.str (Str.ofString "*") v5)))
    (e6 : PySem.W.nsIn K aW "between" = some (some (.str (Str.ofString "|") v6)))
    (e7 : PySem.W.nsIn K aW "offered" = some (some (.str (Str.ofString "&") v7)))
    (e8 : PySem.W.nsIn K aW "chosen" = some (some (.str (Str.ofString "+") v8))) :
    LamX.LawAtS l w K CX0 93 63 "_law_script" mg fa h := by
  have e := hfa.symm.trans (PySem.W.mg_of X G a38)
  cases e
  have T : Txt K mg := {
    isinstance := PySem.W.mg_none_of X G z1, len := PySem.W.mg_none_of X G z2, all := PySem.W.mg_none_of X G z3, str := PySem.W.mg_none_of X G z4, tuple := PySem.W.mg_none_of X G z5, int := PySem.W.mg_none_of X G z6
    list := PySem.W.mg_none_of X G z7, abs := PySem.W.mg_none_of X G z8, max := PySem.W.mg_none_of X G z9, min := PySem.W.mg_none_of X G z10, range := PySem.W.mg_none_of X G z11, bool := PySem.W.mg_none_of X G z12
    LETTERS := ⟨_, PySem.W.mg_of X G y1, ⟨_, rfl⟩⟩, DIGITS := ⟨_, PySem.W.mg_of X G y2, ⟨_, rfl⟩⟩, LONGEST_NAME := ⟨_, PySem.W.mg_of X G y3, ⟨_, rfl⟩⟩, DEEPEST := ⟨_, PySem.W.mg_of X G y4, ⟨_, rfl⟩⟩
    aLeaf := aL, LEAF_WORDS := ⟨_, PySem.W.mg_of X G y5, rfl⟩, sLeaf := fun H => .inr ⟨_, _, _, y6, rfl, rfl, (by show 2 ≤ sizeLine; decide), .cons ⟨_, rfl⟩ (.cons ⟨_, rfl⟩ .nil)⟩
    aHalf := aH, HALVED_WORDS := ⟨_, PySem.W.mg_of X G y7, rfl⟩, sHalf := fun H => .inr ⟨_, _, _, y8, rfl, rfl, (by show 4 ≤ sizeLine; decide), .cons ⟨_, rfl⟩ (.cons ⟨_, rfl⟩ (.cons ⟨_, rfl⟩ (.cons ⟨_, rfl⟩ .nil)))⟩ }
  have YW : TxtW K mg w := {
    max := T.max, DEEPEST := T.DEEPEST, aFW := aS, FORM_WORDS := ⟨_, PySem.W.mg_of X G y10, rfl⟩
    dFW := ⟨esS, nS, y11, y12, y17, y16, (by decide +kernel), (by show 5 ≤ sizeLine; decide)⟩, dict := PySem.W.mg_none_of X G z14 }
  have YS : TxtS K mg w := {
    aWS := aW, WORD_SIGNS := ⟨_, PySem.W.mg_of X G y13, rfl⟩
    kWS := fun s => by
      cases s
      · exact ⟨esW, nW, _, y14, y15, e5, ⟨_, rfl⟩⟩
      · exact ⟨esW, nW, _, y14, y15, e6, ⟨_, rfl⟩⟩
      · exact ⟨esW, nW, _, y14, y15, e7, ⟨_, rfl⟩⟩
      · exact ⟨esW, nW, _, y14, y15, e8, ⟨_, rfl⟩⟩ }
  let TE : ErrT K mg := {
    B := EB, N := EN, D := ED, M := EM, gB := PySem.W.mg_of X G gEB, gN := PySem.W.mg_of X G gEN, gD := PySem.W.mg_of X G gED, gM := PySem.W.mg_of X G gEM
    xB := ⟨gaEB, ggEB, exEB, hdEB⟩, xN := ⟨gaEN, ggEN, exEN, hdEN⟩, xD := ⟨gaED, ggED, exED, hdED⟩, xM := ⟨gaEM, ggEM, exEM, hdEM⟩
    nB := noEB, nN := noEN, nD := noED, nM := noEM
    BB := exm_two exEB isEB tyEB sBB, NB := exm_two exEB isEB tyEB sNB, NN := exm_two exEN isEN tyEN sNN, DB := exm_two exEB isEB tyEB sDB, DN := exm_two exEN isEN tyEN sDN, DD := exm_two exED isED tyED sDD
    MB := exm_two exEB isEB tyEB sMB, MN := exm_two exEN isEN tyEN sMN, MD := exm_two exED isED tyED sMD, MM := exm_two exEM isEM tyEM sMM }
  have F1 := fun_mk (st := sfits_name) l1 c1 k1
  have b1 := F1.binds (ps := Pfits_name) fun _ _ _ _ _ _ us hl => match us, hl with | [_], _ => rfl
  have m1 := PySem.W.mg_of X G a1
  have F2 := fun_mk (st := sfits_form) l2 c2 k2
  have b2 := F2.binds (ps := Pfits_form) fun _ _ _ _ _ _ us hl => match us, hl with | [_, _], _ => rfl
  have m2 := PySem.W.mg_of X G a2
  have F3 := fun_mk (st := sis_leaf) l3 c3 k3
  have b3 := F3.binds (ps := Pis_leaf) fun _ _ _ _ _ _ us hl => match us, hl with | [_], _ => rfl
  have m3 := PySem.W.mg_of X G a3
  have F4 := fun_mk (st := scheck_form) l4 c4 k4
  have b4 := F4.binds (ps := Pcheck_form) fun _ _ _ _ _ _ us hl => match us, hl with | [_], _ => rfl
  have m4 := PySem.W.mg_of X G a4
  have F5 := fun_mk (st := scheck_text) l5 c5 k5
  have b5 := F5.binds (ps := Pcheck_text) fun _ _ _ _ _ _ us hl => match us, hl with | [_], _ => rfl
  have m5 := PySem.W.mg_of X G a5
  have F6 := fun_mk (st := stake_leaf) l6 c6 k6
  have b6 := F6.binds (ps := Ptake_leaf) fun _ _ _ _ _ _ us hl => match us, hl with | [_, _], _ => rfl
  have m6 := PySem.W.mg_of X G a6
  have F7 := fun_mk (st := stake_sign) l7 c7 k7
  have b7 := F7.binds (ps := Ptake_sign) fun _ _ _ _ _ _ us hl => match us, hl with | [_, _, _], _ => rfl
  have m7 := PySem.W.mg_of X G a7
  have F8 := fun_mk (st := sgrouped) l8 c8 k8
  have b8 := F8.binds (ps := Pgrouped) fun _ _ _ _ _ _ us hl => match us, hl with | [_, _], _ => rfl
  have m8 := PySem.W.mg_of X G a8
  have F9 := fun_mk (st := stake_halved) l9 c9 k9
  have b9 := F9.binds (ps := Ptake_halved) fun _ _ _ _ _ _ us hl => match us, hl with | [_, _], _ => rfl
  have m9 := PySem.W.mg_of X G a9
  have F10 := fun_mk (st := stake_form) l10 c10 k10
  have b10 := F10.binds (ps := Ptake_form) fun _ _ _ _ _ _ us hl => match us, hl with | [_], _ => rfl
  have m10 := PySem.W.mg_of X G a10
  have F11 := fun_mk (st := stold_form) l11 c11 k11
  have b11 := F11.binds (ps := Ptold_form) fun _ _ _ _ _ _ us hl => match us, hl with | [_], _ => rfl
  have m11 := PySem.W.mg_of X G a11
  have F12 := fun_mk (st := swritten) l12 c12 k12
  have b12 := F12.binds (ps := Pwritten) fun _ _ _ _ _ _ us hl => match us, hl with | [_], _ => rfl
  have m12 := PySem.W.mg_of X G a12
  have F13 := fun_mk (st := swritten_half) l13 c13 k13
  have b13 := F13.binds (ps := Pwritten_half) fun _ _ _ _ _ _ us hl => match us, hl with | [_], _ => rfl
  have m13 := PySem.W.mg_of X G a13
  have F14 := fun_mk (st := sform_text) l14 c14 k14
  have b14 := F14.binds (ps := Pform_text) fun _ _ _ _ _ _ us hl => match us, hl with | [_], _ => rfl
  have m14 := PySem.W.mg_of X G a14
  have F15 := fun_mk (st := sread_form) l15 c15 k15
  have b15 := F15.binds (ps := Pread_form) fun _ _ _ _ _ _ us hl => match us, hl with | [_], _ => rfl
  have m15 := PySem.W.mg_of X G a15
  have F16 := fun_mk (st := s_law_begin) l16 c16 k16
  have b16 := F16.binds (ps := P_law_begin) fun _ _ _ _ _ _ us hl => match us, hl with | [_], _ => rfl
  have m16 := PySem.W.mg_of X G a16
  have F17 := fun_mk (st := s_law_draw) l17 c17 k17
  have b17 := F17.binds (ps := P_law_draw) fun _ _ _ _ _ _ us hl => match us, hl with | [_, _], _ => rfl
  have m17 := PySem.W.mg_of X G a17
  have F18 := fun_mk (st := s_law_pick) l18 c18 k18
  have b18 := F18.binds (ps := P_law_pick) fun _ _ _ _ _ _ us hl => match us, hl with | [_, _], _ => rfl
  have m18 := PySem.W.mg_of X G a18
  have F19 := fun_mk (st := s_law_depth) l19 c19 k19
  have b19 := F19.binds (ps := P_law_depth) fun _ _ _ _ _ _ us hl => match us, hl with | [_], _ => rfl
  have m19 := PySem.W.mg_of X G a19
  have F20 := fun_mk (st := s_law_form_text) l20 c20 k20
  have b20 := F20.binds (ps := P_law_form_text) fun _ _ _ _ _ _ us hl => match us, hl with | [_, _], _ => rfl
  have m20 := PySem.W.mg_of X G a20
  have F21 := fun_mk (st := s_law_same) l21 c21 k21
  have b21 := F21.binds (ps := P_law_same) fun _ _ _ _ _ _ us hl => match us, hl with | [_, _], _ => rfl
  have m21 := PySem.W.mg_of X G a21
  have F22 := fun_mk (st := s_law_fault) l22 c22 k22
  have b22 := F22.binds (ps := P_law_fault) fun _ _ _ _ _ _ us hl => match us, hl with | [_], _ => rfl
  have m22 := PySem.W.mg_of X G a22
  have F23 := fun_mk (st := s_law_faults) l23 c23 k23
  have b23 := F23.binds (ps := P_law_faults) fun _ _ _ _ _ _ us hl => match us, hl with | [_, _], _ => rfl
  have m23 := PySem.W.mg_of X G a23
  have F24 := fun_mk (st := s_law_name) l24 c24 k24
  have b24 := F24.binds (ps := P_law_name) fun _ _ _ _ _ _ us hl => match us, hl with | [_], _ => rfl
  have m24 := PySem.W.mg_of X G a24
  have F25 := fun_mk (st := s_law_names) l25 c25 k25
  have b25 := F25.binds (ps := P_law_names) fun _ _ _ _ _ _ us hl => match us, hl with | [_, _], _ => rfl
  have m25 := PySem.W.mg_of X G a25
  have F26 := fun_mk (st := s_law_shape) l26 c26 k26
  have b26 := F26.binds (ps := P_law_shape) fun _ _ _ _ _ _ us hl => match us, hl with | [_, _, _, _], _ => rfl
  have m26 := PySem.W.mg_of X G a26
  have F27 := fun_mk (st := s_law_is_name) l27 c27 k27
  have b27 := F27.binds (ps := P_law_is_name) fun _ _ _ _ _ _ us hl => match us, hl with | [_], _ => rfl
  have m27 := PySem.W.mg_of X G a27
  have F28 := fun_mk (st := s_law_is_form) l28 c28 k28
  have b28 := F28.binds (ps := P_law_is_form) fun _ _ _ _ _ _ us hl => match us, hl with | [_, _], _ => rfl
  have m28 := PySem.W.mg_of X G a28
  have F29 := fun_mk (st := s_law_bent_name) l29 c29 k29
  have b29 := F29.binds (ps := P_law_bent_name) fun _ _ _ _ _ _ us hl => match us, hl with | [_, _], _ => rfl
  have m29 := PySem.W.mg_of X G a29
  have F30 := fun_mk (st := s_law_bent) l30 c30 k30
  have b30 := F30.binds (ps := P_law_bent) fun _ _ _ _ _ _ us hl => match us, hl with | [_, _], _ => rfl
  have m30 := PySem.W.mg_of X G a30
  have F31 := fun_mk (st := s_law_deeper) l31 c31 k31
  have b31 := F31.binds (ps := P_law_deeper) fun _ _ _ _ _ _ us hl => match us, hl with | [_, _], _ => rfl
  have m31 := PySem.W.mg_of X G a31
  have F32 := fun_mk (st := s_law_no_form) l32 c32 k32
  have b32 := F32.binds (ps := P_law_no_form) fun _ _ _ _ _ _ us hl => match us, hl with | [_, _], _ => rfl
  have m32 := PySem.W.mg_of X G a32
  have F33 := fun_mk (st := s_law_tokens) l33 c33 k33
  have b33 := F33.binds (ps := P_law_tokens) fun _ _ _ _ _ _ us hl => match us, hl with | [_, _], _ => rfl
  have m33 := PySem.W.mg_of X G a33
  have F34 := fun_mk (st := s_law_spaced) l34 c34 k34
  have b34 := F34.binds (ps := P_law_spaced) fun _ _ _ _ _ _ us hl => match us, hl with | [_, _], _ => rfl
  have m34 := PySem.W.mg_of X G a34
  have F35 := fun_mk (st := s_law_text_right) l35 c35 k35
  have b35 := F35.binds (ps := P_law_text_right) fun _ _ _ _ _ _ us hl => match us, hl with | [_, _], _ => rfl
  have m35 := PySem.W.mg_of X G a35
  have F36 : FunC K "_law_too_deep" "_law_too_deep" s_law_too_deep f36 _ (.ref cc1) := ⟨oc36, od36, kV36, dc36, pm36, an36, ct36, sl36, rfl, l36, c36⟩
  have b36 := (fun_mk (st := s_law_too_deep) l36 c36 k36).binds (ps := P_law_too_deep) fun _ _ _ _ _ _ us hl => match us, hl with | [_, _], _ => rfl
  have m36 := PySem.W.mg_of X G a36
  have F37 : FunC K "_law_refuses" "_law_refuses" s_law_refuses f37 _ (.ref cc2) := ⟨oc37, od37, kV37, dc37, pm37, an37, ct37, sl37, rfl, l37, c37⟩
  have b37 := (fun_mk (st := s_law_refuses) l37 c37 k37).binds (ps := P_law_refuses) fun _ _ _ _ _ _ us hl => match us, hl with | [_, _], _ => rfl
  have m37 := PySem.W.mg_of X G a37
  have F38 := fun_mk (st := slaw) l38 c38 k38
  have F39 := fun_mk (st := sRd0) l39 c39 k39
  have b39 := F39.binds (ps := ["self", "text"]) fun _ _ _ _ _ _ us hl => match us, hl with | [_, _], _ => rfl
  have F40 := fun_mk (st := sWr0) l40 c40 k40
  have b40 := F40.binds (ps := ["self", "form", "depth", "leaves"]) fun _ _ _ _ _ _ us hl => match us, hl with | [_, _, _, _], _ => rfl
  have F41 := fun_mk (st := sRd1) l41 c41 k41
  have b41 := F41.binds (ps := ["self", "signs"]) fun _ _ _ _ _ _ us hl => match us, hl with | [_, _], _ => rfl
  have F42 := fun_mk (st := sRd2) l42 c42 k42
  have b42 := F42.binds (ps := ["self"]) fun _ _ _ _ _ _ us hl => match us, hl with | [_], _ => rfl
  have F43 := fun_mk (st := sRd3) l43 c43 k43
  have b43 := F43.binds (ps := ["self"]) fun _ _ _ _ _ _ us hl => match us, hl with | [_], _ => rfl
  have F44 := fun_mk (st := sRd4) l44 c44 k44
  have b44 := F44.binds (ps := ["self", "signs"]) fun _ _ _ _ _ _ us hl => match us, hl with | [_, _], _ => rfl
  have F45 := fun_mk (st := sRd5) l45 c45 k45
  have b45 := F45.binds (ps := ["self"]) fun _ _ _ _ _ _ us hl => match us, hl with | [_], _ => rfl
  have F46 := fun_mk (st := sRd9) l46 c46 k46
  have b46 := F46.binds (ps := ["self"]) fun _ _ _ _ _ _ us hl => match us, hl with | [_], _ => rfl
  have F47 := fun_mk (st := (meth 3 0)) l47 c47 k47
  have b47 := F47.binds (ps := ["self", "value"]) fun _ _ _ _ _ _ us hl => match us, hl with | [_, _], _ => rfl
  have F48 := fun_mk (st := (meth 4 0)) l48 c48 k48
  have b48 := F48.binds (ps := ["self", "most"]) fun _ _ _ _ _ _ us hl => match us, hl with | [_, _], _ => rfl
  have RT : RdTxt K CR := ⟨⟨pgCR, hdCR, poCR, saCR⟩, nR0, nR1⟩
  have RT2 : RdTxt2 K mg CR f39 := ⟨⟨mkCR, a39, i39, kpCR⟩, PySem.W.mg_of X G gCR⟩
  have WT : WrTxt K mg CW f40 := ⟨⟨pgCW, hdCW, poCW, saCW⟩, nW0, nW1, nW2, ⟨mkCW, a40, i40, kpCW⟩, PySem.W.mg_of X G gCW⟩
  refine ⟨PySem.W.fnOf "law" "law" (defArgs slaw) (defBody slaw) (defScope slaw) .none kV38 dc38 pm38 an38 cd38 ct38, [(cc1, Pt1), (cc2, Pt2)], spLaw K [(Pt1, lamQd), (Pt2, lamQr)], fun p hp => ?_, fun p hp => ?_, fun p hp => ?_, fun s v => .of_eq rfl, fun H a ns hl hb hH hS => ?_, fun base _ _ hTB => ?_⟩
  · rcases List.mem_cons.mp hp with e | hp
    · rw [e]; exact tP1
    · rw [List.mem_singleton.mp hp]; exact tP2
  · rcases List.mem_cons.mp hp with e | hp
    · rw [e]; exact tN1
    · rw [List.mem_singleton.mp hp]; exact tN2
  · rcases List.mem_cons.mp hp with e | hp
    · rw [e]; exact PySem.W.codeHd_of_K X tC1
    · rw [List.mem_singleton.mp hp]; exact PySem.W.codeHd_of_K X tC2
  · refine ⟨a, ns, rfl, hS, hl, fun p hp => ?_, fun _ => rfl⟩
    rcases List.mem_cons.mp hp with e | hp
    · rw [e]; exact LamX.TabS.nil (hH (cc1, Pt1) List.mem_cons_self)
    · rw [List.mem_singleton.mp hp]; exact LamX.TabS.nil (hH (cc2, Pt2) (List.mem_cons_of_mem _ List.mem_cons_self))
  have TB1 : LamX.TabB base mg cc1 Pt1 := hTB (cc1, Pt1) List.mem_cons_self
  have TB2 : LamX.TabB base mg cc2 Pt2 := hTB (cc2, Pt2) (List.mem_cons_of_mem _ List.mem_cons_self)
  have one1 : ∀ p ∈ [(Pt1, lamQd), (Pt2, lamQr)], p.1 = Pt1 → p.2 = lamQd := fun p hp e => by
    rcases List.mem_cons.mp hp with e2 | hp
    · rw [e2]
    · rw [List.mem_singleton.mp hp] at e
      exact absurd e.symm tD
  have one2 : ∀ p ∈ [(Pt1, lamQd), (Pt2, lamQr)], p.1 = Pt2 → p.2 = lamQr := fun p hp e => by
    rcases List.mem_cons.mp hp with e2 | hp
    · rw [e2] at e
      exact absurd e tD
    · rw [List.mem_singleton.mp hp]
  have OB : OneE l.prog w K mg base "BadValue" "value" EB := { oex := ⟨⟨nmB, qB, NB, bsB, bmB, snB, subB, abB, colB, ddB, mz0B, mz1B, mz2B, mz3B, mz5B, xB, rB⟩, saB, exEB, tyEB, kB⟩, xf := TE.xB, no := noEB, g := PySem.W.mg_of X G gEB, fI := f47, fd := _, iC := a47, tI := i47, b := b47, F := ok_i2 EB F47 }
  have OD : OneE l.prog w K mg base "TooDeep" "most" ED := { oex := ⟨⟨nmD, qD, ND, bsD, bmD, snD, subD, abD, colD, ddD, mz0D, mz1D, mz2D, mz3D, mz5D, xD, rD⟩, saD, exED, tyED, kD⟩, xf := TE.xD, no := noED, g := PySem.W.mg_of X G gED, fI := f48, fd := _, iC := a48, tI := i48, b := b48, F := ok_i3 ED F48 }
  have Cfits_name : Cal l.prog w K mg base "fits_name" 2 Pfits_name (spName K) := ⟨_, _, ok_fits_name T F1, m1, k1, b1⟩
  have Cfits_form : Cal l.prog w K mg base "fits_form" 15 Pfits_form (spForm K 13) := ⟨_, _, all_fits_form T F2 b2 m2 Cfits_name 13, m2, k2, b2⟩
  have Cis_leaf : Cal l.prog w K mg base "is_leaf" 1 Pis_leaf (spLeafT K) := ⟨_, _, okis_leaf T F3, m3, k3, b3⟩
  have Ccheck_form : CalX l.prog w K mg base "check_form" 16 Pcheck_form (spCheckForm K EB) := ⟨_, _, okcheck_form T OB F4 Cfits_form, m4, k4, b4⟩
  have Ccheck_text : CalX l.prog w K mg base "check_text" 4 Pcheck_text (spCheckText K EB) := ⟨_, _, okcheck_text T OB F5, m5, k5, b5⟩
  have M1 : Mth l.prog w K mg base CR "sees" 1 NRd1 (spSees CR) := ⟨f41, _, ⟨a41, i41, k41⟩, okRd1 T RT F41, b41⟩
  have M2 : Mth l.prog w K mg base CR "is_done" 1 NRd2 (spDone CR) := ⟨f42, _, ⟨a42, i42, k42⟩, okRd2 T RT F42, b42⟩
  have M3 : Mth l.prog w K mg base CR "finish" 2 NRd2 (spFinish CR) := ⟨f43, _, ⟨a43, i43, k43⟩, okRd3 (R := RT) M2 F43, b43⟩
  have M4 : Mth l.prog w K mg base CR "take" 2 NRd1 (spTake CR) := ⟨f44, _, ⟨a44, i44, k44⟩, okRd4 (R := RT) M1 F44, b44⟩
  have M1L : Mth l.prog w K mg base CR "sees" 1 NRd1 (spSeesL K CR) := ⟨f41, _, ⟨a41, i41, k41⟩, okRd1L T RT F41, b41⟩
  have M4L : Mth l.prog w K mg base CR "take" 2 NRd1 (spTakeL K CR) := ⟨f44, _, ⟨a44, i44, k44⟩, okRd4L (R := RT) M1L F44, b44⟩
  have M5 : Mth l.prog w K mg base CR "skip_spaces" 2 NRd2 (spSkip CR) := ⟨f45, _, ⟨a45, i45, k45⟩, okRd5 (R := RT) M1 F45, b45⟩
  have M9 : Mth l.prog w K mg base CR "take_name" 3 NRd2 (spTakeName CR) := ⟨f46, _, ⟨a46, i46, k46⟩, okRd9 (R := RT) T M1 M4 F46, b46⟩
  have GW := okWr0 (P := l.prog) (w := w) (base := base) WT F40
  have GR := okRd0 (P := l.prog) (w := w) (mg := mg) (base := base) RT F39
  have Ctake_leaf : Cal l.prog w K mg base "take_leaf" 4 Ptake_leaf (spTakeLeaf K CR CW) := ⟨_, _, oktake_leaf (R := RT) WT GW b40 M1 M4 M9 F6, m6, k6, b6⟩
  have Cgrouped : Cal l.prog w K mg base "grouped" 3 Pgrouped (spGrouped K CW) := ⟨_, _, okgrouped WT YW GW b40 F8, m8, k8, b8⟩
  have Ctake_sign : Cal l.prog w K mg base "take_sign" 3 Ptake_sign (spTakeSign K CR) := ⟨_, _, oktake_sign (R := RT) M4 M4L F7, m7, k7, b7⟩
  have Ctake_halved : Cal l.prog w K mg base "take_halved" 5 Ptake_halved (spTakeHalved K CR CW) := ⟨_, _, oktake_halved (R := RT) WT T M1 M1L M4 M5 Ctake_leaf Cgrouped Ctake_sign F9, m9, k9, b9⟩
  have Ctake_form : Cal l.prog w K mg base "take_form" 6 Ptake_form (spTakeForm K CR CW) := ⟨_, _, oktake_form YW Ctake_halved F10, m10, k10, b10⟩
  have Ctold_form : CalX l.prog w K mg base "told_form" 4 Ptold_form (spToldX K CW ED) := ⟨_, _, oktold_formX WT YW OD F11, m11, k11, b11⟩
  have Cread_form : CalX l.prog w K mg base "read_form" 7 Pread_form (spReadForm K EB ED) := ⟨_, _, okread_form (R := RT) RT2 GR b39 Ccheck_text Ctake_form M3 Ctold_form F15, m15, k15, b15⟩
  have Cwritten : Cal l.prog w K mg base "written" 27 Pwritten (spWritten K false 13) := ⟨_, _, all_written YS F12 b12 m12 F13 b13 m13 Cis_leaf 13, m12, k12, b12⟩
  have Cform_text : CalX l.prog w K mg base "form_text" 31 Pform_text (spFormText K EB) := ⟨_, _, okform_text Ccheck_form Cwritten F14 (fun t h1 h2 => ⟨ft_isForm t h1 h2, short_form (ft_isForm t h1 h2), Nat.le_trans (depth_form (ft_isForm t h1 h2)) (by decide)⟩), m14, k14, b14⟩
  have C_law_begin : Cal l.prog w K mg base "_law_begin" 1 P_law_begin (spBegin K) := ⟨_, _, ok_law_begin T F16, m16, k16, b16⟩
  have C_law_draw : Cal l.prog w K mg base "_law_draw" 1 P_law_draw (spDraw K) := ⟨_, _, ok_law_draw T F17, m17, k17, b17⟩
  have C_law_pick : Cal l.prog w K mg base "_law_pick" 2 P_law_pick (spPick K) := ⟨_, _, ok_law_pick T F18 C_law_draw, m18, k18, b18⟩
  have C_law_depth : Cal l.prog w K mg base "_law_depth" 13 P_law_depth (spDepth K 13) := ⟨_, _, all_law_depth T F19 b19 m19 13, m19, k19, b19⟩
  have C_law_form_text : Cal l.prog w K mg base "_law_form_text" 14 P_law_form_text (spLText K 13) := ⟨_, _, all_law_form_text T F20 b20 m20 13, m20, k20, b20⟩
  have C_law_tokens : Cal l.prog w K mg base "_law_tokens" 14 P_law_tokens (spTokens K 13) := ⟨_, _, all_law_tokens T F33 b33 m33 13, m33, k33, b33⟩
  have C_law_same : Cal l.prog w K mg base "_law_same" 16 P_law_same (spSame K 15) := ⟨_, _, all_law_same T (PySem.W.mg_none_of X G z13) F21 b21 m21 15, m21, k21, b21⟩
  have C_law_sameM : Cal l.prog w K mg base "_law_same" 54 P_law_same (spSame K 53) := ⟨_, _, all_law_same T (PySem.W.mg_none_of X G z13) F21 b21 m21 53, m21, k21, b21⟩
  have C_law_fault : Cal l.prog w K mg base "_law_fault" 34 P_law_fault (spFault l.prog w K mg base TE 33) := ⟨_, _, ok_law_fault TE F22, m22, k22, b22⟩
  have C_law_faults : Cal l.prog w K mg base "_law_faults" 88 P_law_faults (spFaults l.prog w K mg base TE 33 53) := ⟨_, _, ok_law_faults (k := 33) (n := 53) TE F23 C_law_fault C_law_sameM, m23, k23, b23⟩
  have C_law_name : Cal l.prog w K mg base "_law_name" 3 P_law_name (spNameOf K) := ⟨_, _, ok_law_name T F24 C_law_pick, m24, k24, b24⟩
  have C_law_names : Cal l.prog w K mg base "_law_names" 4 P_law_names (spNames K) := ⟨_, _, ok_law_names T F25 C_law_draw C_law_name, m25, k25, b25⟩
  have C_law_shape : Cal l.prog w K mg base "_law_shape" 15 P_law_shape (spShape K 13) := ⟨_, _, all_law_shape T F26 b26 m26 C_law_draw C_law_pick 13, m26, k26, b26⟩
  have C_law_is_name : Cal l.prog w K mg base "_law_is_name" 2 P_law_is_name (spName K) := ⟨_, _, ok_law_is_name T F27, m27, k27, b27⟩
  have C_law_is_form : Cal l.prog w K mg base "_law_is_form" 15 P_law_is_form (spFormL K 13) := ⟨_, _, all_law_is_form T F28 b28 m28 C_law_is_name 13, m28, k28, b28⟩
  have C_law_bent_name : Cal l.prog w K mg base "_law_bent_name" 3 P_law_bent_name (spBentName K) := ⟨_, _, ok_law_bent_name T F29 C_law_draw C_law_pick, m29, k29, b29⟩
  have C_law_bent : Cal l.prog w K mg base "_law_bent" 16 P_law_bent (spBent K 13) := ⟨_, _, all_law_bent T F30 b30 m30 C_law_draw C_law_pick C_law_bent_name 13, m30, k30, b30⟩
  have C_law_deeper : Cal l.prog w K mg base "_law_deeper" 14 P_law_deeper (spDeeper K) := ⟨_, _, ok_law_deeper T F31 C_law_depth, m31, k31, b31⟩
  have C_law_no_form : Cal l.prog w K mg base "_law_no_form" 17 P_law_no_form (spNoForm K) := ⟨_, _, ok_law_no_form T F32 C_law_pick C_law_bent C_law_is_form C_law_deeper, m32, k32, b32⟩
  have C_law_spaced : Cal l.prog w K mg base "_law_spaced" 3 P_law_spaced (spSpaced K) := ⟨_, _, ok_law_spaced F34 C_law_draw C_law_pick, m34, k34, b34⟩
  have C_law_text_right : Cal l.prog w K mg base "_law_text_right" 32 P_law_text_right (spTextRight K) := ⟨_, _, ok_law_text_right F35 C_law_form_text C_law_same Cform_text Cread_form C_law_tokens C_law_spaced, m35, k35, b35⟩
  have in1 : (Pt1, lamQd) ∈ [(Pt1, lamQd), (Pt2, lamQr)] := List.mem_cons_self
  have in2 : (Pt2, lamQr) ∈ [(Pt1, lamQd), (Pt2, lamQr)] := List.mem_cons_of_mem _ List.mem_cons_self
  have C_law_too_deep : Cal l.prog w K mg base "_law_too_deep" 92 P_law_too_deep (spTooDeep K [(Pt1, lamQd), (Pt2, lamQr)]) := ⟨_, _, ok_law_too_deep (T := TE) TB1 in1 one1 F36 C_law_depth C_law_draw C_law_pick C_law_form_text C_law_faults Cread_form, m36, k36, b36⟩
  have C_law_refuses : Cal l.prog w K mg base "_law_refuses" 92 P_law_refuses (spRefuses K [(Pt1, lamQd), (Pt2, lamQr)]) := ⟨_, _, ok_law_refuses (T := TE) TB2 in2 one2 F37 C_law_no_form C_law_form_text C_law_faults Cform_text Cread_form, m37, k37, b37⟩
  exact ok_law T F38 C_law_begin C_law_draw C_law_pick C_law_names C_law_shape C_law_deeper C_law_text_right C_law_too_deep C_law_refuses
theorem walk {l : PySem.W.OpenLaw} {q : Program} {loose : List Str} {XP : (Str → Option Value) → Heap → Prop} {YP : World → Heap → Prop} {d : DefRec} {K : Params → PySem.W.Frag} (hn : l.most = some 63) (hdf : d.params.defaults = [])
    (hY : ∀ (w : World) (h : Heap), YP w h → (K w.params).In h)
    (F : ∀ (w : World) (mg : Str → Option Value) (fa : Addr) (h : Heap), YP w h → (K w.params).In h → h.Ns mainGlobals mg → mg d.name = some (.ref fa) → LamX.LawAtS l w (K w.params) CX0 93 63 "_law_script" mg fa h) :
    PySem.W.WalkO q loose XP YP l.row.toRowW d [] (fun f vs => PySem.call f vs) :=
  LamX.walk_ofTs (n := 63) (k := 93) (x := "_law_script") (CX := fun _ => CX0) hn (by decide) hdf ⟨rfl, by decide, by decide⟩ hY F fun _ _ _ _ _ z => z
end My

set_option Elab.async false
set_option linter.all false
open PySem PySem.W PyProof.Rows
set_option maxRecDepth 100000 in
set_option maxHeartbeats 0 in
theorem PySem.Challenge.cw_alldeeds_k04_whole_form_texts_holds : PySem.Challenge.rw_alldeeds_k04_whole_form_texts.Holds := by
  w_on; o_law; k_head; (case hw => w_witness2)
  k_fill
  refine My.walk (l := PySem.Challenge.rw_alldeeds_k04_whole_form_texts) rfl rfl (fun w h Y => PySem.W.km_in_of Y) ?F
  case F =>
    intro w mg fa h Y KX G hmg
    have hT := PySem.W.km_tabs_of Y
    refine' My.all_mk KX G hmg ?tP1 ?tP2 ?tD ?a1 ?l1 ?c1 ?k1 ?a2 ?l2 ?c2 ?k2 ?a3 ?l3 ?c3 ?k3 ?a4 ?l4 ?c4 ?k4 ?a5 ?l5 ?c5 ?k5 ?a6 ?l6 ?c6 ?k6 ?a7 ?l7 ?c7 ?k7 ?a8 ?l8 ?c8 ?k8 ?a9 ?l9 ?c9 ?k9 ?a10 ?l10 ?c10 ?k10 ?a11 ?l11 ?c11 ?k11 ?a12 ?l12 ?c12 ?k12 ?a13 ?l13 ?c13 ?k13 ?a14 ?l14 ?c14 ?k14 ?a15 ?l15 ?c15 ?k15 ?a16 ?l16 ?c16 ?k16 ?a17 ?l17 ?c17 ?k17 ?a18 ?l18 ?c18 ?k18 ?a19 ?l19 ?c19 ?k19 ?a20 ?l20 ?c20 ?k20 ?a21 ?l21 ?c21 ?k21 ?a22 ?l22 ?c22 ?k22 ?a23 ?l23 ?c23 ?k23 ?a24 ?l24 ?c24 ?k24 ?a25 ?l25 ?c25 ?k25 ?a26 ?l26 ?c26 ?k26 ?a27 ?l27 ?c27 ?k27 ?a28 ?l28 ?c28 ?k28 ?a29 ?l29 ?c29 ?k29 ?a30 ?l30 ?c30 ?k30 ?a31 ?l31 ?c31 ?k31 ?a32 ?l32 ?c32 ?k32 ?a33 ?l33 ?c33 ?k33 ?a34 ?l34 ?c34 ?k34 ?a35 ?l35 ?c35 ?k35 ?a36 ?l36 ?c36 ?k36 ?a37 ?l37 ?c37 ?k37 ?a38 ?l38 ?c38 ?k38 ?tN1 ?tC1 ?tN2 ?tC2 ?gCR ?pgCR ?hdCR ?poCR ?saCR ?mkCR ?kpCR ?gCW ?pgCW ?hdCW ?poCW ?saCW ?mkCW ?kpCW ?nR0 ?nR1 ?nW0 ?nW1 ?nW2 ?gEB ?gaEB ?ggEB ?exEB ?hdEB ?noEB ?isEB ?tyEB ?gEN ?gaEN ?ggEN ?exEN ?hdEN ?noEN ?isEN ?tyEN ?gED ?gaED ?ggED ?exED ?hdED ?noED ?isED ?tyED ?gEM ?gaEM ?ggEM ?exEM ?hdEM ?noEM ?isEM ?tyEM ?sBB ?sNB ?sNN ?sDB ?sDN ?sDD ?sMB ?sMN ?sMD ?sMM ?xB ?rB ?saB ?kB ?xD ?rD ?saD ?kD ?a39 ?i39 ?l39 ?c39 ?k39 ?a40 ?i40 ?l40 ?c40 ?k40 ?a41 ?i41 ?l41 ?c41 ?k41 ?a42 ?i42 ?l42 ?c42 ?k42 ?a43 ?i43 ?l43 ?c43 ?k43 ?a44 ?i44 ?l44 ?c44 ?k44 ?a45 ?i45 ?l45 ?c45 ?k45 ?a46 ?i46 ?l46 ?c46 ?k46 ?a47 ?i47 ?l47 ?c47 ?k47 ?a48 ?i48 ?l48 ?c48 ?k48 ?z1 ?z2 ?z3 ?z4 ?z5 ?z6 ?z7 ?z8 ?z9 ?z10 ?z11 ?z12 ?z13 ?z14 ?y1 ?y2 ?y3 ?y4 ?y5 ?y6 ?y7 ?y8 ?y10 ?y11 ?y12 ?y16 ?y17 ?y13 ?y14 ?y15 ?e5 ?e6 ?e7 ?e8
    (case tP1 => exact hT _ (List.mem_cons_of_mem _ List.mem_cons_self))
    (case tP2 => exact hT _ (List.mem_cons_self))
    (case tD => decide)
    (case a1 => k_is)
    (case l1 => k_is)
    (case c1 => k_is)
    (case k1 => k_is)
    (case a2 => k_is)
    (case l2 => k_is)
    (case c2 => k_is)
    (case k2 => k_is)
    (case a3 => k_is)
    (case l3 => k_is)
    (case c3 => k_is)
    (case k3 => k_is)
    (case a4 => k_is)
    (case l4 => k_is)
    (case c4 => k_is)
    (case k4 => k_is)
    (case a5 => k_is)
    (case l5 => k_is)
    (case c5 => k_is)
    (case k5 => k_is)
    (case a6 => k_is)
    (case l6 => k_is)
    (case c6 => k_is)
    (case k6 => k_is)
    (case a7 => k_is)
    (case l7 => k_is)
    (case c7 => k_is)
    (case k7 => k_is)
    (case a8 => k_is)
    (case l8 => k_is)
    (case c8 => k_is)
    (case k8 => k_is)
    (case a9 => k_is)
    (case l9 => k_is)
    (case c9 => k_is)
    (case k9 => k_is)
    (case a10 => k_is)
    (case l10 => k_is)
    (case c10 => k_is)
    (case k10 => k_is)
    (case a11 => k_is)
    (case l11 => k_is)
    (case c11 => k_is)
    (case k11 => k_is)
    (case a12 => k_is)
    (case l12 => k_is)
    (case c12 => k_is)
    (case k12 => k_is)
    (case a13 => k_is)
    (case l13 => k_is)
    (case c13 => k_is)
    (case k13 => k_is)
    (case a14 => k_is)
    (case l14 => k_is)
    (case c14 => k_is)
    (case k14 => k_is)
    (case a15 => k_is)
    (case l15 => k_is)
    (case c15 => k_is)
    (case k15 => k_is)
    (case a16 => k_is)
    (case l16 => k_is)
    (case c16 => k_is)
    (case k16 => k_is)
    (case a17 => k_is)
    (case l17 => k_is)
    (case c17 => k_is)
    (case k17 => k_is)
    (case a18 => k_is)
    (case l18 => k_is)
    (case c18 => k_is)
    (case k18 => k_is)
    (case a19 => k_is)
    (case l19 => k_is)
    (case c19 => k_is)
    (case k19 => k_is)
    (case a20 => k_is)
    (case l20 => k_is)
    (case c20 => k_is)
    (case k20 => k_is)
    (case a21 => k_is)
    (case l21 => k_is)
    (case c21 => k_is)
    (case k21 => k_is)
    (case a22 => k_is)
    (case l22 => k_is)
    (case c22 => k_is)
    (case k22 => k_is)
    (case a23 => k_is)
    (case l23 => k_is)
    (case c23 => k_is)
    (case k23 => k_is)
    (case a24 => k_is)
    (case l24 => k_is)
    (case c24 => k_is)
    (case k24 => k_is)
    (case a25 => k_is)
    (case l25 => k_is)
    (case c25 => k_is)
    (case k25 => k_is)
    (case a26 => k_is)
    (case l26 => k_is)
    (case c26 => k_is)
    (case k26 => k_is)
    (case a27 => k_is)
    (case l27 => k_is)
    (case c27 => k_is)
    (case k27 => k_is)
    (case a28 => k_is)
    (case l28 => k_is)
    (case c28 => k_is)
    (case k28 => k_is)
    (case a29 => k_is)
    (case l29 => k_is)
    (case c29 => k_is)
    (case k29 => k_is)
    (case a30 => k_is)
    (case l30 => k_is)
    (case c30 => k_is)
    (case k30 => k_is)
    (case a31 => k_is)
    (case l31 => k_is)
    (case c31 => k_is)
    (case k31 => k_is)
    (case a32 => k_is)
    (case l32 => k_is)
    (case c32 => k_is)
    (case k32 => k_is)
    (case a33 => k_is)
    (case l33 => k_is)
    (case c33 => k_is)
    (case k33 => k_is)
    (case a34 => k_is)
    (case l34 => k_is)
    (case c34 => k_is)
    (case k34 => k_is)
    (case a35 => k_is)
    (case l35 => k_is)
    (case c35 => k_is)
    (case k35 => k_is)
    (case a36 => k_is)
    (case l36 => k_is)
    (case c36 => k_is)
    (case k36 => k_is)
    (case a37 => k_is)
    (case l37 => k_is)
    (case c37 => k_is)
    (case k37 => k_is)
    (case a38 => k_is)
    (case l38 => k_is)
    (case c38 => k_is)
    (case k38 => k_is)
    (case tN1 => kernel_rfl)
    (case tC1 => kernel_rfl)
    (case tN2 => kernel_rfl)
    (case tC2 => kernel_rfl)
    (case gCR => k_is)
    (case pgCR => k_is)
    (case hdCR => k_is)
    (case poCR => k_is)
    (case saCR => k_is)
    (case mkCR => k_is)
    (case kpCR => k_is)
    (case gCW => k_is)
    (case pgCW => k_is)
    (case hdCW => k_is)
    (case poCW => k_is)
    (case saCW => k_is)
    (case mkCW => k_is)
    (case kpCW => k_is)
    (case nR0 => k_is)
    (case nR1 => k_is)
    (case nW0 => k_is)
    (case nW1 => k_is)
    (case nW2 => k_is)
    (case gEB => k_is)
    (case gaEB => k_is)
    (case ggEB => k_is)
    (case exEB => k_is)
    (case hdEB => k_is)
    (case noEB => k_is)
    (case isEB => k_is)
    (case tyEB => k_is)
    (case gEN => k_is)
    (case gaEN => k_is)
    (case ggEN => k_is)
    (case exEN => k_is)
    (case hdEN => k_is)
    (case noEN => k_is)
    (case isEN => k_is)
    (case tyEN => k_is)
    (case gED => k_is)
    (case gaED => k_is)
    (case ggED => k_is)
    (case exED => k_is)
    (case hdED => k_is)
    (case noED => k_is)
    (case isED => k_is)
    (case tyED => k_is)
    (case gEM => k_is)
    (case gaEM => k_is)
    (case ggEM => k_is)
    (case exEM => k_is)
    (case hdEM => k_is)
    (case noEM => k_is)
    (case isEM => k_is)
    (case tyEM => k_is)
    (case sBB => first | rfl | k_is)
    (case sNB => first | rfl | k_is)
    (case sNN => first | rfl | k_is)
    (case sDB => first | rfl | k_is)
    (case sDN => first | rfl | k_is)
    (case sDD => first | rfl | k_is)
    (case sMB => first | rfl | k_is)
    (case sMN => first | rfl | k_is)
    (case sMD => first | rfl | k_is)
    (case sMM => first | rfl | k_is)
    (case xB => k_is)
    (case rB => first | decide +kernel | k_is)
    (case saB => k_is)
    (case kB => k_is)
    (case xD => k_is)
    (case rD => first | decide +kernel | k_is)
    (case saD => k_is)
    (case kD => k_is)
    (case a39 => k_is)
    (case i39 => k_is)
    (case l39 => k_is)
    (case c39 => k_is)
    (case k39 => k_is)
    (case a40 => k_is)
    (case i40 => k_is)
    (case l40 => k_is)
    (case c40 => k_is)
    (case k40 => k_is)
    (case a41 => k_is)
    (case i41 => k_is)
    (case l41 => k_is)
    (case c41 => k_is)
    (case k41 => k_is)
    (case a42 => k_is)
    (case i42 => k_is)
    (case l42 => k_is)
    (case c42 => k_is)
    (case k42 => k_is)
    (case a43 => k_is)
    (case i43 => k_is)
    (case l43 => k_is)
    (case c43 => k_is)
    (case k43 => k_is)
    (case a44 => k_is)
    (case i44 => k_is)
    (case l44 => k_is)
    (case c44 => k_is)
    (case k44 => k_is)
    (case a45 => k_is)
    (case i45 => k_is)
    (case l45 => k_is)
    (case c45 => k_is)
    (case k45 => k_is)
    (case a46 => k_is)
    (case i46 => k_is)
    (case l46 => k_is)
    (case c46 => k_is)
    (case k46 => k_is)
    (case a47 => k_is)
    (case i47 => k_is)
    (case l47 => k_is)
    (case c47 => k_is)
    (case k47 => k_is)
    (case a48 => k_is)
    (case i48 => k_is)
    (case l48 => k_is)
    (case c48 => k_is)
    (case k48 => k_is)
    (case z1 => k_is)
    (case z2 => k_is)
    (case z3 => k_is)
    (case z4 => k_is)
    (case z5 => k_is)
    (case z6 => k_is)
    (case z7 => k_is)
    (case z8 => k_is)
    (case z9 => k_is)
    (case z10 => k_is)
    (case z11 => k_is)
    (case z12 => k_is)
    (case z13 => k_is)
    (case z14 => k_is)
    (case y1 => k_is)
    (case y2 => k_is)
    (case y3 => k_is)
    (case y4 => k_is)
    (case y5 => k_is)
    (case y6 => k_is)
    (case y7 => k_is)
    (case y8 => k_is)
    (case y10 => k_is)
    (case y11 => k_is)
    (case y12 => exact ⟨⟨_, _, rfl, rfl⟩, ⟨_, _, rfl, rfl⟩, ⟨_, _, rfl, rfl⟩, ⟨_, _, rfl, rfl⟩, ⟨_, _, rfl, rfl⟩, trivial⟩)
    (case y16 => exact .cons ⟨_, _, rfl, rfl, _, rfl⟩ (.cons ⟨_, _, rfl, rfl, _, rfl⟩ (.cons ⟨_, _, rfl, rfl, _, rfl⟩ (.cons ⟨_, _, rfl, rfl, _, rfl⟩ (.cons ⟨_, _, rfl, rfl, _, rfl⟩ (.nil))))))
    (case y17 => first | rfl | decide +kernel | k_is)
    (case y13 => k_is)
    (case y14 => k_is)
    (case y15 => exact ⟨⟨_, _, rfl, rfl⟩, ⟨_, _, rfl, rfl⟩, ⟨_, _, rfl, rfl⟩, ⟨_, _, rfl, rfl⟩, ⟨_, _, rfl, rfl⟩, ⟨_, _, rfl, rfl⟩, ⟨_, _, rfl, rfl⟩, ⟨_, _, rfl, rfl⟩, trivial⟩)
    (case e5 => k_is)
    (case e6 => k_is)
    (case e7 => k_is)
    (case e8 => k_is)

