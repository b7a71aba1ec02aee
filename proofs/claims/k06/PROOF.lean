import PyProof.Rows.All
import Wide.All
import OpenK.AllK
import Wide.FinOn
import HandS.ForMost
import HandS.Wide
import HandS.IsInst
import HandS.TupAny
import HandS.Style
import HandS.Deep
import HandS.Conv
import HandS.Codes
import KE.KRevSl
import HandS.ForExc
import HandS.Lambda
import HandS.TryMany
import HandS.ExcInit
import HandS.ExcField
import HandS.Zip
import HandS.Walk
import HandS.More
import HandS.Comp
import HandS.ExcOwn
import PyProof.EnumMake
import PyProof.Draws
import KE.GoesMore
import HandS.ReplaceList
import HandS.ReplaceLit
import HandS.Replace
import HandS.SetTxt0
import HandS.Words
import HandS.Text
import PyProof.StrOps
import PyProof.P3Eq
import HandS.EndTab
import KE.KNestM
import PySem.Challenge.RW_alldeeds_k06_whole_ends_texts
set_option Elab.async false
set_option linter.all false
set_option maxRecDepth 100000
namespace My
open PySem L2

/-! ### the text by places -/
def top (i : Nat) : Stmt := PySem.Challenge.pw_alldeeds_k06_whole_ends_texts.main.body.getD i (.Pass ⟨0, 0, 0, 0⟩)

/-! ### a def that may be called -/
structure Cal (P : Program) (w : World) (K : PySem.W.Frag) (mg : Str → Option Value) (base : Heap) (x : Str) (k : Nat) (ps : List Str) (sp : Sp) where
  f : Addr
  fd : FuncData
  ok : FnOk P w K mg base CX0 k f fd ps sp
  m : mg x = some (.ref f)
  kp : PySem.W.keepIn K (.ref f) = true
  b : Binds K fd ps []
section
variable {X : Cx} {k j : Nat} {ps : List Str} {sp : Sp} {x : Str} {p pos : Pos} {e : Expr} {es : List Expr} {t : TA}
theorem pe_callC (C : Cal X.prog X.w X.K X.mg X.base x k ps sp) (hr : Room j X.A) (ha : PA X (e :: es) t) (hk : k ≤ j := by omega) (hg : Gl X x := by rfl) (hdb : (x == ("__debug__" : Str)) = false := by decide)
    (he : starEach (e :: es) X.env = (false, eval e X.env) :: starEach es X.env := by rfl) (hpl : (backTo pos (starEach es X.env)).any (·.1) = false := by rfl) :
    PE X (.Call (.Name x p) (e :: es) [] pos) (tCall sp [] E0 t) := pe_call C.ok (hr.mono hk) hg C.m C.kp C.b .nil pass0 ha hdb he hpl
theorem pe_globE {v : V} (h : ∃ u, X.mg x = some u ∧ RelV v u) (hg : Gl X x := by rfl) (hd : (x == ("__debug__" : Str)) = false := by decide) : PE X (.Name x pos) (tC v) := by
  obtain ⟨u, hm, r⟩ := h
  exact pe_glob hg hm r hd
end

/-! ### heaps: all but the object at d is kept -/
def Keep (d : Addr) (H H' : Hp) : Prop := ∀ b o, b ≠ d → H b = some o → H' b = some o
def IsDk (H : Hp) (d : Addr) : Prop := ∃ kvs : List (Key × V), H d = some (.dK kvs)
theorem Keep.refl (d : Addr) (H : Hp) : Keep d H H := fun _ _ _ h => h
theorem Keep.trans {d : Addr} {H H1 H2 : Hp} (a : Keep d H H1) (b : Keep d H1 H2) : Keep d H H2 := fun c o n h => b c o n (a c o n h)
theorem Same.toKeep {d : Addr} {H H' : Hp} (s : Same H H') : Keep d H H' := fun c o _ h => s c o h
theorem same_new {H : Hp} {p : Addr} (h : H p = none) (o : HO) : Same H (upd H p o) := fun b u q => by rw [upd_ne (ne_of_none q h)]; exact q
theorem keep_put {d : Addr} {H : Hp} (o : HO) : Keep d H (upd H d o) := fun b u n q => by rw [upd_ne n]; exact q
theorem rd_keep {d : Addr} {H H' : Hp} {a : Addr} {o : HO} (hd : IsDk H d) (k : Keep d H H') (ho : ∀ kvs, o ≠ .dK kvs) (r : Rd H a o) : Rd H' a o := by
  obtain ⟨kvs, hd⟩ := hd
  have ne : a ≠ d := by
    rintro rfl
    rcases r with r | ⟨ob, r⟩
    · rw [hd] at r; exact ho _ (Option.some.inj r).symm
    · rw [hd] at r; cases r
  rcases r with r | ⟨ob, r⟩
  · exact .inl (k _ _ ne r)
  · exact .inr ⟨ob, k _ _ ne r⟩
variable {K : PySem.W.Frag}
theorem seqL_keep {d : Addr} {H H' : Hp} {a : Addr} {xs : List V} (hd : IsDk H d) (k : Keep d H H') (r : SqL K H a xs) : SqL K H' a xs := by
  rcases r with r | r
  · exact .inl (rd_keep hd k (fun _ z => by cases z) r)
  · exact .inr r
theorem seqT_keep {d : Addr} {H H' : Hp} {a : Addr} {xs : List V} (hd : IsDk H d) (k : Keep d H H') (r : SqT K H a xs) : SqT K H' a xs := by
  rcases r with r | r
  · exact .inl (rd_keep hd k (fun _ z => by cases z) r)
  · exact .inr r
mutual
theorem dp_keep {d : Addr} {H H' : Hp} (hd : IsDk H d) (k : Keep d H H') : ∀ (D : PyData) (v : V), Dp K H v D → Dp K H' v D
  | .none, _, h => by cases h; exact .non
  | .bool b, _, h => by cases h; exact .bl b
  | .int i, _, h => by cases h; exact .int i
  | .str x, _, h => by cases h; exact .str x
  | .list ds, _, h => by cases h with | lst hs ha => exact .lst (seqL_keep hd k hs) (dpAll_keep hd k ds _ ha)
  | .tuple ds, _, h => by cases h with | tup hs ha => exact .tup (seqT_keep hd k hs) (dpAll_keep hd k ds _ ha)
  | .dict _, _, h => by cases h
theorem dpAll_keep {d : Addr} {H H' : Hp} (hd : IsDk H d) (k : Keep d H H') : ∀ (Ds : List PyData) (vs : List V), DpAll K H vs Ds → DpAll K H' vs Ds
  | [], _, h => by cases h; exact .nil
  | D :: Ds, _, h => by cases h with | cons h1 h2 => exact .cons (dp_keep hd k D _ h1) (dpAll_keep hd k Ds _ h2)
end
/-- .. the same where nothing is changed -/
theorem rd_same {H H' : Hp} {a : Addr} {o : HO} (k : Same H H') (r : Rd H a o) : Rd H' a o := by
  rcases r with r | ⟨ob, r⟩
  · exact .inl (k _ _ r)
  · exact .inr ⟨ob, k _ _ r⟩
theorem seqT_same {H H' : Hp} {a : Addr} {xs : List V} (k : Same H H') (r : SqT K H a xs) : SqT K H' a xs := by
  rcases r with r | r
  · exact .inl (rd_same k r)
  · exact .inr r
mutual
theorem dp_same {H H' : Hp} (k : Same H H') : ∀ (D : PyData) (v : V), Dp K H v D → Dp K H' v D
  | .none, _, h => by cases h; exact .non
  | .bool b, _, h => by cases h; exact .bl b
  | .int i, _, h => by cases h; exact .int i
  | .str x, _, h => by cases h; exact .str x
  | .list ds, _, h => by cases h with | lst hs ha => exact .lst (k.seq hs) (dpAll_same k ds _ ha)
  | .tuple ds, _, h => by cases h with | tup hs ha => exact .tup (seqT_same k hs) (dpAll_same k ds _ ha)
  | .dict _, _, h => by cases h
theorem dpAll_same {H H' : Hp} (k : Same H H') : ∀ (Ds : List PyData) (vs : List V), DpAll K H vs Ds → DpAll K H' vs Ds
  | [], _, h => by cases h; exact .nil
  | D :: Ds, _, h => by cases h with | cons h1 h2 => exact .cons (dp_same k D _ h1) (dpAll_same k Ds _ h2)
end

/-! ### what isinstance says of data -/
def tagOf : PyData → String
  | .none => "NoneType" | .bool _ => "bool" | .int _ => "int" | .str _ => "str" | .list _ => "list" | .tuple _ => "tuple" | .dict _ => "dict"
theorem tyx_of {H : Hp} {v : V} {D : PyData} (h : Dp K H v D) : TyX K H v (.type (tagOf D)) := by
  cases h with
  | non => exact .base .non
  | bl b => exact .base (.bl b)
  | int i => exact .base (.int i)
  | str x => exact .base (.str x)
  | lst hs _ =>
    rcases hs with (hs | ⟨o, hs⟩) | ⟨o, its, n, lk, c, _⟩
    · exact .base (.lst hs)
    · exact .base (.frz hs)
    · exact .kList lk c
  | tup hs _ =>
    rcases hs with (hs | ⟨o, hs⟩) | ⟨o, its, n, lk, c, _⟩
    · exact .base (.tup hs)
    · exact .fTuple hs
    · exact .kTuple lk c
def isStrD : PyData → Bool | .str _ => true | _ => false
def isTupD : PyData → Bool | .tuple _ => true | _ => false
def isBoolD : PyData → Bool | .bool _ => true | _ => false
theorem kit_str (D : PyData) : PySem.W.kitOne K (.type (tagOf D)) (.type "str") = some (isStrD D) := by
  cases D <;> (refine kit_ty ?_; simp only [tagOf, isStrD]; decide +kernel)
theorem kit_tuple (D : PyData) : PySem.W.kitOne K (.type (tagOf D)) (.type "tuple") = some (isTupD D) := by
  cases D <;> (refine kit_ty ?_; simp only [tagOf, isTupD]; decide +kernel)
theorem kit_bool (D : PyData) : PySem.W.kitOne K (.type (tagOf D)) (.type "bool") = some (isBoolD D) := by
  cases D <;> (refine kit_ty ?_; simp only [tagOf, isBoolD]; decide +kernel)
theorem kit_dict_str : PySem.W.kitOne K (.type "dict") (.type "str") = some false := kit_ty (by decide +kernel)
theorem kit_dict_tuple : PySem.W.kitOne K (.type "dict") (.type "tuple") = some false := kit_ty (by decide +kernel)

/-! ### a comprehension over a text -/
theorem lc_str {x : Str} {g : TG} {tt : TT} {te : TE} {vs : List Nat} {σ : St} {H1 : Hp} {D : Addr} {Qd : Hp → Prop} (Pv : Nat → Hp → Prop) (h0 : Pv 0 (upd H1 D (.lst [])))
    (hs : ∀ i c H, x.cps.toList[i]? = some c → Pv i H → g (.str ⟨#[c]⟩) (wipe σ vs) H fun σ2 H2 => wipe σ2 vs = wipe σ vs ∧ tt σ2 H2 fun b H3 =>
      if b = true then te σ2 H3 fun y H4 => ∃ acc, H4 D = some (.lst acc) ∧ acc.length < sizeLine ∧ Pv (i + 1) (upd H4 D (.lst (acc ++ [y]))) else Pv (i + 1) H3) (hd : ∀ H, Pv x.cps.toList.length H → Qd H) :
    ∃ W : Nat → Nat → Hp → Prop, (∃ m, W 0 m (upd H1 D (.lst []))) ∧ ∀ i m H, W i m H →
      ((Its x).stop i H ∧ Qd H) ∨ ((Its x).go i H ∧ ∃ Nx : Hp → Prop, (∀ H', Nx H' → ∃ m', m' < m ∧ W (i + 1) m' H') ∧ ∀ x_1 H', (Its x).yld i H x_1 H' → g x_1 (wipe σ vs) H' fun σ2 H2 => wipe σ2 vs = wipe σ vs ∧ tt σ2 H2 fun b H3 =>
        if b = true then te σ2 H3 fun y H4 => ∃ acc, H4 D = some (.lst acc) ∧ acc.length < sizeLine ∧ Nx (upd H4 D (.lst (acc ++ [y]))) else Nx H3) := by
  refine ⟨fun i m H => m = x.cps.size - i ∧ i ≤ x.cps.size ∧ Pv i H, ⟨x.cps.size, by simp, Nat.zero_le _, h0⟩, ?_⟩
  rintro i m H ⟨rfl, hi, p⟩
  by_cases hlt : i < x.cps.size
  · refine .inr ⟨hlt, Pv (i + 1), fun H' p' => ⟨x.cps.size - (i + 1), by omega, rfl, hlt, p'⟩, fun v H' y => ?_⟩
    obtain ⟨e, c, hc, ev⟩ := y
    subst e ev
    exact hs i c _ (by rw [Array.getElem?_toList]; exact hc) p
  · have e : i = x.cps.size := by omega
    subst e
    exact .inl ⟨Nat.le_refl _, hd H p⟩
theorem same_fresh {H H' : Hp} {D : Addr} {o : HO} (k : Same H H') (n : H D = none) : Same H (upd H' D o) := fun b u q => by rw [upd_ne (ne_of_none q n)]; exact k _ _ q
theorem keep_fresh {d : Addr} {H H' : Hp} {D : Addr} {o : HO} (k : Keep d H H') (n : H D = none) : Keep d H (upd H' D o) := fun b u nd q => by rw [upd_ne (ne_of_none q n)]; exact k _ _ nd q
theorem take_next {α : Type} {xs : List α} {i : Nat} {c : α} (h : xs[i]? = some c) : xs.take (i + 1) = xs.take i ++ [c] := by
  rw [List.take_add_one, h]
  rfl

/-! ### names and forms -/
def zLetters : Str := Str.ofString "abcdefghijklmnopqrstuvwxyz"
def zDigits : Str := Str.ofString "0123456789"
def isL (c : Nat) : Bool := decide (c ∈ zLetters.cps.toList)
def isLD (c : Nat) : Bool := isL c || decide (c ∈ zDigits.cps.toList)
def isName (z : Str) : Bool := decide (1 ≤ z.length ∧ z.length ≤ 12) && ((z.cps.toList.head?.any isL) && z.cps.toList.all isLD)
def isNameD : PyData → Bool | .str z => isName z | _ => false
theorem inV_str (x : Str) : ∀ zs : List Str, inV (.str x) (zs.map V.str) = decide (x ∈ zs)
  | [] => by simp [inV]
  | z :: zs => by
    have ih := inV_str x zs
    unfold inV at ih ⊢
    rw [List.map_cons, List.any_cons, ih]
    by_cases e : z = x
    · subst e
      simp [eqV]
    · have e' : ¬ x = z := fun q => e q.symm
      simp [eqV, e, e']
def leafW : List Str := [Str.ofString "good", Str.ofString "counter"]
def halfW : List Str := [Str.ofString "both", Str.ofString "between", Str.ofString "offered", Str.ofString "chosen"]
def isForm : Nat → PyData → Bool
  | _, .tuple [.str x, n] => decide (x ∈ leafW) && isNameD n
  | 0, _ => false
  | k + 1, .tuple [.str x, a, b] => decide (x ∈ halfW) && (isForm k a && isForm k b)
  | _ + 1, _ => false
theorem isForm_tup2 (k : Nat) (a n : PyData) : isForm k (.tuple [a, n]) = (match a with | .str x => decide (x ∈ leafW) && isNameD n | _ => false) := by
  cases k <;> cases a <;> rfl
theorem isForm_tup3_0 (a b c : PyData) : isForm 0 (.tuple [a, b, c]) = false := by cases a <;> rfl
theorem isForm_tup3 (k : Nat) (a b c : PyData) : isForm (k + 1) (.tuple [a, b, c]) = (match a with | .str x => decide (x ∈ halfW) && (isForm k b && isForm k c) | _ => false) := by
  cases a <;> rfl
theorem isForm_tup_len (k : Nat) (ds : List PyData) (h2 : ds.length ≠ 2) (h3 : ds.length ≠ 3) : isForm k (.tuple ds) = false := by
  match ds, h2, h3 with
  | [], _, _ => cases k <;> rfl
  | [a], _, _ => cases k <;> cases a <;> rfl
  | [a, b], h, _ => exact absurd rfl h
  | [a, b, c], _, h => exact absurd rfl h
  | a :: b :: c :: d :: r, _, _ => cases k <;> cases a <;> rfl
theorem isForm_not_tup (k : Nat) (D : PyData) (h : isTupD D = false) : isForm k D = false := by
  cases D with
  | tuple ds => cases h
  | _ => cases k <;> rfl
def okStr (z : Str) : Bool := decide (z.length ≤ 1000) && z.cps.toList.all fun c => decide (c < 128)
mutual
def shortD : PyData → Bool
  | .str z => okStr z
  | .list xs => shortAll xs
  | .tuple xs => shortAll xs
  | .dict _ => false
  | _ => true
def shortAll : List PyData → Bool
  | [] => true
  | d :: ds => shortD d && shortAll ds
end
theorem shortAll_cons {d : PyData} {ds : List PyData} (h : shortAll (d :: ds) = true) : shortD d = true ∧ shortAll ds = true := by
  unfold shortAll at h
  exact Bool.and_eq_true_iff.mp h
theorem short_str {D : PyData} (h : shortD D = true) : ∀ z, D = .str z → z.length ≤ 1000 := by
  rintro z rfl
  unfold shortD okStr at h
  exact of_decide_eq_true (Bool.and_eq_true_iff.mp h).1
theorem strOk_of {z : Str} (h : okStr z = true) : PyData.strOk z = true := by
  unfold okStr at h
  unfold PyData.strOk
  have h2 := (Bool.and_eq_true_iff.mp h).2
  rw [List.all_eq_true] at h2
  rw [Array.all_eq_true']
  intro c hc
  have := of_decide_eq_true (h2 c (Array.mem_toList_iff.mpr hc))
  exact decide_eq_true (by omega)
mutual
theorem canLay_of : ∀ D : PyData, shortD D = true → D.canLay0 = true
  | .none, _ => by simp only [PyData.canLay0]
  | .bool _, _ => by simp only [PyData.canLay0]
  | .int _, _ => by simp only [PyData.canLay0]
  | .str x, h => by
    unfold shortD at h
    simp only [PyData.canLay0]
    exact strOk_of h
  | .list xs, h => by
    unfold shortD at h
    simp only [PyData.canLay0]
    exact canLayAll_of xs h
  | .tuple xs, h => by
    unfold shortD at h
    simp only [PyData.canLay0]
    exact canLayAll_of xs h
  | .dict _, h => by cases h
theorem canLayAll_of : ∀ xs : List PyData, shortAll xs = true → PyData.canLayAll0 xs = true
  | [], _ => by simp only [PyData.canLayAll0]
  | x :: xs, h => by
    have h' := shortAll_cons h
    simp only [PyData.canLayAll0, canLay_of x h'.1, canLayAll_of xs h'.2, Bool.and_self]
end
theorem shaped_of {D : PyData} (h : shortD D = true) (d : D.depth ≤ 64) : SeqAt.shaped D = true := by
  unfold SeqAt.shaped
  rw [canLay_of D h, decide_eq_true d]
  rfl
theorem depth_in {d : PyData} {ds : List PyData} (h : d ∈ ds) : d.depth + 1 ≤ (PyData.tuple ds).depth := by
  have key : ∀ ds : List PyData, d ∈ ds → d.depth ≤ PyData.depthAll ds := by
    intro ds
    induction ds with
    | nil => intro h; cases h
    | cons x xs ih =>
      intro h
      simp only [PyData.depthAll]
      rcases List.mem_cons.mp h with rfl | h
      · exact Nat.le_max_left _ _
      · exact Nat.le_trans (ih h) (Nat.le_max_right _ _)
  simp only [PyData.depth]
  have := key ds h
  omega
def memD (d : PyData) (zs : List Str) : Bool := match d with | .str x => decide (x ∈ zs) | _ => false
theorem any_eqv (d : PyData) : ∀ zs : List Str, ((zs.map PyData.str).any fun z => PyData.eqv z d) = memD d zs
  | [] => by cases d <;> rfl
  | z :: zs => by
    rw [List.map_cons, List.any_cons, any_eqv d zs]
    cases d with
    | str x =>
      unfold memD PyData.eqv
      by_cases e : z = x
      · subst e; simp
      · have e' : ¬ x = z := fun q => e q.symm
        simp [e, e']
    | _ => simp [memD, PyData.eqv]
theorem dpAll_strs {H : Hp} : ∀ zs : List Str, DpAll K H (zs.map V.str) (zs.map PyData.str)
  | [] => .nil
  | z :: zs => .cons (.str z) (dpAll_strs zs)
theorem dpAll_len {H : Hp} : ∀ {xs : List V} {ds : List PyData}, DpAll K H xs ds → xs.length = ds.length
  | _, _, .nil => rfl
  | _, _, .cons _ t => congrArg (· + 1) (dpAll_len t)
theorem inV_23 (n : Nat) : inV (.int n) [.int 2, .int 3] = (decide (n = 2) || decide (n = 3)) := by
  unfold inV
  simp only [List.any_cons, List.any_nil, Bool.or_false]
  have h2 : eqV (.int 2) (.int (n : Int)) = decide (n = 2) := by
    by_cases e : n = 2
    · subst e; rfl
    · rw [decide_eq_false e]
      show (if _ then _ else _) = _ <;> simp [eqV] <;> omega
  have h3 : eqV (.int 3) (.int (n : Int)) = decide (n = 3) := by
    by_cases e : n = 3
    · subst e; rfl
    · rw [decide_eq_false e]
      simp [eqV]
      omega
  rw [h2, h3]
end My

set_option Elab.async false
set_option linter.all false
set_option maxRecDepth 100000
namespace My
open PySem L2

structure Txt (K : PySem.W.Frag) (mg : Str → Option Value) where
  isinstance : mg "isinstance" = none
  len : mg "len" = none
  all : mg "all" = none
  str : mg "str" = none
  tuple : mg "tuple" = none
  int : mg "int" = none
  list : mg "list" = none
  abs : mg "abs" = none
  max : mg "max" = none
  min : mg "min" = none
  range : mg "range" = none
  bool : mg "bool" = none
  LETTERS : ∃ u, mg "LETTERS" = some u ∧ RelV (.str zLetters) u
  DIGITS : ∃ u, mg "DIGITS" = some u ∧ RelV (.str zDigits) u
  LONGEST_NAME : ∃ u, mg "LONGEST_NAME" = some u ∧ RelV (.int 12) u
  DEEPEST : ∃ u, mg "DEEPEST" = some u ∧ RelV (.int 12) u
  aLeaf : Addr
  LEAF_WORDS : ∃ u, mg "LEAF_WORDS" = some u ∧ RelV (.ref aLeaf) u
  sLeaf : ∀ H, SqT K H aLeaf (leafW.map V.str)
  aHalf : Addr
  HALVED_WORDS : ∃ u, mg "HALVED_WORDS" = some u ∧ RelV (.ref aHalf) u
  sHalf : ∀ H, SqT K H aHalf (halfW.map V.str)

/-- what is said of a name -/
def spName (K : PySem.W.Frag) : Sp := fun vs H Q _ => ∃ v, vs = [v] ∧
  ((∃ D, Dp K H v D ∧ (∀ z, D = .str z → z.length ≤ 1000) ∧ ∀ H', Same H H' → Q (.bl (isNameD D)) H') ∨ ((∃ (a : Addr) (kvs : List (Key × V)), v = .ref a ∧ H a = some (.dK kvs)) ∧ ∀ H', Same H H' → Q (.bl false) H'))

abbrev sfits_name : Stmt := top 15
abbrev Nfits_name : List Str := ["value", "sign"]
abbrev Pfits_name : List Str := ["value"]
theorem scfits_name : FnScope Nfits_name Pfits_name (defScope sfits_name) := ⟨rfl, rfl, rfl, by decide +kernel, rfl, by decide +kernel, by decide +kernel⟩
section
variable {P : Program} {w : World} {K : PySem.W.Frag} {mg : Str → Option Value} {base : Heap} {f : Addr} {fd : FuncData}

theorem ok_fits_name (T : Txt K mg) (F : Fun K "fits_name" "fits_name" sfits_name f fd) : FnOk P w K mg base CX0 2 f fd Pfits_name (spName K) := by
  refine F.ok scfits_name (fun vs H Q E h => ?_) (fun cdv A outer s H vs Q E hr h => ?_)
  · obtain ⟨v, rfl, _⟩ := h
    rfl
  obtain ⟨v, rfl, h⟩ := h
  refine ⟨_, (pss_cons (ps_if (PW.pt (pw_or (pt_not (pt_val (pe_callB call_isi rfl T.isinstance (by decide +kernel) (pa_cons (pv 0) (pa_cons (pe_bltn (v := .ty "str") rfl T.str (by decide +kernel) rfl) pa_nil))))) (pw_or1 (pt_not (pt_chain op_le op_le pe_int (pe_callB call_len rfl T.len (by decide +kernel) (pa_cons (pv 0) pa_nil)) (pe_globE T.LONGEST_NAME))))))
    (pss_one (ps_ret pe_bl))
    pss_nil)
  (pss_one (ps_ret (pe_and (pe_cmpR op_in_sign (pe_ix ix_seq (pv 0) pe_int (fun _ _ => rfl)) (pe_globE T.LETTERS) rfl) (pe_one (pe_callB (cr_all rfl) rfl T.all (by decide +kernel) (pa_cons (pe_lc (own := [("sign", 1)]) (g := (gName 1)) rfl scfits_name.nd (pi_str (pv 0)) (blkOk_by (own := [("sign", 1)]) (N := Nfits_name) (sc := defScope sfits_name) (by decide +kernel)) (fun _ _ _ _ _ => (pg_name (i := 1) scfits_name.nd rfl (Or.inl rfl))) (fun _ _ _ _ _ => pts_nil) (fun _ _ _ _ _ => (pe_or (pe_cmpR op_in_sign (pv 1) (pe_globE T.LETTERS) rfl) (pe_one (pe_cmpR op_in_sign (pv 1) (pe_globE T.DIGITS) rfl))))) pa_nil))))))), ?_⟩
  rcases h with ⟨D, hv, hz, q⟩ | ⟨⟨a, kvs, rfl, ha⟩, q⟩
  · refine ⟨_, rfl, _, _, _, _, _, rfl, .ty "str", tyx_of hv, kit_str D, _, rfl, ?_⟩
    by_cases hs : isStrD D = true
    · cases D with
      | str z =>
        cases hv
        have hz' : z.length ≤ 1000 := hz z rfl
        have hz2 : z.length ≤ sizeLine := Nat.le_of_lt (small1000 hz')
        refine iteF ⟨_, rfl, _, _, rfl, ⟨hz2, rfl⟩, 1, _, rfl, rfl, _, rfl, ?_⟩
        refine ite2 (fun c1 => ?_) (fun c1 => ?_)
        · refine ⟨_, _, rfl, rfl, _, rfl, ?_⟩
          by_cases c2 : (z.length : Int) ≤ 12
          · rw [decide_eq_true c2]
            have c1' : (1 : Int) ≤ z.length := of_decide_eq_true c1
            refine iteF ?_
            obtain ⟨c, hc⟩ : ∃ c, z.cps.toList[0]? = some c := ⟨_, List.getElem?_eq_getElem (by rw [Array.length_toList]; show 0 < z.length; omega)⟩
            refine ⟨_, rfl, .inr (.inr ⟨z, 0, c, rfl, rfl, hz2, atI_nat hc, c, zLetters, rfl, rfl, _, rfl, ?_⟩)⟩
            have hh : z.cps.toList.head? = some c := by rw [List.head?_eq_getElem?]; exact hc
            have en : isNameD (.str z) = (isL c && z.cps.toList.all isLD) := by
              show isName z = _
              unfold isName
              rw [hh, decide_eq_true (by omega : 1 ≤ z.length ∧ z.length ≤ 12)]
              rfl
            rw [en] at q
            refine ite2 (fun c3 => ?_) (fun c3 => ?_)
            · have c3' : isL c = true := c3
              rw [c3'] at q
              refine ⟨_, rfl, z, rfl, fun D nD => lc_str (x := z) (fun i H' => Same H H' ∧ H' D = some (.lst (((z.cps.toList.take i).map isLD).map V.bl))) ⟨same_new nD _, upd_same⟩ (fun i c H' hc ⟨k, e⟩ => ?_) (fun H' ⟨k, e⟩ => ?_)⟩
              · refine ⟨rfl, _, rfl, c, zLetters, rfl, rfl, _, rfl, ?_⟩
                have fin : ∀ b : Bool, b = isLD c → ∃ acc, H' D = some (HO.lst acc) ∧ acc.length < sizeLine ∧ Same H (upd H' D (.lst (acc ++ [.bl b]))) ∧
                    upd H' D (.lst (acc ++ [.bl b])) D = some (HO.lst (((z.cps.toList.take (i + 1)).map isLD).map V.bl)) := fun b eb => by
                  refine ⟨_, e, small1000 ?_, same_fresh k nD, ?_⟩
                  · rw [List.length_map, List.length_map, List.length_take]
                    have : z.cps.toList.length = z.length := Array.length_toList
                    omega
                  · rw [upd_same, take_next hc, List.map_append, List.map_append, eb]
                    rfl
                refine ite2 (fun c4 => ?_) (fun c4 => ?_)
                · refine fin true ?_
                  have : isL c = true := c4
                  unfold isLD
                  rw [this]
                  rfl
                · refine ⟨_, rfl, c, zDigits, rfl, rfl, ?_⟩
                  have : isL c = false := Bool.eq_false_iff.mpr c4
                  refine fin _ ?_
                  unfold isLD
                  rw [this]
                  rfl
              · rw [List.take_length] at e
                have g := q H' k
                refine ⟨D, z.cps.toList.map isLD, rfl, SqL.of e, ?_⟩
                have e2 : (z.cps.toList.map isLD).all id = z.cps.toList.all isLD := by rw [List.all_map]; rfl
                rw [e2]
                exact g
            · have c3' : isL c = false := Bool.eq_false_iff.mpr c3
              rw [c3'] at q
              exact q H (Same.refl H)
          · rw [decide_eq_false c2]
            refine iteT ?_
            have en : isNameD (.str z) = false := by
              show isName z = _
              unfold isName
              rw [decide_eq_false (by omega)]
              rfl
            rw [en] at q
            exact q H (Same.refl H)
        · have c1' : ¬ (1 : Int) ≤ z.length := fun c => c1 (decide_eq_true c)
          refine ⟨_, rfl, iteT ?_⟩
          have en : isNameD (.str z) = false := by
            show isName z = _
            unfold isName
            rw [decide_eq_false (by omega)]
            rfl
          rw [en] at q
          exact q H (Same.refl H)
      | _ => cases hs
    · have e : isNameD D = false := by cases D <;> first | rfl | exact absurd rfl hs
      rw [Bool.not_eq_true] at hs
      rw [hs]
      refine iteT (iteT ?_)
      have q' := q H (Same.refl H)
      rw [e] at q'
      exact q'
  · exact ⟨_, rfl, _, _, _, _, _, rfl, .ty "str", .base (.dK ha), kit_dict_str, _, rfl, iteT (iteT (q H (Same.refl H)))⟩
end
end My

set_option Elab.async false
set_option linter.all false
set_option maxRecDepth 100000
namespace My
open PySem L2
abbrev sfits_form : Stmt := top 16
abbrev Nfits_form : List Str := ["value", "room"]
abbrev Pfits_form : List Str := ["value", "room"]
theorem scfits_form : FnScope Nfits_form Pfits_form (defScope sfits_form) := ⟨rfl, rfl, rfl, by decide +kernel, rfl, by decide +kernel, by decide +kernel⟩

def spForm (K : PySem.W.Frag) (n : Nat) : Sp := fun vs H Q _ => ∃ (v : V) (k : Nat), vs = [v, .int k] ∧ k < n ∧
  ((∃ D, Dp K H v D ∧ shortD D = true ∧ ∀ H', Same H H' → Q (.bl (isForm k D)) H') ∨ ((∃ (a : Addr) (kvs : List (Key × V)), v = .ref a ∧ H a = some (.dK kvs)) ∧ ∀ H', Same H H' → Q (.bl false) H'))
section
variable {P : Program} {w : World} {K : PySem.W.Frag} {mg : Str → Option Value} {base : Heap} {f : Addr} {fd : FuncData}

theorem ok_fits_form {n : Nat} (T : Txt K mg) (F : Fun K "fits_form" "fits_form" sfits_form f fd) (Cfits_name : Cal P w K mg base "fits_name" 2 ["value"] (spName K)) (Cfits_form : Cal P w K mg base "fits_form" (2 + n) ["value", "room"] (spForm K n)) :
    FnOk P w K mg base CX0 (2 + n + 1) f fd Pfits_form (spForm K (n + 1)) := by
  refine F.ok scfits_form (fun vs H Q E h => ?_) (fun cdv A outer s H vs Q E hr h => ?_)
  · obtain ⟨v, k, rfl, _⟩ := h
    rfl
  obtain ⟨v, k, rfl, hk, h⟩ := h
  refine ⟨_, (pss_cons (ps_if (PW.pt (pw_or (pt_not (pt_val (pe_callB call_isi rfl T.isinstance (by decide +kernel) (pa_cons (pv 0) (pa_cons (pe_bltn (v := .ty "tuple") rfl T.tuple (by decide +kernel) rfl) pa_nil))))) (pw_or (pt_cmpR op_notIn_seq (pe_callB call_len rfl T.len (by decide +kernel) (pa_cons (pv 0) pa_nil)) (pe_tup (pa_cons pe_int (pa_cons pe_int pa_nil))) rfl) (pw_or1 (pt_not (pt_val (pe_callB call_isi rfl T.isinstance (by decide +kernel) (pa_cons (pe_ix ix_tup (pv 0) pe_int (fun _ _ => rfl)) (pa_cons (pe_bltn (v := .ty "str") rfl T.str (by decide +kernel) rfl) pa_nil)))))))))
    (pss_one (ps_ret pe_bl))
    pss_nil)
  (pss_cons (ps_if (pt_cmpR op_eq (pe_callB call_len rfl T.len (by decide +kernel) (pa_cons (pv 0) pa_nil)) pe_int (nomark _))
    (pss_one (ps_ret (pe_and (pe_cmpR op_in_seq (pe_ix ix_tup (pv 0) pe_int (fun _ _ => rfl)) (pe_globE T.LEAF_WORDS) rfl) (pe_one (pe_callC Cfits_name hr (pa_cons (pe_ix ix_tup (pv 0) pe_int (fun _ _ => rfl)) pa_nil))))))
    pss_nil)
  (pss_cons (ps_if (PW.pt (pw_or (pt_cmpR op_notIn_seq (pe_ix ix_tup (pv 0) pe_int (fun _ _ => rfl)) (pe_globE T.HALVED_WORDS) rfl) (pw_or1 (pt_cmpR op_eq (pv 1) pe_int (nomark _)))))
    (pss_one (ps_ret pe_bl))
    pss_nil)
  (pss_one (ps_ret (pe_and (pe_callC Cfits_form hr (pa_cons (pe_ix ix_tup (pv 0) pe_int (fun _ _ => rfl)) (pa_cons (pe_op op_sub (pv 1) pe_int) pa_nil))) (pe_one (pe_callC Cfits_form hr (pa_cons (pe_ix ix_tup (pv 0) pe_int (fun _ _ => rfl)) (pa_cons (pe_op op_sub (pv 1) pe_int) pa_nil)))))))))), ?_⟩
  rcases h with ⟨D, hv, hz, q⟩ | ⟨⟨a, kvs, rfl, ha⟩, q⟩
  · refine ⟨_, rfl, _, _, _, _, _, rfl, .ty "tuple", tyx_of hv, kit_tuple D, _, rfl, ?_⟩
    by_cases hs : isTupD D = true
    · cases D with
      | tuple ds =>
        cases hv with
        | @tup a xs _ hT hA =>
        have hl := dpAll_len hA
        refine iteF ⟨_, rfl, _, _, rfl, .inr ⟨xs, hT, rfl⟩, by show 2 ≤ sizeLine; decide, fun p np => ?_⟩
        have S1 : Same H (upd H p (.tup [.int 2, .int 3])) := same_new np _
        refine ⟨p, _, rfl, .inr (SqT.of upd_same), rfl, rfl, _, rfl, ?_⟩
        show (if (!inV (.int (xs.length : Nat)) [.int 2, .int 3]) = true then _ else _)
        rw [inV_23]
        match ds, xs, hA, hl with
        | [], [], hA, _ =>
          rw [isForm_tup_len _ _ (by simp) (by simp)] at q
          exact iteT (iteT (q _ S1))
        | [d], [x], hA, _ =>
          rw [isForm_tup_len _ _ (by simp) (by simp)] at q
          exact iteT (iteT (q _ S1))
        | [d, e], [x, y], hA, _ =>
          cases hA with | cons hx hA => cases hA with | cons hy _ =>
          have hzx := shortAll_cons (show shortAll [d, e] = true from by unfold shortD at hz; exact hz)
          have hzy := (shortAll_cons hzx.2).1
          refine ⟨_, rfl, a, _, _, x, rfl, rfl, seqT_same S1 hT, rfl, _, _, _, _, _, rfl, .ty "str", tyx_of (dp_same S1 _ _ hx), kit_str d, _, rfl, ?_⟩
          rw [isForm_tup2] at q
          by_cases hd : isStrD d = true
          · cases d with
            | str z =>
              cases hx
              refine iteF ⟨_, rfl, _, _, rfl, .inr ⟨_, seqT_same S1 hT, rfl⟩, rfl, _, rfl, ?_⟩
              refine iteT ⟨_, rfl, a, _, _, _, rfl, rfl, seqT_same S1 hT, rfl, T.aLeaf, _, rfl, .inr (T.sLeaf _), rfl, rfl, _, rfl, ?_⟩
              show (if inV (.str z) (leafW.map V.str) = true then _ else _)
              rw [inV_str]
              by_cases hm : z ∈ leafW
              · rw [decide_eq_true hm]
                refine iteT ⟨_, rfl, a, _, _, y, rfl, rfl, seqT_same S1 hT, rfl, y, rfl, .inl ⟨e, dp_same S1 _ _ hy, short_str hzy, fun H' S2 => ?_⟩⟩
                have g := q H' (S1.trans S2)
                simp only [decide_eq_true hm, Bool.true_and] at g
                exact g
              · rw [decide_eq_false hm]
                have g := q _ S1
                simp only [decide_eq_false hm, Bool.false_and] at g
                exact iteF g
            | _ => cases hd
          · rw [Bool.not_eq_true] at hd
            rw [hd]
            have g := q _ S1
            have g2 : Q (.bl false) (upd H p (.tup [.int 2, .int 3])) := by
              cases d <;> first | exact g | cases hd
            exact g2
        | [d, e, g], [x, y, z], hA, _ =>
          cases hA with | cons hx hA => cases hA with | cons hy hA => cases hA with | cons hw _ =>
          have hzx := shortAll_cons (show shortAll [d, e, g] = true from by unfold shortD at hz; exact hz)
          have hzy := shortAll_cons hzx.2
          have hzw := (shortAll_cons hzy.2).1
          refine ⟨_, rfl, a, _, _, x, rfl, rfl, seqT_same S1 hT, rfl, _, _, _, _, _, rfl, .ty "str", tyx_of (dp_same S1 _ _ hx), kit_str d, _, rfl, ?_⟩
          by_cases hd : isStrD d = true
          · cases d with
            | str t =>
              cases hx
              refine iteF ⟨_, rfl, _, _, rfl, .inr ⟨_, seqT_same S1 hT, rfl⟩, rfl, _, rfl, ?_⟩
              refine iteF ⟨_, rfl, a, _, _, _, rfl, rfl, seqT_same S1 hT, rfl, T.aHalf, _, rfl, .inr (T.sHalf _), rfl, rfl, _, rfl, ?_⟩
              show (if (!inV (.str t) (halfW.map V.str)) = true then _ else _)
              rw [inV_str]
              cases k with
              | zero =>
                rw [isForm_tup3_0] at q
                by_cases hm : t ∈ halfW
                · rw [decide_eq_true hm]
                  exact iteF ⟨_, rfl, rfl, _, rfl, iteT (q _ S1)⟩
                · rw [decide_eq_false hm]
                  exact iteT (iteT (q _ S1))
              | succ k =>
                rw [isForm_tup3] at q
                by_cases hm : t ∈ halfW
                · rw [decide_eq_true hm]
                  refine iteF ⟨_, rfl, rfl, _, rfl, ?_⟩
                  have ek : ¬ V.int ((k + 1 : Nat) : Int) = V.int 0 := fun z => by
                    have := V.int.inj z
                    omega
                  rw [decide_eq_false ek]
                  have e1 : ((k + 1 : Nat) : Int) - 1 = (k : Int) := by omega
                  refine iteF ⟨_, rfl, a, _, _, y, rfl, rfl, seqT_same S1 hT, rfl, _, rfl, _, _, rfl, rfl, ?_⟩
                  refine ⟨y, k, congrArg (fun i => [y, V.int i]) e1, by omega, .inl ⟨e, dp_same S1 _ _ hy, hzy.1, fun H2 S2 => ?_⟩⟩
                  have S3 := S1.trans S2
                  refine ⟨_, rfl, ?_⟩
                  by_cases hb : isForm k e = true
                  · rw [hb]
                    refine iteT ⟨_, rfl, a, _, _, z, rfl, rfl, seqT_same S3 hT, rfl, _, rfl, _, _, rfl, rfl, ?_⟩
                    refine ⟨z, k, congrArg (fun i => [z, V.int i]) e1, by omega, .inl ⟨g, dp_same S3 _ _ hw, hzw, fun H4 S4 => ?_⟩⟩
                    have g := q H4 (S3.trans S4)
                    simp only [decide_eq_true hm, Bool.true_and, hb] at g
                    exact g
                  · rw [Bool.not_eq_true] at hb
                    rw [hb]
                    have g := q H2 S3
                    simp only [hb, Bool.false_and, Bool.and_false] at g
                    exact iteF g
                · rw [decide_eq_false hm]
                  have g := q _ S1
                  simp only [decide_eq_false hm, Bool.false_and] at g
                  exact iteT (iteT g)
            | _ => cases hd
          · rw [Bool.not_eq_true] at hd
            rw [hd]
            have g := q _ S1
            have g2 : Q (.bl false) (upd H p (.tup [.int 2, .int 3])) := by
              cases k with
              | zero => rw [isForm_tup3_0] at g; exact g
              | succ k => rw [isForm_tup3] at g; cases d <;> first | exact g | cases hd
            exact g2
        | d :: e :: g :: i :: ds, x, hA, hl =>
          have e2 : x.length ≠ 2 := by rw [hl]; simp
          have e3 : x.length ≠ 3 := by rw [hl]; simp
          rw [decide_eq_false e2, decide_eq_false e3]
          have g := q _ S1
          rw [isForm_tup_len _ _ (by simp) (by simp)] at g
          exact iteT (iteT g)
      | _ => cases hs
    · rw [Bool.not_eq_true] at hs
      rw [hs]
      have q' := q H (Same.refl H)
      rw [isForm_not_tup k D hs] at q'
      exact iteT (iteT q')
  · exact ⟨_, rfl, _, _, _, _, _, rfl, .ty "tuple", .base (.dK ha), kit_dict_tuple, _, rfl, iteT (iteT (q H (Same.refl H)))⟩
end
end My

set_option Elab.async false
set_option linter.all false
set_option maxRecDepth 100000
namespace My
open PySem L2
abbrev s_law_is_name : Stmt := top 58
abbrev N_law_is_name : List Str := ["_law_value", "_law_sign"]
abbrev P_law_is_name : List Str := ["_law_value"]
theorem sc_law_is_name : FnScope N_law_is_name P_law_is_name (defScope s_law_is_name) := ⟨rfl, rfl, rfl, by decide +kernel, rfl, by decide +kernel, by decide +kernel⟩
abbrev s_law_is_form : Stmt := top 59
abbrev N_law_is_form : List Str := ["_law_value", "_law_tall"]
abbrev P_law_is_form : List Str := ["_law_value", "_law_tall"]
theorem sc_law_is_form : FnScope N_law_is_form P_law_is_form (defScope s_law_is_form) := ⟨rfl, rfl, rfl, by decide +kernel, rfl, by decide +kernel, by decide +kernel⟩
abbrev Nis_name : List Str := ["value"]
abbrev Pis_name : List Str := ["value"]
abbrev Nis_form : List Str := ["value"]
abbrev Pis_form : List Str := ["value"]
abbrev N_law_says : List Str := ["_law_told", "_law_due"]
abbrev P_law_says : List Str := ["_law_told", "_law_due"]
def zBoth : Str := Str.ofString "abcdefghijklmnopqrstuvwxyz0123456789"
theorem isLD_both (c : Nat) : decide (c ∈ zBoth.cps.toList) = isLD c := by
  have e : zBoth.cps.toList = zLetters.cps.toList ++ zDigits.cps.toList := by decide +kernel
  unfold isLD isL
  rw [e, ← Bool.decide_or]
  exact decide_eq_decide.mpr List.mem_append
theorem head_some {z : Str} (h : 1 ≤ z.length) : ∃ c, z.cps.toList[0]? = some c := ⟨_, List.getElem?_eq_getElem (by rw [Array.length_toList]; show 0 < z.length; omega)⟩
theorem isName_eq {z : Str} {c : Nat} (h1 : 1 ≤ z.length) (h2 : z.length ≤ 12) (hc : z.cps.toList[0]? = some c) : isName z = (isL c && z.cps.toList.all isLD) := by
  have hh : z.cps.toList.head? = some c := by rw [List.head?_eq_getElem?]; exact hc
  unfold isName
  rw [hh, decide_eq_true ⟨h1, h2⟩]
  rfl
theorem isName_out {z : Str} (h : ¬ (1 ≤ z.length ∧ z.length ≤ 12)) : isName z = false := by
  unfold isName
  rw [decide_eq_false h]
  rfl
theorem isForm_m2 (k : Nat) (a n : PyData) : isForm k (.tuple [a, n]) = (memD a leafW && isNameD n) := by rw [isForm_tup2]; cases a <;> rfl
theorem isForm_m3 (k : Nat) (a b c : PyData) : isForm (k + 1) (.tuple [a, b, c]) = (memD a halfW && (isForm k b && isForm k c)) := by rw [isForm_tup3]; cases a <;> rfl
/-- what is said of a form, all of which may be compared -/
def spFormL (K : PySem.W.Frag) (n : Nat) : Sp := fun vs H Q _ => ∃ (v : V) (k : Nat) (D : PyData), vs = [v, .int k] ∧ k < n ∧ Dp K H v D ∧ shortD D = true ∧ D.depth ≤ 60 ∧ ∀ H', Same H H' → Q (.bl (isForm k D)) H'
def spIsForm (K : PySem.W.Frag) : Sp := fun vs H Q _ => ∃ (v : V), vs = [v] ∧
  ((∃ D, Dp K H v D ∧ shortD D = true ∧ ∀ H', Same H H' → Q (.bl (isForm 12 D)) H') ∨ ((∃ (a : Addr) (kvs : List (Key × V)), v = .ref a ∧ H a = some (.dK kvs)) ∧ ∀ H', Same H H' → Q (.bl false) H'))
def spSays : Sp := fun vs H Q _ => ∃ a b : Bool, vs = [.bl a, .bl b] ∧ Q (.bl (a == b)) H
section
variable {P : Program} {w : World} {K : PySem.W.Frag} {mg : Str → Option Value} {base : Heap} {f : Addr} {fd : FuncData}
theorem ok_law_is_name (T : Txt K mg) (F : Fun K "_law_is_name" "_law_is_name" s_law_is_name f fd) : FnOk P w K mg base CX0 2 f fd P_law_is_name (spName K) := by
  refine F.ok sc_law_is_name (fun vs H Q E h => ?_) (fun cdv A outer s H vs Q E hr h => ?_)
  · obtain ⟨v, rfl, _⟩ := h
    rfl
  obtain ⟨v, rfl, h⟩ := h
  refine ⟨_, (pss_cons (ps_if (PW.pt (pw_or (pt_not (pt_val (pe_callB call_isi rfl T.isinstance (by decide +kernel) (pa_cons (pv 0) (pa_cons (pe_bltn (v := .ty "str") rfl T.str (by decide +kernel) rfl) pa_nil))))) (pw_or (pt_not (pt_chain op_le op_le pe_int (pe_callB call_len rfl T.len (by decide +kernel) (pa_cons (pv 0) pa_nil)) pe_int)) (pw_or1 (pt_cmpR op_notIn_sign (pe_ix ix_str (pv 0) pe_int (fun _ _ => rfl)) pe_str rfl)))))
    (pss_one (ps_ret pe_bl))
    pss_nil)
  (pss_one (ps_ret (pe_callB (cr_all rfl) rfl T.all (by decide +kernel) (pa_cons (pe_lc (own := [("_law_sign", 1)]) (g := (gName 1)) rfl sc_law_is_name.nd (pi_str (pv 0)) (blkOk_by (own := [("_law_sign", 1)]) (N := N_law_is_name) (sc := defScope s_law_is_name) (by decide +kernel)) (fun _ _ _ _ _ => (pg_name (i := 1) sc_law_is_name.nd rfl (Or.inl rfl))) (fun _ _ _ _ _ => pts_nil) (fun _ _ _ _ _ => (pe_cmpR op_in_sign (pv 1) pe_str rfl))) pa_nil))))), ?_⟩
  rcases h with ⟨D, hv, hz, q⟩ | ⟨⟨a, kvs, rfl, ha⟩, q⟩
  · refine ⟨_, rfl, _, _, _, _, _, rfl, .ty "str", tyx_of hv, kit_str D, _, rfl, ?_⟩
    by_cases hs : isStrD D = true
    · cases D with
      | str z =>
        cases hv
        have hz' : z.length ≤ 1000 := hz z rfl
        have hz2 : z.length ≤ sizeLine := Nat.le_of_lt (small1000 hz')
        refine iteF ⟨_, rfl, _, _, rfl, ⟨hz2, rfl⟩, 1, _, rfl, rfl, _, rfl, ?_⟩
        refine ite2 (fun c1 => ?_) (fun c1 => ?_)
        · refine ⟨_, _, rfl, rfl, _, rfl, ?_⟩
          by_cases c2 : (z.length : Int) ≤ 12
          · rw [decide_eq_true c2]
            have c1' : (1 : Int) ≤ z.length := of_decide_eq_true c1
            obtain ⟨c, hc⟩ := head_some (z := z) (by omega)
            have en : isNameD (.str z) = (isL c && z.cps.toList.all isLD) := isName_eq (by omega) (by omega) hc
            rw [en] at q
            refine iteF ⟨_, rfl, z, 0, c, rfl, rfl, hz2, atI_nat hc, c, zLetters, rfl, rfl, _, rfl, ?_⟩
            show (if (!isL c) = true then _ else _)
            by_cases c3 : isL c = true
            · rw [c3] at q ⊢
              refine iteF ?_
              refine ⟨_, rfl, z, rfl, fun D nD => lc_str (x := z) (fun i H' => Same H H' ∧ H' D = some (.lst (((z.cps.toList.take i).map isLD).map V.bl))) ⟨same_new nD _, upd_same⟩ (fun i c H' hc ⟨k, e⟩ => ?_) (fun H' ⟨k, e⟩ => ?_)⟩
              · refine ⟨rfl, _, rfl, c, zBoth, rfl, rfl, ?_⟩
                refine ⟨_, e, small1000 ?_, same_fresh k nD, ?_⟩
                · rw [List.length_map, List.length_map, List.length_take]
                  have : z.cps.toList.length = z.length := Array.length_toList
                  omega
                · rw [upd_same, take_next hc, List.map_append, List.map_append, isLD_both]
                  rfl
              · rw [List.take_length] at e
                have g := q H' k
                refine ⟨D, z.cps.toList.map isLD, rfl, SqL.of e, ?_⟩
                have e2 : (z.cps.toList.map isLD).all id = z.cps.toList.all isLD := by rw [List.all_map]; rfl
                rw [e2]
                exact g
            · rw [Bool.not_eq_true] at c3
              rw [c3] at q ⊢
              exact iteT (q H (Same.refl H))
          · rw [decide_eq_false c2]
            rw [show isNameD (.str z) = false from isName_out (by omega)] at q
            exact q H (Same.refl H)
        · have c1' : ¬ (1 : Int) ≤ z.length := fun c => c1 (decide_eq_true c)
          rw [show isNameD (.str z) = false from isName_out (by omega)] at q
          exact ⟨_, rfl, q H (Same.refl H)⟩
      | _ => cases hs
    · have e : isNameD D = false := by cases D <;> first | rfl | exact absurd rfl hs
      rw [Bool.not_eq_true] at hs
      rw [hs]
      have q' := q H (Same.refl H)
      rw [e] at q'
      exact q'
  · exact ⟨_, rfl, _, _, _, _, _, rfl, .ty "str", .base (.dK ha), kit_dict_str, _, rfl, q H (Same.refl H)⟩
theorem ok_law_is_form {n : Nat} (T : Txt K mg) (F : Fun K "_law_is_form" "_law_is_form" s_law_is_form f fd) (C_law_is_name : Cal P w K mg base "_law_is_name" 2 ["_law_value"] (spName K)) (C_law_is_form : Cal P w K mg base "_law_is_form" (2 + n) ["_law_value", "_law_tall"] (spFormL K n)) :
    FnOk P w K mg base CX0 (2 + n + 1) f fd P_law_is_form (spFormL K (n + 1)) := by
  refine F.ok sc_law_is_form (fun vs H Q E h => ?_) (fun cdv A outer s H vs Q E hr h => ?_)
  · obtain ⟨v, k, D, rfl, _⟩ := h
    rfl
  obtain ⟨v, k, D, rfl, hk, hv, hz, hd0, q⟩ := h
  have hu : A.units + 65 + 3 < cLine := by
    have := hr.un
    have e : (A.deeper (PyProof.Rows.envOfC (Str.ofString "_law_is_form") (defScope s_law_is_form) s.heap.objs.size f cdv)).units = A.units + 3 := rfl
    omega
  refine ⟨_, (pss_cons (ps_if (PW.pt (pw_or (pt_not (pt_val (pe_callB call_isi rfl T.isinstance (by decide +kernel) (pa_cons (pv 0) (pa_cons (pe_bltn (v := .ty "tuple") rfl T.tuple (by decide +kernel) rfl) pa_nil))))) (pw_or1 (pt_cmpR op_notIn_seq (pe_callB call_len rfl T.len (by decide +kernel) (pa_cons (pv 0) pa_nil)) (pe_lst (pa_cons pe_int (pa_cons pe_int pa_nil))) rfl))))
    (pss_one (ps_ret pe_bl))
    pss_nil)
  (pss_cons (ps_if (pt_cmpR op_eq (pe_callB call_len rfl T.len (by decide +kernel) (pa_cons (pv 0) pa_nil)) pe_int (nomark _))
    (pss_one (ps_ret (pe_and (pe_cmpR (op_inD (by show A.units + 3 + 65 < cLine; omega)) (pe_ix ix_tup (pv 0) pe_int (fun _ _ => rfl)) (pe_lst (pa_cons pe_str (pa_cons pe_str pa_nil))) rfl) (pe_one (pe_callC C_law_is_name hr (pa_cons (pe_ix ix_tup (pv 0) pe_int (fun _ _ => rfl)) pa_nil))))))
    pss_nil)
  (pss_cons (ps_if (PW.pt (pw_or (pt_cmpR op_eq (pv 1) pe_int (nomark _)) (pw_or1 (pt_cmpR (op_notInD (by show A.units + 3 + 65 < cLine; omega)) (pe_ix ix_tup (pv 0) pe_int (fun _ _ => rfl)) (pe_lst (pa_cons pe_str (pa_cons pe_str (pa_cons pe_str (pa_cons pe_str pa_nil))))) rfl))))
    (pss_one (ps_ret pe_bl))
    pss_nil)
  (pss_one (ps_ret (pe_and (pe_callC C_law_is_form hr (pa_cons (pe_ix ix_tup (pv 0) pe_int (fun _ _ => rfl)) (pa_cons (pe_op op_sub (pv 1) pe_int) pa_nil))) (pe_one (pe_callC C_law_is_form hr (pa_cons (pe_ix ix_tup (pv 0) pe_int (fun _ _ => rfl)) (pa_cons (pe_op op_sub (pv 1) pe_int) pa_nil)))))))))), ?_⟩
  refine ⟨_, rfl, _, _, _, _, _, rfl, .ty "tuple", tyx_of hv, kit_tuple D, _, rfl, ?_⟩
  by_cases hs : isTupD D = true
  · cases D with
    | tuple ds =>
      cases hv with
      | @tup a xs _ hT hA =>
      have hl := dpAll_len hA
      refine iteF ⟨_, rfl, _, _, rfl, .inr ⟨xs, hT, rfl⟩, by show 2 ≤ sizeLine; decide, fun p np => ?_⟩
      have S1 : Same H (upd H p (.lst [.int 2, .int 3])) := same_new np _
      refine ⟨p, _, rfl, .inl (SqL.of upd_same), rfl, rfl, _, rfl, ?_⟩
      show (if (!inV (.int (xs.length : Nat)) [.int 2, .int 3]) = true then _ else _)
      rw [inV_23]
      match ds, xs, hA, hl with
      | [], [], hA, _ =>
        rw [isForm_tup_len _ _ (by simp) (by simp)] at q
        exact iteT (q _ S1)
      | [d], [x], hA, _ =>
        rw [isForm_tup_len _ _ (by simp) (by simp)] at q
        exact iteT (q _ S1)
      | d :: e :: g :: i :: ds, x, hA, hl =>
        have e2 : x.length ≠ 2 := by rw [hl]; simp
        have e3 : x.length ≠ 3 := by rw [hl]; simp
        rw [decide_eq_false e2, decide_eq_false e3]
        have g := q _ S1
        rw [isForm_tup_len _ _ (by simp) (by simp)] at g
        exact iteT g
      | [d, e], [x, y], hA, _ =>
        cases hA with | cons hx hA => cases hA with | cons hy _ =>
        have hzx := shortAll_cons (show shortAll [d, e] = true from by unfold shortD at hz; exact hz)
        have hzy := (shortAll_cons hzx.2).1
        have dx := depth_in (d := d) (ds := [d, e]) (by simp)
        refine iteF ⟨_, rfl, _, _, rfl, .inr ⟨_, seqT_same S1 hT, rfl⟩, rfl, _, rfl, ?_⟩
        refine iteT ⟨_, rfl, a, _, _, x, rfl, rfl, seqT_same S1 hT, rfl, by show 2 ≤ sizeLine; decide, fun p2 np2 => ?_⟩
        have S2 := S1.trans (same_new np2 (.lst [.str (Str.ofString "good"), .str (Str.ofString "counter")]))
        refine ⟨d, leafW.map PyData.str, dp_same S2 _ _ hx, .lst (SqL.of upd_same) (dpAll_strs leafW), shaped_of hzx.1 (by omega), by decide +kernel, _, rfl, ?_⟩
        rw [any_eqv]
        rw [isForm_m2] at q
        by_cases hm : memD d leafW = true
        · rw [hm] at q ⊢
          exact iteT ⟨_, rfl, a, _, _, y, rfl, rfl, seqT_same S2 hT, rfl, y, rfl, .inl ⟨e, dp_same S2 _ _ hy, short_str hzy, fun H' S3 => q H' (S2.trans S3)⟩⟩
        · rw [Bool.not_eq_true] at hm
          rw [hm] at q ⊢
          exact iteF (q _ S2)
      | [d, e, g], [x, y, z], hA, _ =>
        cases hA with | cons hx hA => cases hA with | cons hy hA => cases hA with | cons hw _ =>
        have hzx := shortAll_cons (show shortAll [d, e, g] = true from by unfold shortD at hz; exact hz)
        have hzy := shortAll_cons hzx.2
        have hzw := (shortAll_cons hzy.2).1
        have dx := depth_in (d := d) (ds := [d, e, g]) (by simp)
        have dy := depth_in (d := e) (ds := [d, e, g]) (by simp)
        have dw := depth_in (d := g) (ds := [d, e, g]) (by simp)
        refine iteF ⟨_, rfl, _, _, rfl, .inr ⟨_, seqT_same S1 hT, rfl⟩, rfl, _, rfl, ?_⟩
        cases k with
        | zero =>
          rw [isForm_tup3_0] at q
          exact iteF ⟨_, rfl, rfl, _, rfl, iteT (q _ S1)⟩
        | succ k =>
          have ek : ¬ V.int ((k + 1 : Nat) : Int) = V.int 0 := fun z => by
            have := V.int.inj z
            omega
          have e1 : ((k + 1 : Nat) : Int) - 1 = (k : Int) := by omega
          refine iteF ⟨_, rfl, rfl, _, rfl, ?_⟩
          rw [decide_eq_false ek]
          refine iteF ⟨_, rfl, a, _, _, x, rfl, rfl, seqT_same S1 hT, rfl, by show 4 ≤ sizeLine; decide, fun p2 np2 => ?_⟩
          have S2 := S1.trans (same_new np2 (.lst [.str (Str.ofString "both"), .str (Str.ofString "between"), .str (Str.ofString "offered"), .str (Str.ofString "chosen")]))
          refine ⟨d, halfW.map PyData.str, dp_same S2 _ _ hx, .lst (SqL.of upd_same) (dpAll_strs halfW), shaped_of hzx.1 (by omega), by decide +kernel, _, rfl, ?_⟩
          rw [any_eqv]
          rw [isForm_m3] at q
          by_cases hm : memD d halfW = true
          · rw [hm] at q ⊢
            refine iteF ⟨_, rfl, a, _, _, y, rfl, rfl, seqT_same S2 hT, rfl, _, rfl, _, _, rfl, rfl, ?_⟩
            refine ⟨y, k, e, congrArg (fun i => [y, V.int i]) e1, by omega, dp_same S2 _ _ hy, hzy.1, by omega, fun H3 S3' => ?_⟩
            have S3 := S2.trans S3'
            refine ⟨_, rfl, ?_⟩
            by_cases hb : isForm k e = true
            · rw [hb] at q ⊢
              refine iteT ⟨_, rfl, a, _, _, z, rfl, rfl, seqT_same S3 hT, rfl, _, rfl, _, _, rfl, rfl, ?_⟩
              exact ⟨z, k, g, congrArg (fun i => [z, V.int i]) e1, by omega, dp_same S3 _ _ hw, hzw, by omega, fun H4 S4 => q H4 (S3.trans S4)⟩
            · rw [Bool.not_eq_true] at hb
              rw [hb] at q ⊢
              exact iteF (q _ S3)
          · rw [Bool.not_eq_true] at hm
            rw [hm] at q ⊢
            exact iteT (q _ S2)
    | _ => cases hs
  · rw [Bool.not_eq_true] at hs
    rw [hs]
    have q' := q H (Same.refl H)
    rw [isForm_not_tup k D hs] at q'
    exact q'
end
end My

set_option Elab.async false
set_option linter.all false
set_option maxRecDepth 100000
namespace My
open PySem L2
/-! ### the source of draws -/
def penK (L : Addr) (b l : Int) : List (Key × V) := [(.inr (Str.ofString "cells"), .ref L), (.inr (Str.ofString "begun"), .int b), (.inr (Str.ofString "left"), .int l)]
structure Pen (K : PySem.W.Frag) (H : Hp) (d L : Addr) (ns : List Int) (n : Nat) : Prop where
  ex : ∃ b l : Int, H d = some (.dK (penK L b l)) ∧ 0 ≤ b ∧ b ≤ n
  cells : SqL K H L (ns.map V.int)
  few : ns.length ≤ 63
section
variable {K : PySem.W.Frag} {H H' : Hp} {d L : Addr} {ns : List Int} {n m : Nat}
theorem Pen.isDk (p : Pen K H d L ns n) : IsDk H d := by
  obtain ⟨b, l, h, _⟩ := p.ex
  exact ⟨_, h⟩
theorem Pen.same (p : Pen K H d L ns n) (k : Same H H') : Pen K H' d L ns n := by
  obtain ⟨b, l, h, h0⟩ := p.ex
  exact ⟨⟨b, l, k _ _ h, h0⟩, k.seq p.cells, p.few⟩
theorem Pen.mono (p : Pen K H d L ns n) (h : n ≤ m) : Pen K H d L ns m := by
  obtain ⟨b, l, e, h0, h1⟩ := p.ex
  exact ⟨⟨b, l, e, h0, by omega⟩, p.cells, p.few⟩
/-- .. behind a change elsewhere: D is new since H -/
theorem Pen.fresh {D : Addr} {o : HO} {H0 : Hp} (p : Pen K H d L ns n) (k : Keep d H0 H) (c0 : SqL K H0 L (ns.map V.int)) (hd : IsDk H0 d) (nD : H0 D = none) : Pen K (upd H D o) d L ns n := by
  obtain ⟨b, l, h, h0⟩ := p.ex
  have ne : d ≠ D := by
    obtain ⟨kvs, e⟩ := hd
    exact ne_of_none e nD
  exact ⟨⟨b, l, by rw [upd_ne ne]; exact h, h0⟩, seqL_keep hd (keep_fresh k nD) c0, p.few⟩
theorem Pen.put {b l : Int} (p : Pen K H d L ns n) (h0 : 0 ≤ b) (h1 : b ≤ m) : Pen K (upd H d (.dK (penK L b l))) d L ns m :=
  ⟨⟨b, l, upd_same, h0, h1⟩, seqL_keep p.isDk (keep_put _) p.cells, p.few⟩
theorem get_cells {b l : Int} (h : H d = some (.dK (penK L b l))) : DGet H d (.str (Str.ofString "cells")) (some (.ref L)) := DGet.k (k := .inr (Str.ofString "cells")) h
theorem get_begun {b l : Int} (h : H d = some (.dK (penK L b l))) : DGet H d (.str (Str.ofString "begun")) (some (.int b)) := DGet.k (k := .inr (Str.ofString "begun")) h
theorem get_left {b l : Int} (h : H d = some (.dK (penK L b l))) : DGet H d (.str (Str.ofString "left")) (some (.int l)) := DGet.k (k := .inr (Str.ofString "left")) h
theorem put_begun {b l b' : Int} (h : H d = some (.dK (penK L b l))) : DPut H d (.str (Str.ofString "begun")) (.int b') (upd H d (.dK (penK L b' l))) := DPut.k (k := .inr (Str.ofString "begun")) h (by show 3 < sizeLine; decide)
theorem put_left {b l l' : Int} (h : H d = some (.dK (penK L b l))) : DPut H d (.str (Str.ofString "left")) (.int l') (upd H d (.dK (penK L b l'))) := DPut.k (k := .inr (Str.ofString "left")) h (by show 3 < sizeLine; decide)
theorem dpAll_ints : ∀ ns : List Int, DpAll K H (ns.map V.int) (ns.map PyData.int)
  | [] => .nil
  | n :: ns => .cons (.int n) (dpAll_ints ns)
theorem shaped_ints (ns : List Int) : SeqAt.shaped (.list (ns.map PyData.int)) = true := by
  have h1 : ∀ ns : List Int, PyData.canLayAll0 (ns.map PyData.int) = true := by
    intro ns
    induction ns with
    | nil => simp only [List.map_nil, PyData.canLayAll0]
    | cons n ns ih => simp only [List.map_cons, PyData.canLayAll0, PyData.canLay0, ih, Bool.and_self]
  have h2 : ∀ ns : List Int, PyData.depthAll (ns.map PyData.int) = 0 := by
    intro ns
    induction ns with
    | nil => simp only [List.map_nil, PyData.depthAll]
    | cons n ns ih => simp only [List.map_cons, PyData.depthAll, PyData.depth, ih, Nat.max_self]
  unfold SeqAt.shaped
  simp only [PyData.canLay0, PyData.depth, h1, h2]
  decide
theorem eqv_nil (ns : List Int) : PyData.eqv (.list (ns.map PyData.int)) (.list []) = ns.isEmpty := by
  cases ns <;> simp [PyData.eqv, PyData.eqvAll]
end
abbrev s_law_begin : Stmt := top 43
abbrev N_law_begin : List Str := ["_law_script"]
abbrev P_law_begin : List Str := ["_law_script"]
theorem sc_law_begin : FnScope N_law_begin P_law_begin (defScope s_law_begin) := ⟨rfl, rfl, rfl, by decide +kernel, rfl, by decide +kernel, by decide +kernel⟩
abbrev s_law_draw : Stmt := top 44
abbrev N_law_draw : List Str := ["_law_pen", "_law_span", "_law_digit", "_law_at", "_law_cell", "_law_n"]
abbrev P_law_draw : List Str := ["_law_pen", "_law_span"]
theorem sc_law_draw : FnScope N_law_draw P_law_draw (defScope s_law_draw) := ⟨rfl, rfl, rfl, by decide +kernel, rfl, by decide +kernel, by decide +kernel⟩
abbrev s_law_pick : Stmt := top 45
abbrev N_law_pick : List Str := ["_law_pen", "_law_some"]
abbrev P_law_pick : List Str := ["_law_pen", "_law_some"]
theorem sc_law_pick : FnScope N_law_pick P_law_pick (defScope s_law_pick) := ⟨rfl, rfl, rfl, by decide +kernel, rfl, by decide +kernel, by decide +kernel⟩
def spBegin (K : PySem.W.Frag) : Sp := fun vs H Q _ => ∃ (a : Addr) (ns : List Int), vs = [.ref a] ∧ SqL K H a (ns.map V.int) ∧ ns.length ≤ 63 ∧ ∀ d L H', Same H H' → Pen K H' d L ns 0 → Q (.ref d) H'
def spDraw (K : PySem.W.Frag) : Sp := fun vs H Q _ => ∃ (d L : Addr) (ns : List Int) (n : Nat) (m : Int), vs = [.ref d, .int m] ∧ Pen K H d L ns n ∧ n < 2 ^ 40 ∧ 0 < m ∧ m ≤ 2 ^ 20 ∧
  ∀ (r : Int) H', 0 ≤ r → r < m → Keep d H H' → Pen K H' d L ns (n + 1) → Q (.int r) H'
def spPick (K : PySem.W.Frag) : Sp := fun vs H Q _ => ∃ (d L : Addr) (ns : List Int) (n : Nat) (v : V), vs = [.ref d, v] ∧ Pen K H d L ns n ∧ n < 2 ^ 40 ∧
  ((∃ (a : Addr) (xs : List V), v = .ref a ∧ SqL K H a xs ∧ xs ≠ [] ∧ xs.length ≤ 1000 ∧ ∀ x H', x ∈ xs → Keep d H H' → Pen K H' d L ns (n + 1) → Q x H') ∨
   (∃ z : Str, v = .str z ∧ 1 ≤ z.length ∧ z.length ≤ 1000 ∧ ∀ c H', c ∈ z.cps.toList → Keep d H H' → Pen K H' d L ns (n + 1) → Q (.str ⟨#[c]⟩) H'))
section
variable {P : Program} {w : World} {K : PySem.W.Frag} {mg : Str → Option Value} {base : Heap} {f : Addr} {fd : FuncData}
theorem ok_law_begin (T : Txt K mg) (F : Fun K "_law_begin" "_law_begin" s_law_begin f fd) : FnOk P w K mg base CX0 1 f fd P_law_begin (spBegin K) := by
  refine F.ok sc_law_begin (fun vs H Q E h => ?_) (fun cdv A outer s H vs Q E hr h => ?_)
  · obtain ⟨a, ns, rfl, _⟩ := h
    rfl
  obtain ⟨a, ns, rfl, hS, h63, q⟩ := h
  refine ⟨_, (pss_one (ps_ret (pe_disp (pps_cons pe_str (pe_callTy call_list_of rfl T.list (by decide +kernel) (pa_cons (pe_slice sl_list (pv 0) po_none (po_some pe_int)) pa_nil)) (pps_cons pe_str pe_int (pps_cons pe_str pe_int pps_nil))) (by rfl) (by rfl) (fun z => by cases z) (by decide)))), ?_⟩
  refine fun d nd => ⟨_, rfl, _, rfl, a, _, rfl, (same_new nd _).seq hS, fun p1 n1 => ⟨p1, _, rfl, .inl (SqL.of upd_same), fun p2 n2 => ⟨?_, penK p2 0 0, rfl, by show 3 ≤ 15; decide, ?_⟩⟩⟩
  · have e1 : upd (upd H d (.dK [])) p1 (.lst (cutV (ns.map V.int) none (some 63))) d = some (.dK []) := same_new n1 _ _ _ upd_same
    exact same_new n2 _ _ _ e1
  · have e1 : upd (upd H d (.dK [])) p1 (.lst (cutV (ns.map V.int) none (some 63))) d = some (.dK []) := same_new n1 _ _ _ upd_same
    have ne : p2 ≠ d := fun z => (ne_of_none e1 n2) z.symm
    have c : cutV (ns.map V.int) none (some 63) = ns.map V.int := by
      have el : (ns.map V.int).length = ns.length := List.length_map _
      show (ns.map V.int).take (min 63 (ns.map V.int).length - 0) = _
      rw [Nat.min_eq_right (by omega), Nat.sub_zero, List.take_length]
    refine q d p2 _ ?_ ⟨⟨0, 0, upd_same, by omega, by omega⟩, ?_, h63⟩
    · exact fun b o hb => by
        have nb : b ≠ d := ne_of_none hb nd
        rw [upd_ne nb]
        exact same_new n2 _ _ _ (same_new n1 _ _ _ (same_new nd _ _ _ hb))
    · refine SqL.of ?_
      rw [upd_ne ne, upd_same, c]
theorem ok_law_draw (T : Txt K mg) (F : Fun K "_law_draw" "_law_draw" s_law_draw f fd) : FnOk P w K mg base CX0 1 f fd P_law_draw (spDraw K) := by
  refine F.ok sc_law_draw (fun vs H Q E h => ?_) (fun cdv A outer s H vs Q E hr h => ?_)
  · obtain ⟨d, L, ns, n, m, rfl, _⟩ := h
    rfl
  obtain ⟨d, L, ns, n, m, rfl, p, hn, hm, hm2, q⟩ := h
  refine ⟨_, (pss_cons (ps_if (pt_cmpR op_gt (pe_dget (hu_of hr) (pv 0) pe_str (fun _ _ => rfl)) pe_int (nomark _))
    (pss_cons (ps_set (i := 2) sc_law_draw.nd rfl (Or.inl rfl) (pe_op op_mod (pe_callTy call_int1 rfl T.int (by decide +kernel) (pa_cons (pe_dget (hu_of hr) (pv 0) pe_str (fun _ _ => rfl)) pa_nil)) (pv 1)))
    (pss_cons (ps_dput (hu_of hr) (pv 0) pe_str (pe_op op_fdivW (pe_dget (hu_of hr) (pv 0) pe_str (fun _ _ => rfl)) (pv 1)) rfl)
    (pss_one (ps_ret (pv 2)))))
    pss_nil)
  (pss_cons (ps_set (i := 3) sc_law_draw.nd rfl (Or.inl rfl) (pe_dget (hu_of hr) (pv 0) pe_str (fun _ _ => rfl)))
  (pss_cons (ps_dput (hu_of hr) (pv 0) pe_str (pe_op op_add (pv 3) pe_int) rfl)
  (pss_cons (ps_set (i := 4) sc_law_draw.nd rfl (Or.inl rfl) (pe_op op_add (pe_op op_mul pe_int (pv 3)) pe_int))
  (pss_cons (ps_if (pt_cmpR (op_neD hr.units) (pe_dget (hu_of hr) (pv 0) pe_str (fun _ _ => rfl)) (pe_lst pa_nil) (nomark _))
    (pss_one (ps_set (i := 4) sc_law_draw.nd rfl (Or.inl rfl) (pe_ix ix_list (pe_dget (hu_of hr) (pv 0) pe_str (fun _ _ => rfl)) (pe_op op_mod (pe_callTy call_int1 rfl T.int (by decide +kernel) (pa_cons (pv 3) pa_nil)) (pe_callB call_len rfl T.len (by decide +kernel) (pa_cons (pe_dget (hu_of hr) (pv 0) pe_str (fun _ _ => rfl)) pa_nil))) (fun _ _ => rfl))))
    pss_nil)
  (pss_cons (ps_if (PW.pt (pw_and (pt_cmpR op_lt (pv 3) (pe_callB call_len rfl T.len (by decide +kernel) (pa_cons (pe_dget (hu_of hr) (pv 0) pe_str (fun _ _ => rfl)) pa_nil)) (nomark _)) (pw_and1 (pt_cmpR op_ge (pe_callB call_abs rfl T.abs (by decide +kernel) (pa_cons (pv 4) pa_nil)) (pe_op op_pow pe_int pe_int) (nomark _)))))
    (pss_cons (ps_dput (hu_of hr) (pv 0) pe_str (pe_op op_fdivW (pe_op op_sub (pe_callB call_abs rfl T.abs (by decide +kernel) (pa_cons (pv 4) pa_nil)) (pe_op op_pow pe_int pe_int)) (pv 1)) rfl)
    (pss_one (ps_ret (pe_op op_mod (pe_callTy call_int1 rfl T.int (by decide +kernel) (pa_cons (pe_op op_sub (pe_callB call_abs rfl T.abs (by decide +kernel) (pa_cons (pv 4) pa_nil)) (pe_op op_pow pe_int pe_int)) pa_nil)) (pv 1)))))
    pss_nil)
  (pss_cons (ps_set (i := 5) sc_law_draw.nd rfl (Or.inl rfl) (pe_op op_add (pe_op op_mul (pe_op op_mod (pe_callTy call_int1 rfl T.int (by decide +kernel) (pa_cons (pv 4) pa_nil)) pe_int) pe_int) (pe_op op_mul (pe_op op_mul pe_int (pv 3)) (pv 3))))
  (pss_cons (ps_set (i := 5) sc_law_draw.nd rfl (Or.inl rfl) (pe_op op_mod (pe_callTy call_int1 rfl T.int (by decide +kernel) (pa_cons (pe_op op_add (pe_op op_add (pv 5) (pe_op op_mul pe_int (pv 3))) pe_int) pa_nil)) pe_int))
  (pss_cons (ps_set (i := 5) sc_law_draw.nd rfl (Or.inl rfl) (pe_op op_mod (pe_callTy call_int1 rfl T.int (by decide +kernel) (pa_cons (pe_op op_add (pe_op op_add (pe_op op_add (pe_op op_mul (pv 5) (pv 5)) (pe_op op_mul pe_int (pv 5))) (pe_op op_mul pe_int (pv 3))) pe_int) pa_nil)) pe_int))
  (pss_cons (ps_set (i := 5) sc_law_draw.nd rfl (Or.inl rfl) (pe_op op_mod (pe_callTy call_int1 rfl T.int (by decide +kernel) (pa_cons (pe_op op_add (pe_op op_add (pe_op op_mul (pv 5) (pv 5)) (pe_op op_mul pe_int (pv 5))) (pv 3)) pa_nil)) pe_int))
  (pss_one (ps_ret (pe_op op_mod (pe_callTy call_int1 rfl T.int (by decide +kernel) (pa_cons (pe_op op_fdivW (pe_op op_mod (pe_callTy call_int1 rfl T.int (by decide +kernel) (pa_cons (pe_op op_mul (pv 5) (pe_op op_add (pv 5) pe_int)) pa_nil)) pe_int) pe_int) pa_nil)) (pv 1)))))))))))))), ?_⟩
  obtain ⟨b, l, hd, hb0, hbn⟩ := p.ex
  have hb : -(2 ^ 64) < b ∧ b < 2 ^ 64 := by omega
  have hdiv : L2.CDivW 0 m := wide_div hm (b := 21) (by omega) (by decide) (by decide)
  have kd : IsDk H d := p.isDk
  refine ⟨_, rfl, d, _, rfl, get_left hd, _, _, rfl, rfl, _, rfl, ?_⟩
  refine ite2 (fun c => ?_) (fun c => ?_)
  · refine ⟨_, rfl, d, _, rfl, get_left hd, .inl ⟨_, rfl, _, rfl, _, _, rfl, rfl, hm, ?_⟩⟩
    refine ⟨_, rfl, d, _, rfl, get_left hd, _, rfl, _, _, rfl, rfl, hdiv, _, rfl, d, _, rfl, put_left hd, _, rfl, ?_⟩
    exact q _ _ (Int.emod_nonneg _ (by omega)) (Int.emod_lt_of_pos _ hm) (keep_put _) (p.put hb0 (by omega))
  · refine ⟨_, rfl, d, _, rfl, get_begun hd, ?_⟩
    refine ⟨_, rfl, _, _, rfl, rfl, _, rfl, d, _, rfl, put_begun hd, ?_⟩
    have h1 : upd H d (.dK (penK L (b + 1) l)) d = some (.dK (penK L (b + 1) l)) := upd_same
    have p1 : Pen K (upd H d (.dK (penK L (b + 1) l))) d L ns (n + 1) := p.put (by omega) (by omega)
    have k1 : Keep d H (upd H d (.dK (penK L (b + 1) l))) := keep_put _
    generalize upd H d (.dK (penK L (b + 1) l)) = H1 at h1 p1 k1 ⊢
    refine ⟨_, rfl, _, _, rfl, rfl, .inl ⟨by decide, by decide⟩, _, _, rfl, rfl, ?_⟩
    refine ⟨_, rfl, d, _, rfl, get_cells h1, by show 0 ≤ sizeLine; decide, fun p0 np0 => ⟨.list (ns.map PyData.int), .list [], .lst ((same_new np0 _).seq p1.cells) (dpAll_ints ns), .lst (SqL.of upd_same) .nil, shaped_ints ns, by decide, _, rfl, ?_⟩⟩
    have h2 := same_new np0 (.lst []) _ _ h1
    have p2 := p1.same (same_new np0 (.lst []))
    have k2 : Keep d H (upd H1 p0 (.lst [])) := k1.trans (Same.toKeep (same_new np0 (.lst [])))
    generalize upd H1 p0 (.lst []) = H2 at h2 p2 k2 ⊢
    rw [eqv_nil]
    have hlen : ∀ x, (ns.map V.int).length = x → ns.length = x := fun x e => by rw [List.length_map] at e; exact e
    generalize hcv : (101 * b + 47 : Int) = c0
    refine ite2 (fun c1 => ?a) (fun c1 => ?b)
    case' a =>
      have hne : 0 < ns.length := by
        cases ns with
        | nil => cases c1
        | cons _ _ => exact Nat.succ_pos _
      have hpos : (0 : Int) < ((ns.map V.int).length : Nat) := by rw [List.length_map]; omega
      have hlt : (b % ((ns.map V.int).length : Nat)).toNat < ns.length := by
        have h3 := Int.emod_nonneg b (b := (((ns.map V.int).length : Nat) : Int)) (by omega)
        have h4 := Int.emod_lt_of_pos b hpos
        rw [List.length_map] at *
        omega
      have hat : atI (ns.map V.int) (b % ((ns.map V.int).length : Nat)) = some (V.int ns[(b % ((ns.map V.int).length : Nat)).toNat]) := by
        have h3 := Int.emod_nonneg b (b := (((ns.map V.int).length : Nat) : Int)) (by omega)
        have e := Int.toNat_of_nonneg h3
        have g := atI_nat (xs := ns.map V.int) (j := (b % ((ns.map V.int).length : Nat)).toNat) (v := V.int ns[(b % ((ns.map V.int).length : Nat)).toNat]) (by rw [List.getElem?_map, List.getElem?_eq_getElem hlt]; rfl)
        rw [e] at g
        exact g
      generalize ns[(b % ((ns.map V.int).length : Nat)).toNat] = c2 at hat
      refine ⟨_, rfl, d, _, rfl, get_cells h2, _, rfl, .inl ⟨_, rfl, _, rfl, d, _, rfl, get_cells h2, _, _, rfl, .inl ⟨_, p2.cells, rfl⟩, _, _, rfl, rfl, hpos, L, _, _, _, rfl, rfl, p2.cells, hat, ?_⟩⟩
    all_goals
      refine ⟨_, rfl, _, rfl, d, _, rfl, get_cells h2, _, _, rfl, .inl ⟨_, p2.cells, rfl⟩, _, _, rfl, rfl, _, rfl, ?_⟩
      refine ite2 (fun c4 => ?_) (fun c4 => ?_)
      refine ⟨_, rfl, _, rfl, _, _, rfl, rfl, ⟨by decide, by decide, by decide⟩, _, _, rfl, rfl, _, rfl, ?_⟩
      refine ite2 (fun c5 => ?_) (fun c5 => ?_)
      refine ⟨_, rfl, _, rfl, _, _, rfl, rfl, ⟨by decide, by decide, by decide⟩, _, _, rfl, rfl, _, rfl, _, _, rfl, rfl, hdiv, _, rfl, d, _, rfl, put_left h2, ?_⟩
      refine ⟨_, rfl, _, rfl, _, _, rfl, rfl, ⟨by decide, by decide, by decide⟩, _, _, rfl, rfl, .inl ⟨_, rfl, _, rfl, _, _, rfl, rfl, hm, ?_⟩⟩
      exact q _ _ (Int.emod_nonneg _ (by omega)) (Int.emod_lt_of_pos _ hm) (k2.trans (keep_put _)) (p2.put (by omega) (by omega))
      all_goals
        refine ⟨_, rfl, .inl ⟨_, rfl, _, _, rfl, rfl, (by show (0 : Int) < 2147483423; decide), _, _, rfl, rfl, .inr ⟨by decide, by decide⟩, _, rfl, _, _, rfl, rfl, .inl ⟨by decide, by decide⟩, _, rfl, _, _, rfl, rfl, .inr hb, _, _, rfl, rfl, ?_⟩⟩
        refine ⟨_, rfl, _, rfl, _, _, rfl, rfl, .inl ⟨by decide, by decide⟩, _, _, rfl, rfl, _, _, rfl, rfl, .inl ⟨_, rfl, _, _, rfl, rfl, (by show (0 : Int) < 2147483399; decide), ?_⟩⟩
        refine ⟨_, rfl, _, rfl, _, _, rfl, rfl, .inl ⟨by omega, by omega⟩, _, rfl, _, _, rfl, rfl, .inl ⟨by decide, by decide⟩, _, _, rfl, rfl, _, rfl, _, _, rfl, rfl, .inl ⟨by decide, by decide⟩, _, _, rfl, rfl, _, _, rfl, rfl, .inl ⟨_, rfl, _, _, rfl, rfl, (by show (0 : Int) < 2147483353; decide), ?_⟩⟩
        refine ⟨_, rfl, _, rfl, _, _, rfl, rfl, .inl ⟨by omega, by omega⟩, _, rfl, _, _, rfl, rfl, .inl ⟨by decide, by decide⟩, _, _, rfl, rfl, _, rfl, _, _, rfl, rfl, .inl ⟨_, rfl, _, _, rfl, rfl, (by show (0 : Int) < 2147483323; decide), ?_⟩⟩
        refine ⟨_, rfl, _, rfl, _, _, rfl, rfl, _, _, rfl, rfl, .inl ⟨by omega, by omega⟩, .inl ⟨_, rfl, _, _, rfl, rfl, (by show (0 : Int) < 2147483269; decide), _, _, rfl, rfl, ⟨by decide, by decide⟩, .inl ⟨_, rfl, _, rfl, _, _, rfl, rfl, hm, ?_⟩⟩⟩
        exact q _ _ (Int.emod_nonneg _ (by omega)) (Int.emod_lt_of_pos _ hm) k2 p2
end
end My

set_option Elab.async false
set_option linter.all false
set_option maxRecDepth 100000
namespace My
open PySem L2 SX
theorem atI_int {α : Type} {xs : List α} {r : Int} (h0 : 0 ≤ r) (h1 : r < (xs.length : Int)) : ∃ x, atI xs r = some x ∧ x ∈ xs := by
  have h : r.toNat < xs.length := by omega
  refine ⟨xs[r.toNat], ?_, List.getElem_mem h⟩
  have e := atI_nat (xs := xs) (j := r.toNat) (v := xs[r.toNat]) (List.getElem?_eq_getElem h)
  rw [Int.toNat_of_nonneg h0] at e
  exact e
theorem joinL_signs : ∀ cs : List Nat, TL.joinL [] (cs.map fun c => [c]) = cs
  | [] => rfl
  | [c] => rfl
  | c :: e :: r => by
    have ih := joinL_signs (e :: r)
    simp only [List.map_cons] at ih ⊢
    unfold TL.joinL
    rw [ih]
    rfl
theorem join_signs (cs : List Nat) : Txt.join (Str.ofString "") (cs.map fun c => (⟨#[c]⟩ : Str)) = S cs := by
  have e := join_S [] (cs.map fun c => [c])
  rw [joinL_signs, List.map_map] at e
  exact e
theorem sum_signs : ∀ cs : List Nat, ((cs.map fun c => (⟨#[c]⟩ : Str)).map (·.length)).sum = cs.length
  | [] => rfl
  | c :: cs => by
    have ih := sum_signs cs
    rw [List.map_cons, List.map_cons, List.sum_cons, ih, List.length_cons]
    show 1 + cs.length = cs.length + 1
    omega
theorem isName_cs {c : Nat} {cs : List Nat} (h : isL c = true) (hs : ∀ x ∈ cs, isLD x = true) (hl : cs.length ≤ 11) : isName (S (c :: cs)) = true := by
  have e := isName_eq (z := S (c :: cs)) (c := c) (by rw [S_len]; exact Nat.succ_pos _) (by rw [S_len, List.length_cons]; omega) rfl
  rw [e, h]
  show (true && (c :: cs).all isLD) = true
  rw [Bool.true_and, List.all_eq_true]
  intro x hx
  rcases List.mem_cons.mp hx with rfl | hx
  · unfold isLD
    rw [h]
    rfl
  · exact hs x hx
theorem isLD_asc {c : Nat} (h : isLD c = true) : c < 128 := by
  rw [← isLD_both] at h
  have h2 := of_decide_eq_true h
  have e : ∀ x ∈ zBoth.cps.toList, x < 128 := by decide +kernel
  exact e c h2
theorem okStr_of_name {z : Str} (h : isName z = true) : okStr z = true := by
  have h12 : 1 ≤ z.length ∧ z.length ≤ 12 := by
    by_cases c : 1 ≤ z.length ∧ z.length ≤ 12
    · exact c
    · rw [isName_out c] at h
      cases h
  obtain ⟨c, hc⟩ := head_some h12.1
  rw [isName_eq h12.1 h12.2 hc] at h
  have h2 := (Bool.and_eq_true_iff.mp h).2
  rw [List.all_eq_true] at h2
  unfold okStr
  rw [decide_eq_true (by omega), Bool.true_and, List.all_eq_true]
  intro x hx
  exact decide_eq_true (isLD_asc (h2 x hx))
theorem name_len {z : Str} (h : isName z = true) : 1 ≤ z.length ∧ z.length ≤ 12 := by
  by_cases c : 1 ≤ z.length ∧ z.length ≤ 12
  · exact c
  · rw [isName_out c] at h
    cases h
abbrev s_law_name : Stmt := top 53
abbrev N_law_name : List Str := ["_law_pen", "_law_letters", "_law_many", "_law_rest", "_law_k"]
abbrev P_law_name : List Str := ["_law_pen"]
theorem sc_law_name : FnScope N_law_name P_law_name (defScope s_law_name) := ⟨rfl, rfl, rfl, by decide +kernel, rfl, by decide +kernel, by decide +kernel⟩
abbrev s_law_names : Stmt := top 54
abbrev N_law_names : List Str := ["_law_pen", "_law_most", "_law_k"]
abbrev P_law_names : List Str := ["_law_pen", "_law_most"]
theorem sc_law_names : FnScope N_law_names P_law_names (defScope s_law_names) := ⟨rfl, rfl, rfl, by decide +kernel, rfl, by decide +kernel, by decide +kernel⟩
def spNameOf (K : PySem.W.Frag) : Sp := fun vs H Q _ => ∃ (d L : Addr) (ns : List Int) (n : Nat), vs = [.ref d] ∧ Pen K H d L ns n ∧ n < 2 ^ 39 ∧
  ∀ z H', isName z = true → Keep d H H' → Pen K H' d L ns (n + 13) → Q (.str z) H'
def spNames (K : PySem.W.Frag) : Sp := fun vs H Q _ => ∃ (d L : Addr) (ns : List Int) (n m : Nat), vs = [.ref d, .int m] ∧ Pen K H d L ns n ∧ n < 2 ^ 38 ∧ 0 < m ∧ m ≤ 100 ∧
  ∀ a zs H', (∀ z ∈ zs, isName z = true) → zs ≠ [] → zs.length ≤ 100 → SqL K H' a (zs.map V.str) → Keep d H H' → Pen K H' d L ns (n + 1 + 13 * m) → Q (.ref a) H'
section
variable {P : Program} {w : World} {K : PySem.W.Frag} {mg : Str → Option Value} {base : Heap} {f : Addr} {fd : FuncData}
theorem ok_law_pick (T : Txt K mg) (F : Fun K "_law_pick" "_law_pick" s_law_pick f fd) (C_law_draw : Cal P w K mg base "_law_draw" 1 ["_law_pen", "_law_span"] (spDraw K)) : FnOk P w K mg base CX0 2 f fd P_law_pick (spPick K) := by
  refine F.ok sc_law_pick (fun vs H Q E h => ?_) (fun cdv A outer s H vs Q E hr h => ?_)
  · obtain ⟨d, L, ns, n, v, rfl, _⟩ := h
    rfl
  obtain ⟨d, L, ns, n, v, rfl, p, hn, h⟩ := h
  refine ⟨_, (pss_one (ps_ret (pe_ix ix_seq (pv 1) (pe_callC C_law_draw hr (pa_cons (pv 0) (pa_cons (pe_callB call_len rfl T.len (by decide +kernel) (pa_cons (pv 1) pa_nil)) pa_nil))) (fun _ _ => rfl)))), ?_⟩
  rcases h with ⟨a, xs, rfl, hS, hne, hl, q⟩ | ⟨z, rfl, h1, h2, q⟩
  · have hpos : 0 < xs.length := by
      cases xs with
      | nil => exact absurd rfl hne
      | cons _ _ => exact Nat.succ_pos _
    refine ⟨_, rfl, _, rfl, _, rfl, _, _, rfl, .inl ⟨xs, hS, rfl⟩, d, L, ns, n, (xs.length : Int), rfl, p, hn, by omega, by omega, fun r H' r0 r1 k p' => ?_⟩
    obtain ⟨x, hx, hm⟩ := atI_int (xs := xs) r0 r1
    exact .inl ⟨a, xs, r, x, rfl, rfl, seqL_keep p.isDk k hS, hx, q x H' hm k p'⟩
  · have hz : z.length ≤ sizeLine := Nat.le_of_lt (small1000 h2)
    refine ⟨_, rfl, _, rfl, _, rfl, _, _, rfl, ⟨hz, rfl⟩, d, L, ns, n, (z.length : Int), rfl, p, hn, by omega, by omega, fun r H' r0 r1 k p' => ?_⟩
    have el : z.cps.toList.length = z.length := Array.length_toList
    obtain ⟨x, hx, hm⟩ := atI_int (xs := z.cps.toList) (r := r) r0 (by rw [el]; exact r1)
    exact .inr (.inr ⟨z, r, x, rfl, rfl, hz, hx, q x H' hm k p'⟩)
theorem ok_law_name (T : Txt K mg) (F : Fun K "_law_name" "_law_name" s_law_name f fd) (C_law_pick : Cal P w K mg base "_law_pick" 2 ["_law_pen", "_law_some"] (spPick K)) : FnOk P w K mg base CX0 3 f fd P_law_name (spNameOf K) := by
  refine F.ok sc_law_name (fun vs H Q E h => ?_) (fun cdv A outer s H vs Q E hr h => ?_)
  · obtain ⟨d, L, ns, n, rfl, _⟩ := h
    rfl
  obtain ⟨d, L, ns, n, rfl, p, hn, q⟩ := h
  refine ⟨_, (pss_cons (ps_set (i := 1) sc_law_name.nd rfl (Or.inr rfl) pe_str)
  (pss_cons (ps_set (i := 2) sc_law_name.nd rfl (Or.inl rfl) (pe_callC C_law_pick hr (pa_cons (pv 0) (pa_cons (pe_lst (pa_cons pe_int (pa_cons pe_int (pa_cons pe_int (pa_cons pe_int (pa_cons pe_int (pa_cons pe_int (pa_cons pe_int pa_nil)))))))) pa_nil))))
  (pss_cons (ps_setLc (i := 3) (own := [("_law_k", 4)]) (g := (gName 4)) rfl sc_law_name.nd rfl rfl (sw_true rfl rfl rfl (by decide +kernel)) (pi_range1 rfl T.range (pa_cons (pv 2) pa_nil)) (blkOk_by (own := [("_law_k", 4)]) (N := N_law_name) (sc := defScope s_law_name) (by decide +kernel)) (fun _ _ _ _ _ => (pg_name (i := 4) sc_law_name.nd rfl (Or.inl rfl))) (fun _ _ _ _ _ => pts_nil) (fun _ _ _ _ _ => (pe_callC C_law_pick hr (pa_cons (pv 0) (pa_cons (pe_op op_add_str (pv 1) pe_str) pa_nil)))))
  (pss_one (ps_ret (pe_join pe_str (pe_op op_cat (pe_lst (pa_cons (pe_callC C_law_pick hr (pa_cons (pv 0) (pa_cons (pv 1) pa_nil))) pa_nil)) (pv 3)))))))), ?_⟩
  refine ⟨_, rfl, by show 7 ≤ sizeLine; decide, fun p0 np0 => ?_⟩
  refine ⟨d, L, ns, n, _, rfl, p.same (same_new np0 _), by omega, .inl ⟨p0, _, rfl, SqL.of upd_same, by simp, by show 7 ≤ 1000; decide, fun x H1 hx k1 p1 => ?_⟩⟩
  have k1' : Keep d H H1 := (Same.toKeep (same_new np0 _)).trans k1
  obtain ⟨m, rfl, hm⟩ : ∃ m : Nat, x = V.int m ∧ m ≤ 11 := by
    simp only [List.mem_cons, List.not_mem_nil, or_false] at hx
    rcases hx with rfl | rfl | rfl | rfl | rfl | rfl | rfl <;>
      first | exact ⟨0, rfl, by decide⟩ | exact ⟨1, rfl, by decide⟩ | exact ⟨2, rfl, by decide⟩ | exact ⟨5, rfl, by decide⟩ | exact ⟨10, rfl, by decide⟩ | exact ⟨11, rfl, by decide⟩
  refine ⟨_, rfl, (m : Int), rfl, by omega, by omega, fun D nD => lc_range (lo := 0) (n := (m : Int).toNat)
    (fun i H' => Keep d H1 H' ∧ Pen K H' d L ns (n + 1 + i) ∧ ∃ cs : List Nat, cs.length = i ∧ (∀ c ∈ cs, isLD c = true) ∧ H' D = some (.lst (cs.map fun c => V.str ⟨#[c]⟩))) ?_ (fun i H2 hi ⟨k2, p2, cs, hcs, hld, e⟩ => ?_) (fun H2 ⟨k2, p2, cs, hcs, hld, e⟩ => ?_)⟩
  · exact ⟨Same.toKeep (same_new nD _), p1.fresh (Keep.refl _ _) p1.cells p1.isDk nD, [], rfl, by simp, upd_same⟩
  · refine ⟨rfl, _, rfl, _, rfl, _, _, rfl, rfl, by decide, ?_⟩
    refine ⟨d, L, ns, n + 1 + i, _, rfl, p2, by omega, .inr ⟨zBoth, rfl, by decide +kernel, by decide +kernel, fun c H3 hc k3 p3 => ?_⟩⟩
    have nDd : D ≠ d := by
      obtain ⟨kvs, ed⟩ := p1.isDk
      exact (ne_of_none ed nD).symm
    refine ⟨_, k3 D _ nDd e, small1000 (by rw [List.length_map]; omega), keep_fresh (k2.trans k3) nD, p3.fresh (k2.trans k3) p1.cells p1.isDk nD, cs ++ [c], by rw [List.length_append, hcs]; rfl, ?_, ?_⟩
    · intro x hx
      rcases List.mem_append.mp hx with hx | hx
      · exact hld x hx
      · rw [List.mem_singleton.mp hx, ← isLD_both]
        exact decide_eq_true hc
    · rw [upd_same, List.map_append]
      rfl
  · have em : (m : Int).toNat = m := Int.toNat_natCast m
    rw [em] at hcs p2
    refine ⟨⟨_, rfl⟩, _, rfl, _, rfl, d, L, ns, n + 1 + m, _, rfl, p2, by omega, .inr ⟨zLetters, rfl, by decide +kernel, by decide +kernel, fun c H3 hc k3 p3 => ⟨by show 1 ≤ sizeLine; decide, fun pA nA => ?_⟩⟩⟩
    have nDd : D ≠ d := by
      obtain ⟨kvs, ed⟩ := p1.isDk
      exact (ne_of_none ed nD).symm
    have e3 := same_new nA (.lst [.str ⟨#[c]⟩]) _ _ (k3 D _ nDd e)
    refine ⟨_, rfl, pA, D, _, _, rfl, rfl, upd_same, e3, Nat.le_of_lt (small1000 (by rw [List.length_map, List.length_singleton]; omega)), fun pB nB => ?_⟩
    have kF : Keep d H (upd (upd H3 pA (.lst [.str ⟨#[c]⟩])) pB (.lst ([V.str ⟨#[c]⟩] ++ cs.map fun c => V.str ⟨#[c]⟩))) :=
      ((k1'.trans k2).trans k3).trans ((Same.toKeep (same_new nA _)).trans (Same.toKeep (same_new nB _)))
    have pF := (p3.same (same_new nA (.lst [.str ⟨#[c]⟩]))).same (same_new nB (.lst ([V.str ⟨#[c]⟩] ++ cs.map fun c => V.str ⟨#[c]⟩)))
    refine ⟨_, pB, (c :: cs).map (fun c => (⟨#[c]⟩ : Str)), rfl, rfl, .inl (SqL.of ?_), ?_, ?_⟩
    · rw [upd_same, List.map_map]
      rfl
    · rw [sum_signs, List.length_map]
      show (c :: cs).length + (c :: cs).length * 0 ≤ 16777216
      rw [List.length_cons]
      omega
    · rw [join_signs]
      exact q _ _ (isName_cs (decide_eq_true hc) hld (by omega)) kF (pF.mono (by omega))
theorem ok_law_names (T : Txt K mg) (F : Fun K "_law_names" "_law_names" s_law_names f fd) (C_law_draw : Cal P w K mg base "_law_draw" 1 ["_law_pen", "_law_span"] (spDraw K)) (C_law_name : Cal P w K mg base "_law_name" 3 ["_law_pen"] (spNameOf K)) : FnOk P w K mg base CX0 4 f fd P_law_names (spNames K) := by
  refine F.ok sc_law_names (fun vs H Q E h => ?_) (fun cdv A outer s H vs Q E hr h => ?_)
  · obtain ⟨d, L, ns, n, m, rfl, _⟩ := h
    rfl
  obtain ⟨d, L, ns, n, m, rfl, p, hn, h0, hm, q⟩ := h
  refine ⟨_, (pss_one (ps_ret (pe_lc (own := [("_law_k", 2)]) (g := (gName 2)) rfl sc_law_names.nd (pi_range1 rfl T.range (pa_cons (pe_op op_add pe_int (pe_callC C_law_draw hr (pa_cons (pv 0) (pa_cons (pv 1) pa_nil)))) pa_nil)) (blkOk_by (own := [("_law_k", 2)]) (N := N_law_names) (sc := defScope s_law_names) (by decide +kernel)) (fun _ _ _ _ _ => (pg_name (i := 2) sc_law_names.nd rfl (Or.inl rfl))) (fun _ _ _ _ _ => pts_nil) (fun _ _ _ _ _ => (pe_callC C_law_name hr (pa_cons (pv 0) pa_nil)))))), ?_⟩
  refine ⟨_, rfl, _, rfl, d, L, ns, n, m, rfl, p, by omega, by omega, by omega, fun r H1 r0 r1 k1 p1 => ?_⟩
  refine ⟨_, _, rfl, rfl, 1 + r, rfl, by omega, by omega, fun D nD => lc_range (lo := 0) (n := (1 + r).toNat)
    (fun i H' => Keep d H1 H' ∧ Pen K H' d L ns (n + 1 + 13 * i) ∧ ∃ zs : List Str, zs.length = i ∧ (∀ z ∈ zs, isName z = true) ∧ H' D = some (.lst (zs.map V.str))) ?_ (fun i H2 hi ⟨k2, p2, zs, hcs, hld, e⟩ => ?_) (fun H2 ⟨k2, p2, zs, hcs, hld, e⟩ => ?_)⟩
  · exact ⟨Same.toKeep (same_new nD _), p1.fresh (Keep.refl _ _) p1.cells p1.isDk nD, [], rfl, by simp, upd_same⟩
  · refine ⟨rfl, _, rfl, d, L, ns, n + 1 + 13 * i, rfl, p2, by omega, fun z H3 hz k3 p3 => ?_⟩
    have nDd : D ≠ d := by
      obtain ⟨kvs, ed⟩ := p1.isDk
      exact (ne_of_none ed nD).symm
    refine ⟨_, k3 D _ nDd e, small1000 (by rw [List.length_map]; omega), keep_fresh (k2.trans k3) nD, (p3.fresh (k2.trans k3) p1.cells p1.isDk nD).mono (by omega), zs ++ [z], by rw [List.length_append, hcs]; rfl, ?_, ?_⟩
    · intro x hx
      rcases List.mem_append.mp hx with hx | hx
      · exact hld x hx
      · rw [List.mem_singleton.mp hx]
        exact hz
    · rw [upd_same, List.map_append]
      rfl
  · refine q D zs H2 hld ?_ (by omega) (SqL.of e) (k1.trans k2) (p2.mono (by omega))
    rintro rfl
    rw [List.length_nil] at hcs
    omega
end
end My

set_option Elab.async false
set_option linter.all false
set_option maxRecDepth 100000
namespace My
open PySem L2 SX
theorem memD_inv {d : PyData} {zs : List Str} (h : memD d zs = true) : ∃ x, d = .str x ∧ x ∈ zs := by
  cases d with
  | str x => exact ⟨x, rfl, of_decide_eq_true h⟩
  | _ => cases h
theorem isNameD_inv {d : PyData} (h : isNameD d = true) : ∃ x, d = .str x ∧ isName x = true := by
  cases d with
  | str x => exact ⟨x, rfl, h⟩
  | _ => cases h
theorem isForm_inv {k : Nat} {D : PyData} (h : isForm k D = true) :
    (∃ w n, D = .tuple [.str w, .str n] ∧ w ∈ leafW ∧ isName n = true) ∨ ∃ j w a b, k = j + 1 ∧ D = .tuple [.str w, a, b] ∧ w ∈ halfW ∧ isForm j a = true ∧ isForm j b = true := by
  by_cases ht : isTupD D = true
  · cases D with
    | tuple ds =>
      match ds with
      | [a, n] =>
        rw [isForm_m2, Bool.and_eq_true] at h
        obtain ⟨w, rfl, hw⟩ := memD_inv h.1
        obtain ⟨x, rfl, hx⟩ := isNameD_inv h.2
        exact .inl ⟨w, x, rfl, hw, hx⟩
      | [a, b, c] =>
        cases k with
        | zero => rw [isForm_tup3_0] at h; cases h
        | succ j =>
          rw [isForm_m3, Bool.and_eq_true, Bool.and_eq_true] at h
          obtain ⟨w, rfl, hw⟩ := memD_inv h.1
          exact .inr ⟨j, w, b, c, rfl, rfl, hw, h.2.1, h.2.2⟩
      | [] => rw [isForm_tup_len _ _ (by simp) (by simp)] at h; cases h
      | [_] => rw [isForm_tup_len _ _ (by simp) (by simp)] at h; cases h
      | _ :: _ :: _ :: _ :: _ => rw [isForm_tup_len _ _ (by simp) (by simp)] at h; cases h
    | _ => cases ht
  · rw [Bool.not_eq_true] at ht
    rw [isForm_not_tup k D ht] at h
    cases h
theorem isForm_leaf (k : Nat) {w n : Str} (hw : w ∈ leafW) (hn : isName n = true) : isForm k (.tuple [.str w, .str n]) = true := by
  rw [isForm_m2]
  show (decide (w ∈ leafW) && isName n) = true
  rw [decide_eq_true hw, hn]
  rfl
theorem isForm_node {k : Nat} {w : Str} {a b : PyData} (hw : w ∈ halfW) (ha : isForm k a = true) (hb : isForm k b = true) : isForm (k + 1) (.tuple [.str w, a, b]) = true := by
  rw [isForm_m3, ha, hb]
  show (decide (w ∈ halfW) && _) = true
  rw [decide_eq_true hw]
  rfl
theorem isForm_up : ∀ {k : Nat} {D : PyData}, isForm k D = true → isForm (k + 1) D = true := by
  intro k
  induction k with
  | zero =>
    intro D h
    rcases isForm_inv h with ⟨w, n, rfl, hw, hn⟩ | ⟨j, w, a, b, e, _⟩
    · exact isForm_leaf _ hw hn
    · cases e
  | succ k ih =>
    intro D h
    rcases isForm_inv h with ⟨w, n, rfl, hw, hn⟩ | ⟨j, w, a, b, e, rfl, hw, ha, hb⟩
    · exact isForm_leaf _ hw hn
    · obtain rfl : k = j := by omega
      exact isForm_node hw (ih ha) (ih hb)
theorem isForm_le {k m : Nat} {D : PyData} (h : isForm k D = true) (l : k ≤ m) : isForm m D = true := by
  induction l with
  | refl => exact h
  | step _ ih => exact isForm_up ih
theorem okStr_leaf : ∀ w ∈ leafW, okStr w = true := by decide +kernel
theorem okStr_half : ∀ w ∈ halfW, okStr w = true := by decide +kernel
theorem short_form : ∀ {k : Nat} {D : PyData}, isForm k D = true → shortD D = true := by
  intro k
  induction k with
  | zero =>
    intro D h
    rcases isForm_inv h with ⟨w, n, rfl, hw, hn⟩ | ⟨j, w, a, b, e, _⟩
    · simp only [shortD, shortAll, okStr_leaf w hw, okStr_of_name hn, Bool.and_self]
    · cases e
  | succ k ih =>
    intro D h
    rcases isForm_inv h with ⟨w, n, rfl, hw, hn⟩ | ⟨j, w, a, b, e, rfl, hw, ha, hb⟩
    · simp only [shortD, shortAll, okStr_leaf w hw, okStr_of_name hn, Bool.and_self]
    · obtain rfl : k = j := by omega
      have h1 := ih ha
      have h2 := ih hb
      unfold shortD
      simp only [shortAll, h1, h2, Bool.and_true]
      unfold shortD
      exact okStr_half w hw
theorem depth_form : ∀ {k : Nat} {D : PyData}, isForm k D = true → D.depth ≤ k + 1 := by
  intro k
  induction k with
  | zero =>
    intro D h
    rcases isForm_inv h with ⟨w, n, rfl, hw, hn⟩ | ⟨j, w, a, b, e, _⟩
    · simp [PyData.depth, PyData.depthAll]
    · cases e
  | succ k ih =>
    intro D h
    rcases isForm_inv h with ⟨w, n, rfl, hw, hn⟩ | ⟨j, w, a, b, e, rfl, hw, ha, hb⟩
    · simp [PyData.depth, PyData.depthAll]
    · obtain rfl : k = j := by omega
      have h1 := ih ha
      have h2 := ih hb
      simp only [PyData.depth, PyData.depthAll]
      omega
theorem arg_eq {x y : V} {G : V → Hp → Prop} {H : Hp} (e : x = y) (h : G y H) : G x H := by
  rw [e]
  exact h
/-- the least depth of a form -/
def Deep (j : Nat) (D : PyData) : Prop := isForm j D = true ∧ ∀ i, i < j → isForm i D = false
theorem deep_node {x y : Nat} {w : Str} {a b : PyData} (hw : w ∈ halfW) (ha : Deep x a) (hb : Deep y b) {m : Nat} (hm : m = x ∨ m = y) (hx : x ≤ m) (hy : y ≤ m) : Deep (m + 1) (.tuple [.str w, a, b]) := by
  refine ⟨isForm_node hw (isForm_le ha.1 hx) (isForm_le hb.1 hy), fun i hi => ?_⟩
  cases i with
  | zero => exact isForm_tup3_0 _ _ _
  | succ i =>
    rw [isForm_m3]
    rcases hm with rfl | rfl
    · rw [ha.2 i (by omega), Bool.false_and, Bool.and_false]
    · rw [hb.2 i (by omega), Bool.and_false, Bool.and_false]
theorem deep_leaf {w n : Str} (hw : w ∈ leafW) (hn : isName n = true) : Deep 0 (.tuple [.str w, .str n]) := ⟨isForm_leaf 0 hw hn, fun i hi => by omega⟩
def lvs : PyData → List PyData
  | .tuple [a, b] => [.tuple [a, b]]
  | .tuple [_, a, b] => lvs a ++ lvs b
  | _ => []
theorem lvs2 (a b : PyData) : lvs (.tuple [a, b]) = [.tuple [a, b]] := by rw [lvs]
theorem lvs3 (w a b : PyData) : lvs (.tuple [w, a, b]) = lvs a ++ lvs b := by rw [lvs]
abbrev s_law_depth : Stmt := top 47
abbrev N_law_depth : List Str := ["_law_form"]
abbrev P_law_depth : List Str := ["_law_form"]
theorem sc_law_depth : FnScope N_law_depth P_law_depth (defScope s_law_depth) := ⟨rfl, rfl, rfl, by decide +kernel, rfl, by decide +kernel, by decide +kernel⟩
abbrev s_law_shape : Stmt := top 55
abbrev N_law_shape : List Str := ["_law_pen", "_law_names_here", "_law_many", "_law_tall", "_law_room", "_law_low", "_law_high", "_law_way", "_law_left", "_law_word", "_law_one"]
abbrev P_law_shape : List Str := ["_law_pen", "_law_names_here", "_law_many", "_law_tall"]
theorem sc_law_shape : FnScope N_law_shape P_law_shape (defScope s_law_shape) := ⟨rfl, rfl, rfl, by decide +kernel, rfl, by decide +kernel, by decide +kernel⟩
abbrev s_law_deeper : Stmt := top 62
abbrev N_law_deeper : List Str := ["_law_form", "_law_tall", "_law_k"]
abbrev P_law_deeper : List Str := ["_law_form", "_law_tall"]
theorem sc_law_deeper : FnScope N_law_deeper P_law_deeper (defScope s_law_deeper) := ⟨rfl, rfl, rfl, by decide +kernel, rfl, by decide +kernel, by decide +kernel⟩
def spDepth (K : PySem.W.Frag) (k : Nat) : Sp := fun vs H Q _ => ∃ (v : V) (D : PyData) (k' : Nat), vs = [v] ∧ k' < k ∧ Dp K H v D ∧ isForm k' D = true ∧ ∀ (j : Nat) H', j ≤ k' → Deep j D → Same H H' → Q (.int j) H'
def spDeeper (K : PySem.W.Frag) : Sp := fun vs H Q _ => ∃ (v : V) (D : PyData) (t : Nat), vs = [v, .int t] ∧ 12 ≤ t ∧ t ≤ 2000 ∧ Dp K H v D ∧ isForm 12 D = true ∧ ∀ v' D' H', Dp K H' v' D' → Deep t D' ∨ (t = 12 ∧ isForm 12 D' = true) → (lvs D').length ≤ (lvs D).length + t → Same H H' → Q v' H'
def spShape (K : PySem.W.Frag) (k : Nat) : Sp := fun vs H Q _ => ∃ (d L : Addr) (ns : List Int) (n : Nat) (a : Addr) (zs : List Str) (m t : Nat), vs = [.ref d, .ref a, .int m, .int t] ∧ t < k ∧ Pen K H d L ns n ∧ n + 5 * m < 2 ^ 39 ∧
  SqL K H a (zs.map V.str) ∧ zs ≠ [] ∧ zs.length ≤ 1000 ∧ (∀ z ∈ zs, isName z = true) ∧ 1 ≤ m ∧ m ≤ 1000 ∧ m ≤ 2 ^ t ∧ t ≤ 60 ∧
  ∀ v D H', Dp K H' v D → isForm t D = true → (lvs D).length = m → Keep d H H' → Pen K H' d L ns (n + (5 * m - 3)) → Q v H'
section
variable {P : Program} {w : World} {K : PySem.W.Frag} {mg : Str → Option Value} {base : Heap} {f : Addr} {fd : FuncData}
theorem ok_law_depth {k : Nat} (T : Txt K mg) (F : Fun K "_law_depth" "_law_depth" s_law_depth f fd) (C_law_depth : Cal P w K mg base "_law_depth" k ["_law_form"] (spDepth K k)) : FnOk P w K mg base CX0 (k + 1) f fd P_law_depth (spDepth K (k + 1)) := by
  refine F.ok sc_law_depth (fun vs H Q E h => ?_) (fun cdv A outer s H vs Q E hr h => ?_)
  · obtain ⟨v, D, k', rfl, _⟩ := h
    rfl
  obtain ⟨v, D, k', rfl, hk, hv, hD, q⟩ := h
  refine ⟨_, (pss_one (ps_ret (pe_ifExp (pt_cmpR op_eq (pe_callB call_len rfl T.len (by decide +kernel) (pa_cons (pv 0) pa_nil)) pe_int (nomark _)) pe_int (pe_op op_add pe_int (pe_callB (cr_max rfl) rfl T.max (by decide +kernel) (pa_cons (pe_lst (pa_cons (pe_callC C_law_depth hr (pa_cons (pe_ix ix_tup (pv 0) pe_int (fun _ _ => rfl)) pa_nil)) (pa_cons (pe_callC C_law_depth hr (pa_cons (pe_ix ix_tup (pv 0) pe_int (fun _ _ => rfl)) pa_nil)) pa_nil))) pa_nil)))))), ?_⟩
  rcases isForm_inv hD with ⟨x, n, rfl, hx, hn⟩ | ⟨j, x, a, b, rfl, rfl, hx, ha, hb⟩
  · cases hv with | @tup p xs _ hT hA => cases hA with | cons h1 hA => cases hA with | cons h2 hN =>
    cases hN
    refine ⟨_, rfl, _, _, rfl, .inr ⟨_, hT, rfl⟩, rfl, _, rfl, ?_⟩
    exact q 0 H (Nat.zero_le _) (deep_leaf hx hn) (Same.refl H)
  · cases hv with | @tup p xs _ hT hA => cases hA with | cons h1 hA => cases hA with | cons h2 hA => cases hA with | cons h3 hN =>
    cases hN
    refine ⟨_, rfl, _, _, rfl, .inr ⟨_, hT, rfl⟩, rfl, _, rfl, ?_⟩
    refine iteF ⟨_, rfl, p, _, _, _, rfl, rfl, hT, rfl, _, a, j, rfl, by omega, h2, ha, fun ja H1 la da S1 => ?_⟩
    refine ⟨_, rfl, p, _, _, _, rfl, rfl, seqT_same S1 hT, rfl, _, b, j, rfl, by omega, dp_same S1 _ _ h3, hb, fun jb H2 lb db S2 => ?_⟩
    refine ⟨by show 2 ≤ sizeLine; decide, fun p2 n2 => ⟨p2, [(ja : Int), (jb : Int)], rfl, SqL.of upd_same, by simp, fun m hm hle => ?_⟩⟩
    obtain ⟨M, rfl⟩ : ∃ M : Nat, m = (M : Int) := by
      simp only [List.mem_cons, List.not_mem_nil, or_false] at hm
      rcases hm with rfl | rfl
      · exact ⟨ja, rfl⟩
      · exact ⟨jb, rfl⟩
    have l1 := hle (ja : Int) (by simp)
    have l2 := hle (jb : Int) (by simp)
    have hM : M = ja ∨ M = jb := by
      simp only [List.mem_cons, List.not_mem_nil, or_false] at hm
      omega
    refine ⟨_, _, rfl, rfl, ?_⟩
    have e : (1 + (M : Int)) = ((M + 1 : Nat) : Int) := by omega
    show Q (.int (1 + (M : Int))) _
    rw [e]
    exact q (M + 1) _ (by omega) (deep_node hx da db hM (by omega) (by omega)) ((S1.trans S2).trans (same_new n2 _))
theorem ok_law_deeper (T : Txt K mg) (F : Fun K "_law_deeper" "_law_deeper" s_law_deeper f fd) (C_law_depth : Cal P w K mg base "_law_depth" 13 ["_law_form"] (spDepth K 13)) : FnOk P w K mg base CX0 14 f fd P_law_deeper (spDeeper K) := by
  refine F.ok sc_law_deeper (fun vs H Q E h => ?_) (fun cdv A outer s H vs Q E hr h => ?_)
  · obtain ⟨v, D, t, rfl, _⟩ := h
    rfl
  obtain ⟨v, D, t, rfl, h12, ht, hv, hD, q⟩ := h
  refine ⟨_, (pss_cons (ps_for PassesOwn.never rfl (pi_range1 rfl T.range (pa_cons (pe_op op_sub (pv 1) (pe_callC C_law_depth hr (pa_cons (pv 0) pa_nil))) pa_nil)) (pg_name (i := 2) sc_law_deeper.nd rfl (Or.inl rfl))
    (pss_one (ps_set (i := 0) sc_law_deeper.nd rfl (Or.inl rfl) (pe_ifExp (pt_cmpR op_eq (pe_op op_mod (pe_callTy call_int1 rfl T.int (by decide +kernel) (pa_cons (pv 2) pa_nil)) pe_int) pe_int (nomark _)) (pe_tup (pa_cons pe_str (pa_cons (pv 0) (pa_cons (pe_tup (pa_cons pe_str (pa_cons pe_str pa_nil))) pa_nil)))) (pe_tup (pa_cons pe_str (pa_cons (pe_tup (pa_cons pe_str (pa_cons pe_str pa_nil))) (pa_cons (pv 0) pa_nil))))))))
  (pss_one (ps_ret (pv 0)))), ?_⟩
  refine ⟨_, rfl, _, rfl, v, D, 12, rfl, by omega, hv, hD, fun j H1 hj dj S1 => ?_⟩
  refine ⟨_, _, rfl, rfl, (t : Int) - (j : Int), rfl, by omega, by omega, ?_⟩
  refine for_range (lo := 0) (n := ((t : Int) - (j : Int)).toNat) (fun i σ H' => Same H H' ∧ ∃ v' x D', σ = [some v', some (.int t), x] ∧ Dp K H' v' D' ∧ Deep (j + i) D' ∧ (lvs D').length ≤ (lvs D).length + i) ⟨S1, v, none, D, rfl, dp_same S1 _ _ hv, dj, Nat.le_refl _⟩
    (fun i σ H2 hi ⟨S2, v', x, D', eσ, hv', dv, lv⟩ => ?_) (fun σ H2 ⟨S2, v', x, D', eσ, hv', dv, lv⟩ => ?_)
  · subst eσ
    refine ⟨_, rfl, .inl ⟨_, rfl, _, _, rfl, rfl, (by show (0 : Int) < 2; decide), rfl, _, rfl, ?_⟩⟩
    have hn : isName (Str.ofString "a") = true := by decide +kernel
    have hn2 : isName (Str.ofString "b") = true := by decide +kernel
    refine ite2 (fun c => ?_) (fun c => ?_)
    · refine ⟨_, rfl, by show 2 ≤ sizeLine; decide, fun p1 n1 => ⟨by show 3 ≤ sizeLine; decide, fun p2 n2 => ?_⟩⟩
      have S3 := same_new n1 (.tup [.str (Str.ofString "good"), .str (Str.ofString "a")])
      have S4 := S3.trans (same_new n2 (.tup [.str (Str.ofString "both"), v', .ref p1]))
      refine ⟨S2.trans S4, .ref p2, _, .tuple [.str (Str.ofString "both"), D', .tuple [.str (Str.ofString "good"), .str (Str.ofString "a")]], rfl, .tup (SqT.of upd_same) (.cons (.str _) (.cons (dp_same S4 _ _ hv') (.cons (.tup (SqT.of (same_new n2 _ _ _ upd_same)) (.cons (.str _) (.cons (.str _) .nil))) .nil))), ?_, by rw [lvs3, lvs2, List.length_append]; simp only [List.length_cons, List.length_nil]; omega⟩
      exact deep_node (x := j + i) (y := 0) (m := j + i) (by decide +kernel) dv (deep_leaf (by decide +kernel) hn) (.inl rfl) (by omega) (by omega)
    · refine ⟨by show 2 ≤ sizeLine; decide, fun p1 n1 => ⟨_, rfl, by show 3 ≤ sizeLine; decide, fun p2 n2 => ?_⟩⟩
      have S3 := same_new n1 (.tup [.str (Str.ofString "counter"), .str (Str.ofString "b")])
      have S4 := S3.trans (same_new n2 (.tup [.str (Str.ofString "chosen"), .ref p1, v']))
      refine ⟨S2.trans S4, .ref p2, _, .tuple [.str (Str.ofString "chosen"), .tuple [.str (Str.ofString "counter"), .str (Str.ofString "b")], D'], rfl, .tup (SqT.of upd_same) (.cons (.str _) (.cons (.tup (SqT.of (same_new n2 _ _ _ upd_same)) (.cons (.str _) (.cons (.str _) .nil))) (.cons (dp_same S4 _ _ hv') .nil))), ?_, by rw [lvs3, lvs2, List.length_append]; simp only [List.length_cons, List.length_nil]; omega⟩
      exact deep_node (x := 0) (y := j + i) (m := j + i) (by decide +kernel) (deep_leaf (by decide +kernel) hn2) dv (.inr rfl) (by omega) (by omega)
  · subst eσ
    have e : j + ((t : Int) - (j : Int)).toNat = t := by omega
    rw [e] at dv
    exact ⟨_, rfl, q v' D' H2 hv' (.inl dv) (by omega) S2⟩
set_option maxHeartbeats 2000000 in
theorem ok_law_shape {k : Nat} (T : Txt K mg) (F : Fun K "_law_shape" "_law_shape" s_law_shape f fd) (C_law_draw : Cal P w K mg base "_law_draw" 1 ["_law_pen", "_law_span"] (spDraw K)) (C_law_pick : Cal P w K mg base "_law_pick" 2 ["_law_pen", "_law_some"] (spPick K))
    (C_law_shape : Cal P w K mg base "_law_shape" (2 + k) P_law_shape (spShape K k)) : FnOk P w K mg base CX0 (2 + k + 1) f fd P_law_shape (spShape K (k + 1)) := by
  refine F.ok sc_law_shape (fun vs H Q E h => ?_) (fun cdv A outer s H vs Q E hr h => ?_)
  · obtain ⟨d, L, ns, n, a, zs, m, t, rfl, _⟩ := h
    rfl
  obtain ⟨d, L, ns, n, a, zs, m, t, rfl, htk, p, hn, hS, hne, hzl, hzs, hm1, hm2, hm3, ht60, q⟩ := h
  refine ⟨_, (pss_cons (ps_if (pt_cmpR op_eq (pv 2) pe_int (nomark _))
    (pss_one (ps_ret (pe_tup (pa_cons (pe_callC C_law_pick hr (pa_cons (pv 0) (pa_cons (pe_lst (pa_cons pe_str (pa_cons pe_str pa_nil))) pa_nil))) (pa_cons (pe_callC C_law_pick hr (pa_cons (pv 0) (pa_cons (pv 1) pa_nil))) pa_nil)))))
    pss_nil)
  (pss_cons (ps_set (i := 4) sc_law_shape.nd rfl (Or.inl rfl) (pe_op op_shl pe_int (pe_op op_sub (pv 3) pe_int)))
  (pss_cons (ps_par (i := 5) (j := 6) (by rfl) sc_law_shape.nd rfl rfl (by decide) rfl rfl (pa_cons (pe_callB (call_max2 rfl) rfl T.max (by decide +kernel) (pa_cons pe_int (pa_cons (pe_op op_sub (pv 2) (pv 4)) pa_nil))) (pa_cons (pe_callB (call_min2 rfl) rfl T.min (by decide +kernel) (pa_cons (pe_op op_sub (pv 2) pe_int) (pa_cons (pv 4) pa_nil))) pa_nil)) (by rfl))
  (pss_cons (ps_set (i := 7) sc_law_shape.nd rfl (Or.inl rfl) (pe_callC C_law_draw hr (pa_cons (pv 0) (pa_cons pe_int pa_nil))))
  (pss_cons (ps_set (i := 8) sc_law_shape.nd rfl (Or.inl rfl) (pe_op op_add (pv 5) (pe_callC C_law_draw hr (pa_cons (pv 0) (pa_cons (pe_op op_add (pe_op op_sub (pv 6) (pv 5)) pe_int) pa_nil)))))
  (pss_cons (ps_if (pt_cmpR op_lt (pv 7) pe_int (nomark _))
    (pss_one (ps_set (i := 8) sc_law_shape.nd rfl (Or.inl rfl) (pe_ifExp (pt_cmpR op_eq (pv 7) pe_int (nomark _)) (pv 5) (pv 6))))
    pss_nil)
  (pss_cons (ps_set (i := 9) sc_law_shape.nd rfl (Or.inl rfl) (pe_callC C_law_pick hr (pa_cons (pv 0) (pa_cons (pe_lst (pa_cons pe_str (pa_cons pe_str (pa_cons pe_str (pa_cons pe_str pa_nil))))) pa_nil))))
  (pss_cons (ps_set (i := 10) sc_law_shape.nd rfl (Or.inl rfl) (pe_callC C_law_shape hr (pa_cons (pv 0) (pa_cons (pv 1) (pa_cons (pv 8) (pa_cons (pe_op op_sub (pv 3) pe_int) pa_nil))))))
  (pss_one (ps_ret (pe_tup (pa_cons (pv 9) (pa_cons (pv 10) (pa_cons (pe_callC C_law_shape hr (pa_cons (pv 0) (pa_cons (pv 1) (pa_cons (pe_op op_sub (pv 2) (pv 8)) (pa_cons (pe_op op_sub (pv 3) pe_int) pa_nil))))) pa_nil)))))))))))))), ?_⟩
  refine ⟨_, rfl, rfl, _, rfl, ?_⟩
  refine ite2 (fun c => ?_) (fun c => ?_)
  · have hm : m = 1 := by
      have := V.int.inj (of_decide_eq_true c)
      omega
    subst hm
    refine ⟨_, rfl, by show 2 ≤ sizeLine; decide, fun p0 np0 => ?_⟩
    refine ⟨d, L, ns, n, _, rfl, p.same (same_new np0 _), by omega, .inl ⟨p0, _, rfl, SqL.of upd_same, by simp, by show 2 ≤ 1000; decide, fun x H1 hx k1 p1 => ?_⟩⟩
    have k1' : Keep d H H1 := (Same.toKeep (same_new np0 _)).trans k1
    refine ⟨_, rfl, _, rfl, d, L, ns, n + 1, _, rfl, p1, by omega, .inl ⟨a, _, rfl, seqL_keep p.isDk k1' hS, by simp [hne], by rw [List.length_map]; exact hzl, fun y H2 hy k2 p2 => ⟨by show 2 ≤ sizeLine; decide, fun p3 n3 => ?_⟩⟩⟩
    obtain ⟨w', rfl, hw⟩ : ∃ w', x = .str w' ∧ w' ∈ leafW := by
      have : x ∈ leafW.map V.str := hx
      obtain ⟨w', hw, e⟩ := List.mem_map.mp this
      exact ⟨w', e.symm, hw⟩
    obtain ⟨z, hz, rfl⟩ := List.mem_map.mp hy
    exact q (.ref p3) (.tuple [.str w', .str z]) _ (.tup (SqT.of upd_same) (.cons (.str _) (.cons (.str _) .nil))) (isForm_leaf _ hw (hzs z hz)) (by first | (rw [lvs2]; done) | (rw [lvs2]; rfl)) ((k1'.trans k2).trans (Same.toKeep (same_new n3 _))) ((p2.same (same_new n3 _)).mono (by omega))
  · have hm : m ≠ 1 := fun e => c (by subst e; rfl)
    obtain ⟨t', rfl⟩ : ∃ t', t = t' + 1 := by
      cases t with
      | zero => simp at hm3; omega
      | succ t' => exact ⟨t', rfl⟩
    have hpow : (2 : Nat) ^ (t' + 1) = 2 * 2 ^ t' := by rw [Nat.pow_succ]; omega
    generalize hR : (2 : Nat) ^ t' = R at hpow
    rw [hpow] at hm3
    have hR1 : 1 ≤ R := by rw [← hR]; exact Nat.one_le_two_pow
    refine ⟨_, rfl, _, _, rfl, rfl, _, _, rfl, rfl, ⟨by omega, by omega, by decide⟩, ?_⟩
    have eR : (1 : Int) * 2 ^ (((t' + 1 : Nat) : Int) - 1).toNat = (R : Int) := by
      have : (((t' + 1 : Nat) : Int) - 1).toNat = t' := by omega
      rw [this, ← hR, Int.one_mul]
      norm_cast
    dsimp only
    rw [eR]
    refine ⟨_, rfl, _, rfl, _, _, rfl, rfl, _, _, rfl, _, rfl, _, _, rfl, rfl, _, rfl, _, _, rfl, _, _, rfl, ?_⟩
    have hE1 : 1 ≤ (if (m : Int) - (R : Int) > 1 then (m : Int) - (R : Int) else 1) ∧ (m : Int) - R ≤ (if (m : Int) - (R : Int) > 1 then (m : Int) - (R : Int) else 1) ∧
        ((if (m : Int) - (R : Int) > 1 then (m : Int) - (R : Int) else 1) = 1 ∨ (if (m : Int) - (R : Int) > 1 then (m : Int) - (R : Int) else 1) = (m : Int) - R) := by
      split <;> omega
    have hE2 : (if (R : Int) < (m : Int) - 1 then (R : Int) else (m : Int) - 1) ≤ (m : Int) - 1 ∧ (if (R : Int) < (m : Int) - 1 then (R : Int) else (m : Int) - 1) ≤ R ∧
        ((if (R : Int) < (m : Int) - 1 then (R : Int) else (m : Int) - 1) = (m : Int) - 1 ∨ (if (R : Int) < (m : Int) - 1 then (R : Int) else (m : Int) - 1) = R) := by
      split <;> omega
    generalize hE1e : (if (m : Int) - (R : Int) > 1 then (m : Int) - (R : Int) else 1) = E1 at hE1 ⊢
    generalize hE2e : (if (R : Int) < (m : Int) - 1 then (R : Int) else (m : Int) - 1) = E2 at hE2 ⊢
    have pick3 : ∀ x : Int, E1 ≤ x → x ≤ E2 → ∃ lf : Nat, x = (lf : Int) ∧ 1 ≤ lf ∧ lf ≤ R ∧ 1 ≤ m - lf ∧ m - lf ≤ R ∧ lf ≤ m := fun x h1 h2 =>
      ⟨x.toNat, by omega, by omega, by omega, by omega, by omega, by omega⟩
    refine ⟨_, rfl, d, L, ns, n, 5, rfl, p, by omega, by decide, by decide, fun way H1 w0 w5 k1 p1 => ?_⟩
    refine ⟨_, rfl, _, rfl, _, rfl, _, rfl, _, _, rfl, rfl, _, _, rfl, rfl, d, L, ns, n + 1, E2 - E1 + 1, rfl, p1, by omega, by omega, by omega, fun r H2 r0 r1 k2 p2 => ?_⟩
    refine ⟨_, _, rfl, rfl, ?_⟩
    refine ⟨_, rfl, _, _, rfl, rfl, _, rfl, ?_⟩
    have k12 := k1.trans k2
    have e1 : ((t' + 1 : Nat) : Int) - 1 = (t' : Int) := by omega
    refine ite2 (fun c2 => ?_) (fun c2 => ?_)
    refine ⟨_, rfl, rfl, _, rfl, ?_⟩
    refine ite2 (fun c3 => ?_) (fun c3 => ?_)
    case' refine_1 =>
      obtain ⟨lf, rfl, l1, l2, l3, l4, l5⟩ := pick3 E1 (by omega) (by omega)
      refine ⟨_, rfl, ?_⟩
    case' refine_2 =>
      obtain ⟨lf, rfl, l1, l2, l3, l4, l5⟩ := pick3 E2 (by omega) (by omega)
      refine ⟨_, rfl, ?_⟩
    case' refine_2.refine_2.refine_2 =>
      obtain ⟨lf, elf, l1, l2, l3, l4, l5⟩ := pick3 (E1 + r) (by omega) (by omega)
      dsimp only
      rw [elf]
    all_goals
      refine ⟨_, rfl, by show 4 ≤ sizeLine; decide, fun p4 n4 => ?_⟩
      refine ⟨d, L, ns, n + 2, _, rfl, p2.same (same_new n4 _), by omega, .inl ⟨p4, _, rfl, SqL.of upd_same, by simp, by show 4 ≤ 1000; decide, fun x H3 hx k3 p3 => ?_⟩⟩
      have k3' := (k12.trans (Same.toKeep (same_new n4 _))).trans k3
      obtain ⟨w', rfl, hw⟩ : ∃ w', x = .str w' ∧ w' ∈ halfW := by
        have : x ∈ halfW.map V.str := hx
        obtain ⟨w', hw, e⟩ := List.mem_map.mp this
        exact ⟨w', e.symm, hw⟩
      refine ⟨_, rfl, _, rfl, _, rfl, _, rfl, _, _, rfl, rfl, d, L, ns, n + 3, a, zs, lf, t', congrArg (fun i => [V.ref d, V.ref a, V.int (lf : Int), V.int i]) e1, by omega, p3, by omega, seqL_keep p.isDk k3' hS, hne, hzl, hzs, l1, by omega, by omega, by omega, fun v1 D1 H4 hd1 hf1 hv1 k4 p4' => ?_⟩
      have k4' := k3'.trans k4
      have e2 : (m : Int) - (lf : Int) = ((m - lf : Nat) : Int) := by omega
      refine ⟨_, rfl, _, rfl, _, rfl, _, rfl, _, rfl, _, rfl, _, _, rfl, rfl, _, rfl, _, _, rfl, rfl, d, L, ns, n + 3 + (5 * lf - 3), a, zs, m - lf, t', ?_, by omega, p4', by omega, seqL_keep p.isDk k4' hS, hne, hzl, hzs, l3, by omega, by omega, by omega, fun v2 D2 H5 hd2 hf2 hv2 k5 p5 => ⟨by show 3 ≤ sizeLine; decide, fun p6 n6 => ?_⟩⟩
      · show [V.ref d, V.ref a, V.int ((m : Int) - (lf : Int)), V.int (((t' + 1 : Nat) : Int) - 1)] = _
        rw [e1, e2]
      · have S6 := same_new n6 (.tup [.str w', v1, v2])
        exact q (.ref p6) (.tuple [.str w', D1, D2]) _ (.tup (SqT.of upd_same) (.cons (.str _) (.cons (dp_same S6 _ _ (dp_keep p4'.isDk k5 _ _ hd1))  (.cons (dp_same S6 _ _ hd2) .nil)))) (isForm_node hw hf1 hf2) (by rw [lvs3, List.length_append, hv1, hv2]; omega) ((k4'.trans k5).trans (Same.toKeep S6)) ((p5.same S6).mono (by omega))
end
end My

set_option Elab.async false
set_option linter.all false
set_option maxRecDepth 100000
namespace My
open PySem PySem.Spec PyProof.Rows L2 SX HT
/-! ### t[::-1] -/
section
variable {prog : Program} {w : World} {A : Around} {E : Value → Shared → Prop} {s : Shared}
theorem back_applied {sl : Addr} {vk : Value} {n : Nat} {Q : Int × Int × Nat → Shared → Prop} (hs : s.heap.IsSliceOf sl .none .none vk) (pk : IsPart vk (some (-1)))
    (h : Q ((n : Int) - 1, -1, n) s) : wpAny (model prog w) A (Builtin.Slice.sliceApplied (.ref sl) (pure (n : Int))) Q E s := by
  obtain ⟨o, ho, hc, hd⟩ := id hs
  unfold Builtin.Slice.sliceApplied Builtin.Slice.sliceFields
  refine wpAny_bind (wpAny_bind (wpAny_field ho hd (x := .none) rfl (wpAny_bind (wpAny_field ho hd (x := .none) rfl (wpAny_bind (wpAny_field ho hd (x := vk) rfl (wpAny_pure ?_)))))))
  refine wpAny_bind (slicePart_ pk ?_)
  show wpAny _ _ (if ((-1 : Int) == 0) = true then _ else _) _ _ s
  rw [if_neg (by decide)]
  refine wpAny_bind (slicePart_none (wpAny_bind (slicePart_none (wpAny_bind (wpAny_pure ?_)))))
  have e : Builtin.Slice.sliceAdjust none none (-1) (n : Int) = ((n : Int) - 1, -1) := rfl
  show wpAny _ _ (match Builtin.Slice.sliceAdjust none none (-1) (n : Int) with | (lo, hi) => pure (lo, (-1 : Int), Builtin.Slice.slicePlaces lo hi (-1))) _ _ s
  rw [e]
  have e2 : Builtin.Slice.slicePlaces ((n : Int) - 1) (-1) (-1) = n := by
    unfold Builtin.Slice.slicePlaces
    rw [if_neg (by decide)]
    by_cases hn : n = 0
    · subst hn; rfl
    · rw [if_pos (by omega)]
      have : ((n : Int) - 1 - -1 - 1) / (- -1) + 1 = (n : Int) := by
        show ((n : Int) - 1 - -1 - 1) / 1 + 1 = (n : Int)
        rw [Int.ediv_one]
        omega
      rw [this, Int.toNat_natCast]
  show wpAny _ _ (pure ((n : Int) - 1, (-1 : Int), Builtin.Slice.slicePlaces ((n : Int) - 1) (-1) (-1))) _ _ s
  rw [e2]
  exact wpAny_pure h
theorem back_picked (xs : Array Value) : ((List.range xs.size).filterMap fun (k : Nat) => xs[(((xs.size : Int) - 1) + (k : Int) * (-1)).toNat]?).toArray = xs.toList.reverse.toArray := by
  have e : (List.range xs.size).filterMap (fun (k : Nat) => xs[(((xs.size : Int) - 1) + (k : Int) * (-1)).toNat]?) = ((List.range xs.size).map fun k => xs.size - 1 - k).filterMap (xs[·]?) := by
    rw [List.filterMap_map]
    congr 1
    funext k
    have : (((xs.size : Int) - 1) + (k : Int) * (-1)).toNat = xs.size - 1 - k := by omega
    rw [this]
    rfl
  rw [e, PySem.W.krv_range, List.filterMap_reverse, PySem.W.krv_all]
theorem back_item {t sl : Addr} {items : Array Value} {vk : Value} {Q : Value → Shared → Prop} (ht : IsTup s.heap t items) (hs : s.heap.IsSliceOf sl .none .none vk) (pk : IsPart vk (some (-1)))
    (h : Q (.ref s.heap.objs.size) { s with heap := s.heap.push { cls := .type "tuple", data := .seq items.toList.reverse.toArray } }) (hz : items.size ≤ sizeLine) : wpAny (model prog w) A (getItem (.ref t) (.ref sl)) Q E s := by
  have hsz : sizeOk (.seq items.toList.reverse.toArray) := by
    show items.toList.reverse.toArray.size ≤ sizeLine
    rw [List.size_toArray, List.length_reverse, Array.length_toList]
    exact hz
  obtain ⟨o, ho, hc, hd⟩ := id hs
  have hT : s.TypeIs (.ref sl) "slice" := ⟨o, ho, hc⟩
  unfold getItem
  try with_reducible refine wpAny_holding ?_
  first | refine wpAny_bind (wpAny_pure ?_) | skip
  refine wpAny_bind (wpAny_sequenceKey ht.typeIs (by decide) (wpAny_bind (wpAny_callSpecial?_slot (name := Str.ofString "__getitem__") ht.typeIs slot_tuple_getitem (wpAny_call_entry slot_tuple_getitem ht.typeIs entry_tuple_getitem ?_ (args_tuple_getitem _ _)))))
  show wpAny _ _ (Builtin.Tuple.tupleItemsOf (.ref t) >>= _) _ _ s
  refine wpAny_bind (tupleItemsOf_ ht (wpAny_bind (wpAny_typeOf hT ?_)))
  rw [if_pos (by decide)]
  refine wpAny_bind (back_applied hs pk ?_)
  have hno : ¬ ((((items.size : Int) - 1) == 0 && (-1 : Int) == 1 && items.size == items.size) = true) := by
    rw [Bool.and_eq_true, Bool.and_eq_true]
    rintro ⟨⟨_, q⟩, _⟩
    exact absurd q (by decide)
  show wpAny _ _ (if (((items.size : Int) - 1) == 0 && (-1 : Int) == 1 && items.size == items.size) = true then _ else _) _ _ s
  rw [if_neg hno, back_picked]
  first
    | exact wpAny_bind (m := Builtin.Tuple.tupleExact _) (wpAny_newObj_type (wpAny_pure ⟨_, rfl, wpAny_pure h⟩) hsz)
    | exact wpAny_bind (m := Builtin.Tuple.tupleExact _) (wpAny_newObj_type (wpAny_bind (wpAny_pure (wpAny_pure ⟨_, rfl, wpAny_pure h⟩))) hsz)
    | exact wpAny_bind (wpAny_bind (m := Builtin.Tuple.tupleExact _) (wpAny_newObj_type (wpAny_pure (wpAny_pure ⟨_, rfl, wpAny_pure h⟩)) hsz))
    | exact wpAny_bind (wpAny_bind (m := Builtin.Tuple.tupleExact _) (wpAny_newObj_type (wpAny_pure ⟨_, rfl, wpAny_pure h⟩) hsz))
end
section
variable {X : Cx}
def tRevT (K : PySem.W.Frag) (te : TE) : TE := fun σ H Q => te σ H fun x H1 => ∃ a xs, x = .ref a ∧ SqT K H1 a xs ∧ ∀ p, H1 p = none → Q (.ref p) (upd H1 p (.tup xs.reverse))
theorem pe_revT {e : Expr} {te : TE} {k : Nat} {p1 p2 p3 pos : Pos} (he : PE X e te) : PE X (.Subscript e (.Slice none none (some (.UnaryOp .USub (.Constant (.int 1) k p1) p2)) p3) pos) (tRevT X.K te) := by
  refine ⟨fun pins s σ H Q I h => Subscript_ (thn (he.run pins s σ H _ I h) fun v s1 ⟨x, H1, I1, r1, a, xs, ex, hx, q⟩ => ?_)⟩
  subst ex
  cases r1
  have hst : PO X (some (.UnaryOp .USub (.Constant (.int 1) k p1) p2)) (tPart (tUn (rU fun i => .int (-i)) (tC (.int 1)))) := po_some (pe_un un_neg pe_int)
  refine wpAny_Slice (thn (po_none.run pins s1 σ H1 (fun o H2 => o = none ∧ H2 = H1) I1 ⟨rfl, rfl⟩) fun vl s2 ⟨l, H2, I2, pl, el, e2⟩ => ?_)
  subst el e2
  refine thn (po_none.run pins s2 σ H2 (fun o H3 => o = none ∧ H3 = H2) I2 ⟨rfl, rfl⟩) fun vu s3 ⟨u, H3, I3, pu, eu, e3⟩ => ?_
  subst eu e3
  refine thn (hst.run pins s3 σ H3 (fun o H4 => o = some (-1) ∧ H4 = H3) I3 ⟨1, rfl, -1, rfl, rfl, rfl⟩) fun vs s4 ⟨o, H4, I4, ps, eo, e4⟩ => ?_
  subst eo e4
  cases pl
  cases pu
  have I5 : Inv X pins σ H4 { s4 with heap := s4.heap.push { cls := .type "slice", data := .fields #[.none, .none, vs] } } := I4.kept (t' := s4.toks) fun b ob q => Heap.get?_push_of_some _ q
  obtain ⟨its, r, ht, hz⟩ := I5.tuple hx
  have hlen := r.length
  show wpAny (model X.prog X.w) X.A (subscriptTail e (.Slice none none (some (.UnaryOp .USub (.Constant (.int 1) k p1) p2)) p3) (.ref a) (.ref s4.heap.objs.size)) (EP X pins σ Q) X.xe { s4 with heap := s4.heap.push { cls := .type "slice", data := .fields #[.none, .none, vs] } }
  refine tail_any (ops := [.ref a, .ref s4.heap.objs.size]) ht.typeIs (slot_tuple_getitem.lookup) ?_ (by with_unfolding_all rfl)
  refine back_item ht (Heap.IsSliceOf.new _ .none .none vs) ps ?_ (by rw [List.size_toArray]; omega)
  refine ⟨.ref _, _, I5.laid (t' := s4.toks) (o := .tup xs.reverse) (fun b ob q => Heap.get?_push_of_some _ q) (Nat.le_refl _) ?_, rfl, q _ (I5.hok.fresh (Nat.le_refl _))⟩
  exact ⟨by rw [List.length_reverse]; exact hz, its.reverse, r.reverse, _, Heap.get?_push_size _ rfl, rfl, _, rfl⟩
end
/-! ### texts that are short and of plain signs -/
theorem okS {z : Str} : okStr z = true ↔ z.length ≤ 1000 ∧ ∀ c ∈ z.cps.toList, c < 128 := by
  unfold okStr
  rw [Bool.and_eq_true, List.all_eq_true]
  constructor
  · exact fun h => ⟨of_decide_eq_true h.1, fun c hc => of_decide_eq_true (h.2 c hc)⟩
  · exact fun h => ⟨decide_eq_true h.1, fun c hc => decide_eq_true (h.2 c hc)⟩
theorem tl_len (z : Str) : z.cps.toList.length = z.length := Array.length_toList
theorem cut_tl (z : Str) (lo hi : Option Int) : (cutS z lo hi).cps.toList = (z.cps.toList.drop (HT.sIx z.length 0 lo)).take (HT.sIx z.length z.length hi - HT.sIx z.length 0 lo) := rfl
theorem cut_len (z : Str) (lo hi : Option Int) : (cutS z lo hi).length ≤ z.length := by
  rw [← tl_len, cut_tl, List.length_take, List.length_drop, tl_len]
  omega
theorem cut_asc {z : Str} (lo hi : Option Int) (h : ∀ c ∈ z.cps.toList, c < 128) : ∀ c ∈ (cutS z lo hi).cps.toList, c < 128 := fun c hc => by
  rw [cut_tl] at hc
  exact h c (List.mem_of_mem_drop (List.mem_of_mem_take hc))
theorem cat_tl (a b : Str) : (a ++ b).cps.toList = a.cps.toList ++ b.cps.toList := TL.tl_append a b
theorem cat_len (a b : Str) : (a ++ b).length = a.length + b.length := by
  rw [← tl_len, cat_tl, List.length_append, tl_len, tl_len]
theorem cat_asc {a b : Str} (ha : ∀ c ∈ a.cps.toList, c < 128) (hb : ∀ c ∈ b.cps.toList, c < 128) : ∀ c ∈ (a ++ b).cps.toList, c < 128 := fun c hc => by
  rw [cat_tl] at hc
  rcases List.mem_append.mp hc with hc | hc
  · exact ha c hc
  · exact hb c hc
theorem one_asc {c : Nat} (h : c < 128) : ∀ x ∈ (⟨#[c]⟩ : Str).cps.toList, x < 128 := fun x hx => by
  rw [List.mem_singleton.mp hx]
  exact h
theorem upper_ok {z : Str} (h : ∀ c ∈ z.cps.toList, c < 128) : (Txt.upper z).length = z.length ∧ ∀ c ∈ (Txt.upper z).cps.toList, c < 128 := by
  have e := upper_S (a := z.cps.toList) (by rw [List.all_eq_true]; exact fun c hc => decide_eq_true (h c hc))
  rw [S_tl] at e
  rw [e]
  refine ⟨by rw [S_len, List.length_map, tl_len], fun c hc => ?_⟩
  obtain ⟨x, hx, rfl⟩ := List.mem_map.mp (show c ∈ z.cps.toList.map up1 from hc)
  have := h x hx
  unfold up1
  split <;> omega
end My

set_option Elab.async false
set_option linter.all false
set_option maxRecDepth 100000
namespace My
open PySem L2 SX
abbrev s_law_bent_name : Stmt := top 60
abbrev N_law_bent_name : List Str := ["_law_pen", "_law_name_here", "_law_at", "_law_sign", "_law_way"]
abbrev P_law_bent_name : List Str := ["_law_pen", "_law_name_here"]
theorem sc_law_bent_name : FnScope N_law_bent_name P_law_bent_name (defScope s_law_bent_name) := ⟨rfl, rfl, rfl, by decide +kernel, rfl, by decide +kernel, by decide +kernel⟩
mutual
def widD : PyData → Bool
  | .list xs => decide (xs.length ≤ 1000) && widAll xs
  | .tuple xs => decide (xs.length ≤ 1000) && widAll xs
  | .dict _ => false
  | _ => true
def widAll : List PyData → Bool
  | [] => true
  | d :: ds => widD d && widAll ds
end
theorem wid_form : ∀ {k : Nat} {D : PyData}, isForm k D = true → widD D = true := by
  intro k
  induction k with
  | zero =>
    intro D h
    rcases isForm_inv h with ⟨w, n, rfl, hw, hn⟩ | ⟨j, w, a, b, e, _⟩
    · rfl
    · cases e
  | succ k ih =>
    intro D h
    rcases isForm_inv h with ⟨w, n, rfl, hw, hn⟩ | ⟨j, w, a, b, e, rfl, hw, ha, hb⟩
    · rfl
    · obtain rfl : k = j := by omega
      show (true && (true && (widD a && (widD b && true)))) = true
      rw [ih ha, ih hb]
      rfl
def spBentName (K : PySem.W.Frag) : Sp := fun vs H Q _ => ∃ (d L : Addr) (ns : List Int) (n : Nat) (z : Str), vs = [.ref d, .str z] ∧ Pen K H d L ns n ∧ n < 2 ^ 39 ∧ isName z = true ∧
  ∀ v D H', Dp K H' v D → shortD D = true → widD D = true → D.depth ≤ 1 → Keep d H H' → Pen K H' d L ns (n + 4) → Q v H'
def zSigns : Str := Str.ofString "AZ_-~ .,()*|&+09az\n\t"
theorem signs_asc : ∀ c ∈ zSigns.cps.toList, c < 128 := by decide +kernel
theorem add_fit {a b : Str} (ha : a.length ≤ 400) (hb : b.length ≤ 400) : a.length + b.length ≤ sizeLine := Nat.le_of_lt (small1000 (by omega))
section
variable {P : Program} {w : World} {K : PySem.W.Frag} {mg : Str → Option Value} {base : Heap} {f : Addr} {fd : FuncData}
theorem ok_law_bent_name (T : Txt K mg) (F : Fun K "_law_bent_name" "_law_bent_name" s_law_bent_name f fd) (C_law_draw : Cal P w K mg base "_law_draw" 1 ["_law_pen", "_law_span"] (spDraw K)) (C_law_pick : Cal P w K mg base "_law_pick" 2 ["_law_pen", "_law_some"] (spPick K)) :
    FnOk P w K mg base CX0 3 f fd P_law_bent_name (spBentName K) := by
  refine F.ok sc_law_bent_name (fun vs H Q E h => ?_) (fun cdv A outer s H vs Q E hr h => ?_)
  · obtain ⟨d, L, ns, n, z, rfl, _⟩ := h
    rfl
  obtain ⟨d, L, ns, n, z, rfl, p, hn, hname, q⟩ := h
  refine ⟨_, (pss_cons (ps_par (i := 2) (j := 3) (by rfl) sc_law_bent_name.nd rfl rfl (by decide) rfl rfl (pa_cons (pe_callC C_law_draw hr (pa_cons (pv 0) (pa_cons (pe_callB call_len rfl T.len (by decide +kernel) (pa_cons (pv 1) pa_nil)) pa_nil))) (pa_cons (pe_callC C_law_pick hr (pa_cons (pv 0) (pa_cons pe_str pa_nil))) pa_nil)) (by rfl))
  (pss_cons (ps_set (i := 4) sc_law_bent_name.nd rfl (Or.inl rfl) (pe_callC C_law_draw hr (pa_cons (pv 0) (pa_cons pe_int pa_nil))))
  (pss_cons (ps_if (pt_cmpR op_lt (pv 4) pe_int (nomark _))
    (pss_one (ps_ret (pe_op op_add_str (pe_op op_add_str (pe_slice sl_str (pv 1) po_none (po_some (pv 2))) (pv 3)) (pe_slice sl_str (pv 1) (po_some (pe_op op_add (pv 2) pe_int)) po_none))))
    pss_nil)
  (pss_cons (ps_if (pt_cmpR op_lt (pv 4) pe_int (nomark _))
    (pss_one (ps_ret (pe_op op_add_str (pe_op op_add_str (pe_slice sl_str (pv 1) po_none (po_some (pv 2))) (pv 3)) (pe_slice sl_str (pv 1) (po_some (pv 2)) po_none))))
    pss_nil)
  (pss_cons (ps_if (pt_cmpR op_lt (pv 4) pe_int (nomark _))
    (pss_one (ps_ret (pe_slice sl_str (pe_op op_add_str (pv 1) pe_str) po_none (po_some (pe_op op_add pe_int (pe_callC C_law_draw hr (pa_cons (pv 0) (pa_cons pe_int pa_nil))))))))
    pss_nil)
  (pss_one (ps_ret (pe_ix ix_list (pe_lst (pa_cons (pe_op op_add_str (pe_slice sl_str (pv 1) po_none (po_some (pv 2))) (pe_slice sl_str (pv 1) (po_some (pe_op op_add (pv 2) pe_int)) po_none)) (pa_cons (pe_op op_add_str (pv 1) (pv 3)) (pa_cons (pe_upper (pv 1)) (pa_cons (pe_lst (pa_cons (pv 1) pa_nil)) (pa_cons pe_int pa_nil)))))) (pe_op op_sub (pv 4) pe_int) (fun _ _ => rfl))))))))), ?_⟩
  have hl12 := name_len hname
  have hz : z.length ≤ sizeLine := Nat.le_of_lt (small1000 (by omega))
  have hasc := (okS.mp (okStr_of_name hname)).2
  have hcl : ∀ lo hi, (cutS z lo hi).length ≤ 12 := fun lo hi => Nat.le_trans (cut_len z lo hi) hl12.2
  refine ⟨_, rfl, _, rfl, _, _, rfl, ⟨hz, rfl⟩, d, L, ns, n, _, rfl, p, by omega, by omega, by omega, fun at_ H1 a0 a1 k1 p1 => ?_⟩
  refine ⟨_, rfl, d, L, ns, n + 1, _, rfl, p1, by omega, .inr ⟨zSigns, rfl, by decide +kernel, by decide +kernel, fun c H2 hc k2 p2 => ⟨_, _, rfl, ?_⟩⟩⟩
  have hc1 := one_asc (signs_asc c hc)
  have l1 : (⟨#[c]⟩ : Str).length = 1 := rfl
  refine ⟨_, rfl, d, L, ns, n + 2, 12, rfl, p2, by omega, by decide, by decide, fun way H3 w0 w1 k3 p3 => ?_⟩
  have kk := (k1.trans k2).trans k3
  refine ⟨_, rfl, _, _, rfl, rfl, _, rfl, ?_⟩
  have fin : ∀ (t : Str) H', t.length ≤ 400 → (∀ c ∈ t.cps.toList, c < 128) → Keep d H H' → Pen K H' d L ns (n + 4) → Q (.str t) H' := fun t H' hl ha hk hp =>
    q (.str t) (.str t) H' (.str t) (by unfold shortD; exact okS.mpr ⟨by omega, ha⟩) rfl (by simp [PyData.depth]) hk hp
  refine ite2 (fun c1 => ?_) (fun c1 => ?_)
  · refine ⟨_, rfl, _, rfl, _, rfl, z, rfl, hz, _, rfl, _, _, rfl, rfl, add_fit (by have := hcl none (some at_); omega) (by omega), _, rfl, _, rfl, _, _, rfl, rfl, _, rfl, z, rfl, hz, _, _, rfl, rfl, add_fit (by rw [cat_len]; have := hcl none (some at_); omega) (by have := hcl (some (at_ + 1)) none; omega), ?_⟩
    refine fin _ _ ?_ (cat_asc (cat_asc (cut_asc _ _ hasc) hc1) (cut_asc _ _ hasc)) kk (p3.mono (by omega))
    rw [cat_len, cat_len]
    have h1 := hcl none (some at_)
    have h2 := hcl (some (at_ + 1)) none
    omega
  refine ⟨_, rfl, _, _, rfl, rfl, _, rfl, ?_⟩
  refine ite2 (fun c2 => ?_) (fun c2 => ?_)
  · refine ⟨_, rfl, _, rfl, _, rfl, z, rfl, hz, _, rfl, _, _, rfl, rfl, add_fit (by have := hcl none (some at_); omega) (by omega), _, rfl, _, rfl, _, rfl, z, rfl, hz, _, _, rfl, rfl, add_fit (by rw [cat_len]; have := hcl none (some at_); omega) (by have := hcl (some at_) none; omega), ?_⟩
    refine fin _ _ ?_ (cat_asc (cat_asc (cut_asc _ _ hasc) hc1) (cut_asc _ _ hasc)) kk (p3.mono (by omega))
    rw [cat_len, cat_len]
    have h1 := hcl none (some at_)
    have h2 := hcl (some at_) none
    omega
  refine ⟨_, rfl, _, _, rfl, rfl, _, rfl, ?_⟩
  refine ite2 (fun c3 => ?_) (fun c3 => ?_)
  · have hm : (Str.ofString "a1b2c3d4e5f6").length ≤ 100 := by decide +kernel
    have hm2 : ∀ c ∈ (Str.ofString "a1b2c3d4e5f6").cps.toList, c < 128 := by decide +kernel
    refine ⟨_, rfl, _, _, rfl, rfl, add_fit (by omega) (by omega), _, rfl, d, L, ns, n + 3, 2, rfl, p3, by omega, by decide, by decide, fun r H4 r0 r1 k4 p4 => ?_⟩
    refine ⟨_, _, rfl, rfl, _, rfl, _, rfl, by rw [cat_len]; exact Nat.le_of_lt (small1000 (by omega)), ?_⟩
    refine fin _ _ ?_ (cut_asc _ _ (cat_asc hasc hm2)) (kk.trans k4) (p4.mono (by omega))
    refine Nat.le_trans (cut_len _ _ _) ?_
    rw [cat_len]
    omega
  · have c3' : ¬ way < 7 := fun z => c3 (decide_eq_true z)
    refine ⟨_, rfl, _, rfl, _, rfl, z, rfl, hz, _, rfl, _, rfl, _, _, rfl, rfl, _, rfl, z, rfl, hz, _, _, rfl, rfl, add_fit (by have := hcl none (some at_); omega) (by have := hcl (some (at_ + 1)) none; omega), ?_⟩
    refine ⟨_, rfl, _, rfl, _, _, rfl, rfl, add_fit (by omega) (by omega), _, rfl, ⟨_, rfl⟩, _, rfl, rfl, by omega, _, rfl, by show 1 ≤ sizeLine; decide, fun p5 n5 => ⟨by show 5 ≤ sizeLine; decide, fun p6 n6 => ?_⟩⟩
    have kf : Keep d H (upd (upd H3 p5 (.lst [.str z])) p6 (.lst [.str (cutS z none (some at_) ++ cutS z (some (at_ + 1)) none), .str (z ++ ⟨#[c]⟩), .str (Txt.upper z), .ref p5, .int 5])) := kk.trans ((Same.toKeep (same_new n5 _)).trans (Same.toKeep (same_new n6 _)))
    have pf := (((p3.same (same_new n5 (.lst [.str z]))).same (same_new n6 (.lst [.str (cutS z none (some at_) ++ cutS z (some (at_ + 1)) none), .str (z ++ ⟨#[c]⟩), .str (Txt.upper z), .ref p5, .int 5]))).mono (show n + 2 + 1 ≤ n + 4 by omega))
    have e5 := same_new n6 (.lst [.str (cutS z none (some at_) ++ cutS z (some (at_ + 1)) none), .str (z ++ ⟨#[c]⟩), .str (Txt.upper z), .ref p5, .int 5]) _ _ (upd_same (H := H3) (a := p5) (o := .lst [.str z]))
    have hup := upper_ok hasc
    have hway : way = 7 ∨ way = 8 ∨ way = 9 ∨ way = 10 ∨ way = 11 := by omega
    rcases hway with rfl | rfl | rfl | rfl | rfl
    · refine ⟨_, rfl, _, _, rfl, rfl, p6, _, _, _, rfl, rfl, SqL.of upd_same, rfl, ?_⟩
      refine fin _ _ ?_ (cat_asc (cut_asc _ _ hasc) (cut_asc _ _ hasc)) kf pf
      rw [cat_len]
      have h1 := hcl none (some at_)
      have h2 := hcl (some (at_ + 1)) none
      omega
    · refine ⟨_, rfl, _, _, rfl, rfl, p6, _, _, _, rfl, rfl, SqL.of upd_same, rfl, ?_⟩
      refine fin _ _ ?_ (cat_asc hasc hc1) kf pf
      rw [cat_len]
      omega
    · refine ⟨_, rfl, _, _, rfl, rfl, p6, _, _, _, rfl, rfl, SqL.of upd_same, rfl, ?_⟩
      exact fin _ _ (by omega) hup.2 kf pf
    · refine ⟨_, rfl, _, _, rfl, rfl, p6, _, _, _, rfl, rfl, SqL.of upd_same, rfl, ?_⟩
      refine q (.ref p5) (.list [.str z]) _ (.lst (SqL.of e5) (.cons (.str z) .nil)) ?_ rfl (by simp [PyData.depth, PyData.depthAll]) kf pf
      simp only [shortD, shortAll, okStr_of_name hname, Bool.and_self]
    · refine ⟨_, rfl, _, _, rfl, rfl, p6, _, _, _, rfl, rfl, SqL.of upd_same, rfl, ?_⟩
      exact q (.int 5) (.int 5) _ (.int 5) (by simp only [shortD]) rfl (by simp [PyData.depth]) kf pf
end
end My

set_option Elab.async false
set_option linter.all false
set_option maxRecDepth 100000
namespace My
open PySem PySem.Spec PyProof.Rows L2 SX
/-! ### the same rules, the heap behind them left open -/
/-- a new object -/
def New (o : HO) (Q : VK) (H : Hp) : Prop := ∀ p H', Same H H' → H' p = some o → Q (.ref p) H'
/-- a tuple, new or not -/
def NewT (K : PySem.W.Frag) (xs : List V) (Q : VK) (H : Hp) : Prop := ∀ p H', Same H H' → SqT K H' p xs → Q (.ref p) H'
theorem New.go {o : HO} {Q : VK} {H : Hp} (h : New o Q H) : ∀ p, H p = none → Q (.ref p) (upd H p o) := fun p np => h p _ (same_new np o) upd_same
theorem NewT.go {K : PySem.W.Frag} {xs : List V} {Q : VK} {H : Hp} (h : NewT K xs Q H) : ∀ p, H p = none → Q (.ref p) (upd H p (.tup xs)) := fun p np => h p _ (same_new np _) (SqT.of upd_same)
theorem le1k {n : Nat} (h : Nat.ble n 1000 = true := by rfl) : n ≤ 1000 := Nat.le_of_ble_eq_true h
theorem fit1000 {n : Nat} (h : n ≤ 1000) : n ≤ sizeLine := Nat.le_of_lt (small1000 h)
def nTup (K : PySem.W.Frag) (t : TA) : TE := fun σ H Q => t σ H fun xs H1 => xs.length ≤ 1000 ∧ NewT K xs Q H1
def nLst (t : TA) : TE := fun σ H Q => t σ H fun xs H1 => xs.length ≤ 1000 ∧ New (.lst xs) Q H1
def nCatT (K : PySem.W.Frag) : R2 := fun x y H Q => ∃ a b xs ys, x = .ref a ∧ y = .ref b ∧ SqT K H a xs ∧ SqT K H b ys ∧ xs.length + ys.length ≤ 1000 ∧ NewT K (xs ++ ys) Q H
def nCatL : R2 := fun x y H Q => ∃ l b xs zs, x = .ref l ∧ y = .ref b ∧ H l = some (.lst xs) ∧ H b = some (.lst zs) ∧ xs.length + zs.length ≤ 1000 ∧ New (.lst (xs ++ zs)) Q H
def nSlT (K : PySem.W.Frag) : V → Option Int → Option Int → Hp → VK → Prop := fun x lo hi H Q => ∃ a xs, x = .ref a ∧ SqT K H a xs ∧ NewT K (cutV xs lo hi) Q H
def nListOf (K : PySem.W.Frag) : List V → Hp → VK → Prop := fun xs H Q => ∃ p ys, xs = [.ref p] ∧ (SqL K H p ys ∨ SqT K H p ys) ∧ New (.lst ys) Q H
section
variable {X : Cx} {es : List Expr} {t : TA} {pos : Pos}
theorem pe_tupN {x1} (h : PA X es t) : PE X (.Tuple es x1 pos) (nTup X.K t) := by
  refine ⟨fun pins s σ H Q I hq => wpAny_Tuple_spliced (thn (h.run pos pins s σ H _ I hq) fun us s1 ⟨xs, H1, I1, r, z, q⟩ => ⟨by rw [← r.length]; exact fit1000 z, ?_⟩)⟩
  have hf := I1.hok.fresh (Nat.le_refl s1.heap.objs.size)
  exact ⟨.ref s1.heap.objs.size, upd H1 s1.heap.objs.size (.tup xs), I1.laid (t' := s1.toks) (fun b u e => Heap.get?_push_of_some _ e) (Nat.le_refl _) ⟨fit1000 z, us, r, ⟨_, Heap.get?_push_size _ rfl, rfl, _, rfl⟩⟩, rfl, q.go _ hf⟩
theorem pe_lstN (h : PA X es t) : PE X (.List es pos) (nLst t) := by
  refine ⟨fun pins s σ H Q I hq => wpAny_List_spliced (thn (h.run pos pins s σ H _ I hq) fun us s1 ⟨xs, H1, I1, r, z, q⟩ => ⟨by rw [← r.length]; exact fit1000 z, ?_⟩)⟩
  have hf := I1.hok.fresh (Nat.le_refl s1.heap.objs.size)
  exact ⟨.ref s1.heap.objs.size, upd H1 s1.heap.objs.size (.lst xs), I1.laid (t' := s1.toks) (fun b u e => Heap.get?_push_of_some _ e) (Nat.le_refl _) ⟨fit1000 z, us, 0, r, Heap.get?_push_size _ rfl⟩, rfl, q.go _ hf⟩
theorem op_catTN : OpR X (binaryOp .Add) (nCatT X.K) := by
  intro pins s σ H x y v u Q I rx ry ⟨a, b, xs, ys, ex, ey, hx, hy, hl, q⟩
  refine op_catA pins s σ H x y v u Q I rx ry ⟨a, b, xs, ys, ex, ey, hx, hy, fit1000 hl, fun e => ?_, fun _ e => ?_, fun _ _ => q.go⟩
  · subst e
    exact q b H (Same.refl H) hy
  · subst e
    exact q a H (Same.refl H) (by rw [List.append_nil]; exact hx)
theorem op_catLN : OpR X (binaryOp .Add) nCatL := by
  intro pins s σ H x y v u Q I rx ry ⟨l, b, xs, zs, ex, ey, hx, hy, hl, q⟩
  exact op_cat pins s σ H x y v u Q I rx ry ⟨l, b, xs, zs, ex, ey, hx, hy, fit1000 hl, q.go⟩
theorem sl_tupN : SlR X (nSlT X.K) := by
  intro pins s σ H x v vl vu lo hi sl Q I rx hs pl pu ⟨a, xs, ex, hx, q⟩
  refine sl_tupA pins s σ H x v vl vu lo hi sl Q I rx hs pl pu ⟨a, xs, ex, hx, fun ⟨e1, e2⟩ => ?_, fun _ => q.go⟩
  refine q a H (Same.refl H) ?_
  have e : cutV xs lo hi = xs := by
    unfold cutV
    rw [e1, e2, List.drop_zero, Nat.sub_zero, List.take_length]
  rw [e]
  exact hx
theorem call_listN : CallR X (.type "list") (nListOf X.K) := by
  intro pins s σ H xs us Q I r ⟨p, ys, ex, hy, q⟩
  exact call_list_of pins s σ H xs us Q I r ⟨p, ys, ex, hy, q.go⟩
end
abbrev s_law_bent : Stmt := top 61
abbrev N_law_bent : List Str := ["_law_pen", "_law_form", "_law_at", "_law_rest", "_law_odd"]
abbrev P_law_bent : List Str := ["_law_pen", "_law_form"]
theorem sc_law_bent : FnScope N_law_bent P_law_bent (defScope s_law_bent) := ⟨rfl, rfl, rfl, by decide +kernel, rfl, by decide +kernel, by decide +kernel⟩
def spBent (K : PySem.W.Frag) (k : Nat) : Sp := fun vs H Q _ => ∃ (d L : Addr) (ns : List Int) (n : Nat) (v : V) (D : PyData) (k' : Nat), vs = [.ref d, v] ∧ k' < k ∧ k' ≤ 40 ∧ Pen K H d L ns n ∧ n + 3 * k' < 2 ^ 38 ∧ Dp K H v D ∧ isForm k' D = true ∧
  ∀ v' D' H', Dp K H' v' D' → shortD D' = true → widD D' = true → D'.depth ≤ k' + 4 → Keep d H H' → Pen K H' d L ns (n + (2 * k' + 5)) → Q v' H'
theorem okStr_s : ∀ w ∈ leafW ++ halfW, okStr (w ++ Str.ofString "s") = true := by decide +kernel
theorem word_len : ∀ w ∈ leafW ++ halfW, w.length ≤ 100 := by decide +kernel
section
variable {P : Program} {w : World} {K : PySem.W.Frag} {mg : Str → Option Value} {base : Heap} {f : Addr} {fd : FuncData}
set_option maxHeartbeats 4000000 in
theorem ok_law_bent {k : Nat} (T : Txt K mg) (F : Fun K "_law_bent" "_law_bent" s_law_bent f fd) (C_law_draw : Cal P w K mg base "_law_draw" 1 ["_law_pen", "_law_span"] (spDraw K)) (C_law_pick : Cal P w K mg base "_law_pick" 2 ["_law_pen", "_law_some"] (spPick K))
    (C_law_bent_name : Cal P w K mg base "_law_bent_name" 3 P_law_bent_name (spBentName K)) (C_law_bent : Cal P w K mg base "_law_bent" (3 + k) P_law_bent (spBent K k)) : FnOk P w K mg base CX0 (3 + k + 1) f fd P_law_bent (spBent K (k + 1)) := by
  refine F.ok sc_law_bent (fun vs H Q E h => ?_) (fun cdv A outer s H vs Q E hr h => ?_)
  · obtain ⟨d, L, ns, n, v, D, k', rfl, _⟩ := h
    rfl
  obtain ⟨d, L, ns, n, v, D, k', rfl, hk, hk40, p, hn, hv, hD, q⟩ := h
  refine ⟨_, (pss_cons (ps_if (PW.pt (pw_and (pt_cmpR op_eq (pe_callB call_len rfl T.len (by decide +kernel) (pa_cons (pv 1) pa_nil)) pe_int (nomark _)) (pw_and1 (pt_cmpR op_gt (pe_callC C_law_draw hr (pa_cons (pv 0) (pa_cons pe_int pa_nil))) pe_int (nomark _)))))
    (pss_cons (ps_set (i := 2) sc_law_bent.nd rfl (Or.inl rfl) (pe_op op_add pe_int (pe_callC C_law_draw hr (pa_cons (pv 0) (pa_cons pe_int pa_nil)))))
    (pss_one (ps_ret (pe_op op_catTN (pe_op op_catTN (pe_slice sl_tupN (pv 1) po_none (po_some (pv 2))) (pe_tupN (pa_cons (pe_callC C_law_bent hr (pa_cons (pv 0) (pa_cons (pe_ix ix_tup (pv 1) (pv 2) (fun _ _ => rfl)) pa_nil))) pa_nil))) (pe_slice sl_tupN (pv 1) (po_some (pe_op op_add (pv 2) pe_int)) po_none)))))
    pss_nil)
  (pss_cons (ps_if (PW.pt (pw_and (pt_cmpR op_eq (pe_callB call_len rfl T.len (by decide +kernel) (pa_cons (pv 1) pa_nil)) pe_int (nomark _)) (pw_and1 (pt_cmpR op_eq (pe_callC C_law_draw hr (pa_cons (pv 0) (pa_cons pe_int pa_nil))) pe_int (nomark _)))))
    (pss_one (ps_ret (pe_tupN (pa_cons (pe_ix ix_tup (pv 1) pe_int (fun _ _ => rfl)) (pa_cons (pe_callC C_law_bent_name hr (pa_cons (pv 0) (pa_cons (pe_ix ix_tup (pv 1) pe_int (fun _ _ => rfl)) pa_nil))) pa_nil)))))
    pss_nil)
  (pss_cons (ps_set (i := 3) sc_law_bent.nd rfl (Or.inl rfl) (pe_slice sl_tupN (pv 1) (po_some pe_int) po_none))
  (pss_cons (ps_set (i := 4) sc_law_bent.nd rfl (Or.inl rfl) (pe_lstN (pa_cons (pe_callTy call_listN rfl T.list (by decide +kernel) (pa_cons (pv 1) pa_nil)) (pa_cons (pe_op op_catTN (pv 1) (pe_tupN (pa_cons (pe_ix ix_tup (pv 1) (pe_un un_neg pe_int) (fun _ _ => rfl)) pa_nil))) (pa_cons (pe_slice sl_tupN (pv 1) po_none (po_some (pe_un un_neg pe_int))) (pa_cons (pe_op op_catTN (pe_tupN (pa_cons (pe_op op_add_str (pe_ix ix_tup (pv 1) pe_int (fun _ _ => rfl)) pe_str) pa_nil)) (pv 3)) (pa_cons (pe_op op_catTN (pe_tupN (pa_cons pe_int pa_nil)) (pv 3)) (pa_cons (pe_ix ix_tup (pv 1) pe_int (fun _ _ => rfl)) (pa_cons pe_non (pa_cons pe_bl (pa_cons (pe_tupN pa_nil) pa_nil)))))))))))
  (pss_cons (ps_set (i := 4) sc_law_bent.nd rfl (Or.inl rfl) (pe_op op_catLN (pv 4) (pe_lstN (pa_cons (pe_op op_catTN (pe_tupN (pa_cons pe_str pa_nil)) (pv 3)) (pa_cons (pe_op op_catTN (pe_tupN (pa_cons pe_str pa_nil)) (pv 3)) (pa_cons (pe_revT (pv 1)) (pa_cons (pe_op op_catTN (pe_tupN (pa_cons (pe_ix ix_tup (pv 1) pe_int (fun _ _ => rfl)) (pa_cons (pe_lstN (pa_cons (pe_ix ix_tup (pv 1) pe_int (fun _ _ => rfl)) pa_nil)) pa_nil))) (pe_slice sl_tupN (pv 1) (po_some pe_int) po_none)) (pa_cons (pe_tupN (pa_cons (pv 1) pa_nil)) pa_nil))))))))
  (pss_one (ps_ret (pe_callC C_law_pick hr (pa_cons (pv 0) (pa_cons (pv 4) pa_nil)))))))))), ?_⟩
  have kd := p.isDk
  have hshort := short_form hD
  have hdep := depth_form hD
  -- what is left when the form itself is changed, for both sorts of forms
  rcases isForm_inv hD with ⟨wd, nm, rfl, hw, hnm⟩ | ⟨j, wd, a, b, rfl, rfl, hw, ha, hb⟩
  · cases hv with | @tup t xs _ hT hA => cases hA with | @cons x0 xs1 _ _ h0 hA => cases hA with | @cons x1 xs2 _ _ h1 hN =>
    cases hN
    cases h0
    cases h1
    refine ⟨_, rfl, _, _, rfl, .inr ⟨_, hT, rfl⟩, rfl, _, rfl, ?_⟩
    refine iteF ⟨_, rfl, _, _, rfl, .inr ⟨_, hT, rfl⟩, rfl, _, rfl, ?_⟩
    refine iteT ⟨_, rfl, d, L, ns, n, 2, rfl, p, by omega, by decide, by decide, fun r H1 r0 r1 k1 p1 => ⟨rfl, _, rfl, ?_⟩⟩
    refine ite2 (fun c1 => ?_) (fun c1 => ?_)
    · refine ⟨_, rfl, t, _, _, _, rfl, rfl, seqT_keep kd k1 hT, rfl, _, rfl, _, rfl, t, _, _, _, rfl, rfl, seqT_keep kd k1 hT, rfl, d, L, ns, n + 1, nm, rfl, p1, by omega, hnm, fun v' D' H2 hd' hs' hw' hdp' k2 p2 => ⟨by show 2 ≤ 1000; decide, fun c3 H3 S3 g3 => ?_⟩⟩
      refine q (.ref c3) (.tuple [.str wd, D']) H3 (.tup g3 (.cons (.str _) (.cons (dp_same S3 _ _ hd') .nil))) ?_ ?_ ?_ ((k1.trans k2).trans (Same.toKeep S3)) ((p2.same S3).mono (by omega))
      · simp only [shortD, shortAll, okStr_leaf wd hw, hs', Bool.and_self]
      · simp [widD, widAll, hw']
      · simp only [PyData.depth, PyData.depthAll]
        omega
    · have okw := okStr_leaf wd hw
      have oks := okStr_s wd (List.mem_append_left _ hw)
      have okb : okStr (Str.ofString "both") = true := by decide +kernel
      have okc : okStr (Str.ofString "counter") = true := by decide +kernel
      have sa : okStr nm = true := okStr_of_name hnm
      have hwl := word_len wd (List.mem_append_left _ hw)
      have hT1 := seqT_keep kd k1 hT
      have W0 : Same H1 H1 := Same.refl H1
      refine ⟨_, rfl, _, rfl, t, _, rfl, (seqT_same W0 hT1), fun cR hp1 S1 g1 => ?_⟩
      have W1 := W0.trans S1
      refine ⟨_, rfl, t, _, rfl, .inr (seqT_same W1 hT1), fun l1 hp2 S2 g2 => ?_⟩
      have W2 := W1.trans S2
      refine ⟨_, rfl, _, rfl, _, rfl, t, _, _, _, rfl, rfl, (seqT_same W2 hT1), rfl, le1k, fun c2 hp3 S3 g3 => ?_⟩
      have W3 := W2.trans S3
      refine ⟨t, c2, _, _, rfl, rfl, (seqT_same W3 hT1), g3, le1k, fun c3 hp4 S4 g4 => ?_⟩
      have W4 := W3.trans S4
      refine ⟨_, rfl, _, rfl, _, rfl, t, _, rfl, (seqT_same W4 hT1), fun c4 hp5 S5 g5 => ?_⟩
      have W5 := W4.trans S5
      refine ⟨_, rfl, t, _, _, _, rfl, rfl, (seqT_same W5 hT1), rfl, _, _, rfl, rfl, add_fit (by omega) (by decide +kernel), le1k, fun c5 hp6 S6 g6 => ?_⟩
      have W6 := W5.trans S6
      refine ⟨_, rfl, c5, cR, _, _, rfl, rfl, g6, (seqT_same (((((S2).trans S3).trans S4).trans S5).trans S6) g1), le1k, fun c6 hp7 S7 g7 => ?_⟩
      have W7 := W6.trans S7
      refine ⟨le1k, fun c7 hp8 S8 g8 => ?_⟩
      have W8 := W7.trans S8
      refine ⟨_, rfl, c7, cR, _, _, rfl, rfl, g8, (seqT_same (((((((S2).trans S3).trans S4).trans S5).trans S6).trans S7).trans S8) g1), le1k, fun c8 hp9 S9 g9 => ?_⟩
      have W9 := W8.trans S9
      refine ⟨_, rfl, t, _, _, _, rfl, rfl, (seqT_same W9 hT1), rfl, le1k, fun c9 hp10 S10 g10 => ?_⟩
      have W10 := W9.trans S10
      refine ⟨le1k, fun l2 hp11 S11 g11 => ?_⟩
      have W11 := W10.trans S11
      refine ⟨_, rfl, le1k, fun c11 hp12 S12 g12 => ?_⟩
      have W12 := W11.trans S12
      refine ⟨_, rfl, c11, cR, _, _, rfl, rfl, g12, (seqT_same (((((((((((S2).trans S3).trans S4).trans S5).trans S6).trans S7).trans S8).trans S9).trans S10).trans S11).trans S12) g1), le1k, fun c12 hp13 S13 g13 => ?_⟩
      have W13 := W12.trans S13
      refine ⟨le1k, fun c13 hp14 S14 g14 => ?_⟩
      have W14 := W13.trans S14
      refine ⟨_, rfl, c13, cR, _, _, rfl, rfl, g14, (seqT_same (((((((((((((S2).trans S3).trans S4).trans S5).trans S6).trans S7).trans S8).trans S9).trans S10).trans S11).trans S12).trans S13).trans S14) g1), le1k, fun c14 hp15 S15 g15 => ?_⟩
      have W15 := W14.trans S15
      refine ⟨_, rfl, t, _, rfl, (seqT_same W15 hT1), fun c15 n15 => ?_⟩
      obtain ⟨hp16, e16, S16, g16⟩ : ∃ h, upd hp15 c15 (.tup ([.str wd, .str nm] : List V).reverse) = h ∧ Same hp15 h ∧ SqT K h c15 ([.str wd, .str nm] : List V).reverse := ⟨_, rfl, same_new n15 _, SqT.of upd_same⟩
      rw [e16]
      have W16 := W15.trans S16
      refine ⟨_, rfl, t, _, _, _, rfl, rfl, (seqT_same W16 hT1), rfl, _, rfl, t, _, _, _, rfl, rfl, (seqT_same W16 hT1), rfl, le1k, fun l16 hp17 S17 g17 => ?_⟩
      have W17 := W16.trans S17
      refine ⟨le1k, fun c17 hp18 S18 g18 => ?_⟩
      have W18 := W17.trans S18
      refine ⟨_, rfl, _, rfl, t, _, rfl, (seqT_same W18 hT1), fun c18 hp19 S19 g19 => ?_⟩
      have W19 := W18.trans S19
      refine ⟨c17, c18, _, _, rfl, rfl, (seqT_same (S19) g18), g19, le1k, fun c19 hp20 S20 g20 => ?_⟩
      have W20 := W19.trans S20
      refine ⟨_, rfl, le1k, fun c20 hp21 S21 g21 => ?_⟩
      have W21 := W20.trans S21
      refine ⟨le1k, fun l21 hp22 S22 g22 => ?_⟩
      have W22 := W21.trans S22
      refine ⟨l2, l21, _, _, rfl, rfl, (((((((((((S12).trans S13).trans S14).trans S15).trans S16).trans S17).trans S18).trans S19).trans S20).trans S21).trans S22) _ _ g11, g22, le1k, fun l22 hp23 S23 g23 => ?_⟩
      have W23 := W22.trans S23
      have pV := p1.same W23
      refine ⟨_, rfl, _, rfl, d, L, ns, n + 1, _, rfl, pV, by omega, .inl ⟨l22, _, rfl, SqL.of g23, by simp, le1k, fun x HW hx kW pW => ?_⟩⟩
      have kF := (k1.trans (Same.toKeep W23)).trans kW
      have kdV := pV.isDk
      have two : ∀ i : Nat, i = i := fun _ => rfl
      have fin : ∀ D' : PyData, Dp K HW x D' → shortD D' = true → widD D' = true → D'.depth ≤ k' + 4 → Q x HW := fun D' e1 e2 ew e3 => q x D' HW e1 e2 ew e3 kF (pW.mono (by omega))
      simp only [List.cons_append, List.nil_append, List.mem_cons, List.not_mem_nil, or_false] at hx
      rcases hx with rfl | rfl | rfl | rfl | rfl | rfl | rfl | rfl | rfl | rfl | rfl | rfl | rfl | rfl
      · refine fin (.list [.str wd, .str nm]) (.lst (seqL_keep kdV kW (SqL.of ((((((((((((((((((((((S3).trans S4).trans S5).trans S6).trans S7).trans S8).trans S9).trans S10).trans S11).trans S12).trans S13).trans S14).trans S15).trans S16).trans S17).trans S18).trans S19).trans S20).trans S21).trans S22).trans S23) _ _ g2))) (.cons (.str _) (.cons (.str nm) .nil))) ?_ ?_ ?_
        · first | exact sa | simp only [shortD, shortAll, okw, oks, okb, okc, sa, Bool.and_self]
        · first | rfl | simp [widD, widAll]
        · first | omega | (simp only [PyData.depth, PyData.depthAll]; omega)
      · refine fin (.tuple [.str wd, .str nm, .str nm]) (.tup (seqT_keep kdV kW (seqT_same (((((((((((((((((((S5).trans S6).trans S7).trans S8).trans S9).trans S10).trans S11).trans S12).trans S13).trans S14).trans S15).trans S16).trans S17).trans S18).trans S19).trans S20).trans S21).trans S22).trans S23) g4)) (.cons (.str _) (.cons (.str nm) (.cons (.str nm) .nil)))) ?_ ?_ ?_
        · first | exact sa | simp only [shortD, shortAll, okw, oks, okb, okc, sa, Bool.and_self]
        · first | rfl | simp [widD, widAll]
        · first | omega | (simp only [PyData.depth, PyData.depthAll]; omega)
      · refine fin (.tuple [.str wd]) (.tup (seqT_keep kdV kW (seqT_same ((((((((((((((((((S6).trans S7).trans S8).trans S9).trans S10).trans S11).trans S12).trans S13).trans S14).trans S15).trans S16).trans S17).trans S18).trans S19).trans S20).trans S21).trans S22).trans S23) g5)) (.cons (.str _) .nil)) ?_ ?_ ?_
        · first | exact sa | simp only [shortD, shortAll, okw, oks, okb, okc, sa, Bool.and_self]
        · first | rfl | simp [widD, widAll]
        · first | omega | (simp only [PyData.depth, PyData.depthAll]; omega)
      · refine fin (.tuple [.str (wd ++ Str.ofString "s"), .str nm]) (.tup (seqT_keep kdV kW (seqT_same ((((((((((((((((S8).trans S9).trans S10).trans S11).trans S12).trans S13).trans S14).trans S15).trans S16).trans S17).trans S18).trans S19).trans S20).trans S21).trans S22).trans S23) g7)) (.cons (.str _) (.cons (.str nm) .nil))) ?_ ?_ ?_
        · first | exact sa | simp only [shortD, shortAll, okw, oks, okb, okc, sa, Bool.and_self]
        · first | rfl | simp [widD, widAll]
        · first | omega | (simp only [PyData.depth, PyData.depthAll]; omega)
      · refine fin (.tuple [.int 1, .str nm]) (.tup (seqT_keep kdV kW (seqT_same ((((((((((((((S10).trans S11).trans S12).trans S13).trans S14).trans S15).trans S16).trans S17).trans S18).trans S19).trans S20).trans S21).trans S22).trans S23) g9)) (.cons (.int _) (.cons (.str nm) .nil))) ?_ ?_ ?_
        · first | exact sa | simp only [shortD, shortAll, okw, oks, okb, okc, sa, Bool.and_self]
        · first | rfl | simp [widD, widAll]
        · first | omega | (simp only [PyData.depth, PyData.depthAll]; omega)
      · refine fin (.str nm) (.str nm) ?_ ?_ ?_
        · first | exact sa | simp only [shortD, shortAll, okw, oks, okb, okc, sa, Bool.and_self]
        · first | rfl | simp [widD, widAll]
        · first | omega | (simp only [PyData.depth, PyData.depthAll]; omega)
      · refine fin (.none) .non ?_ ?_ ?_
        · first | exact sa | simp only [shortD, shortAll, okw, oks, okb, okc, sa, Bool.and_self]
        · first | rfl | simp [widD, widAll]
        · first | omega | (simp only [PyData.depth, PyData.depthAll]; omega)
      · refine fin (.bool true) (.bl true) ?_ ?_ ?_
        · first | exact sa | simp only [shortD, shortAll, okw, oks, okb, okc, sa, Bool.and_self]
        · first | rfl | simp [widD, widAll]
        · first | omega | (simp only [PyData.depth, PyData.depthAll]; omega)
      · refine fin (.tuple []) (.tup (seqT_keep kdV kW (seqT_same (((((((((((((S11).trans S12).trans S13).trans S14).trans S15).trans S16).trans S17).trans S18).trans S19).trans S20).trans S21).trans S22).trans S23) g10)) .nil) ?_ ?_ ?_
        · first | exact sa | simp only [shortD, shortAll, okw, oks, okb, okc, sa, Bool.and_self]
        · first | rfl | simp [widD, widAll]
        · first | omega | (simp only [PyData.depth, PyData.depthAll]; omega)
      · refine fin (.tuple [.str (Str.ofString "both"), .str nm]) (.tup (seqT_keep kdV kW (seqT_same ((((((((((S14).trans S15).trans S16).trans S17).trans S18).trans S19).trans S20).trans S21).trans S22).trans S23) g13)) (.cons (.str _) (.cons (.str nm) .nil))) ?_ ?_ ?_
        · first | exact sa | simp only [shortD, shortAll, okw, oks, okb, okc, sa, Bool.and_self]
        · first | rfl | simp [widD, widAll]
        · first | omega | (simp only [PyData.depth, PyData.depthAll]; omega)
      · refine fin (.tuple [.str (Str.ofString "counter"), .str nm]) (.tup (seqT_keep kdV kW (seqT_same ((((((((S16).trans S17).trans S18).trans S19).trans S20).trans S21).trans S22).trans S23) g15)) (.cons (.str _) (.cons (.str nm) .nil))) ?_ ?_ ?_
        · first | exact sa | simp only [shortD, shortAll, okw, oks, okb, okc, sa, Bool.and_self]
        · first | rfl | simp [widD, widAll]
        · first | omega | (simp only [PyData.depth, PyData.depthAll]; omega)
      · refine fin (.tuple [.str nm, .str wd]) (.tup (seqT_keep kdV kW (seqT_same (((((((S17).trans S18).trans S19).trans S20).trans S21).trans S22).trans S23) g16)) (.cons (.str _) (.cons (.str _) .nil))) ?_ ?_ ?_
        · first | exact sa | simp only [shortD, shortAll, okw, oks, okb, okc, sa, Bool.and_self]
        · first | rfl | simp [widD, widAll]
        · first | omega | (simp only [PyData.depth, PyData.depthAll]; omega)
      · refine fin (.tuple [.str wd, .list [.str nm]]) (.tup (seqT_keep kdV kW (seqT_same (((S21).trans S22).trans S23) g20)) (.cons (.str _) (.cons (.lst (seqL_keep kdV kW (SqL.of (((((((S18).trans S19).trans S20).trans S21).trans S22).trans S23) _ _ g17))) (.cons (.str nm) .nil)) .nil))) ?_ ?_ ?_
        · first | exact sa | simp only [shortD, shortAll, okw, oks, okb, okc, sa, Bool.and_self]
        · first | rfl | simp [widD, widAll]
        · first | omega | (simp only [PyData.depth, PyData.depthAll]; omega)
      · refine fin (.tuple [.tuple [.str wd, .str nm]]) (.tup (seqT_keep kdV kW (seqT_same ((S22).trans S23) g21)) (.cons (.tup (seqT_keep kd kF hT) (.cons (.str _) (.cons (.str nm) .nil))) .nil)) ?_ ?_ ?_
        · first | exact sa | simp only [shortD, shortAll, okw, oks, okb, okc, sa, Bool.and_self]
        · first | rfl | simp [widD, widAll]
        · first | omega | (simp only [PyData.depth, PyData.depthAll]; omega)
  · cases hv with | @tup t xs _ hT hA => cases hA with | @cons x0 xs1 _ _ h0 hA => cases hA with | @cons x1 xs2 _ _ h1 hA => cases hA with | @cons x2 xs3 _ _ h2 hN =>
    cases hN
    cases h0
    refine ⟨_, rfl, _, _, rfl, .inr ⟨_, hT, rfl⟩, rfl, _, rfl, ?_⟩
    refine iteT ⟨_, rfl, d, L, ns, n, 4, rfl, p, by omega, by decide, by decide, fun r H1 r0 r1 k1 p1 => ⟨_, _, rfl, rfl, _, rfl, ?_⟩⟩
    refine ite2 (fun c1 => ?_) (fun c1 => ?_)
    · refine ⟨_, rfl, d, L, ns, n + 1, 2, rfl, p1, by omega, by decide, by decide, fun r2 H2 r20 r21 k2 p2 => ⟨_, _, rfl, rfl, ?_⟩⟩
      have kk := k1.trans k2
      have hr2 : r2 = 0 ∨ r2 = 1 := by omega
      rcases hr2 with rfl | rfl
      · refine ⟨_, rfl, _, rfl, _, rfl, t, _, rfl, seqT_keep kd kk hT, fun c1 H3 S3 g3 => ?_⟩
        refine ⟨_, rfl, _, rfl, _, rfl, t, _, _, x1, rfl, rfl, seqT_same S3 (seqT_keep kd kk hT), rfl, d, L, ns, n + 2, x1, a, j, rfl, by omega, by omega, p2.same S3, by omega, dp_same S3 _ _ (dp_keep kd kk _ _ h1), ha, fun v' D' H4 hd' hs' hw' hdp' k4 p4 => ⟨by show 1 ≤ 1000; decide, fun c2 H5 S5 g5 => ?_⟩⟩
        refine ⟨c1, c2, _, _, rfl, rfl, seqT_same S5 (seqT_keep (p2.same S3).isDk k4 g3), g5, le1k, fun c3 H6 S6 g6 => ?_⟩
        have kx := ((kk.trans (Same.toKeep S3)).trans k4).trans (Same.toKeep (S5.trans S6))
        refine ⟨_, rfl, _, rfl, _, _, rfl, rfl, _, rfl, t, _, rfl, seqT_keep kd kx hT, fun c4 H7 S7 g7 => ?_⟩
        refine ⟨c3, c4, _, _, rfl, rfl, seqT_same S7 g6, g7, le1k, fun c5 H8 S8 g8 => ?_⟩
        refine q (.ref c5) (.tuple [.str wd, D', b]) H8 (.tup (show SqT K H8 c5 [.str wd, v', x2] from g8) (.cons (.str _) (.cons (dp_same (S5.trans (S6.trans (S7.trans S8))) _ _ hd') (.cons (dp_keep kd (kx.trans (Same.toKeep (S7.trans S8))) _ _ h2) .nil)))) ?_ ?_ ?_ (kx.trans (Same.toKeep (S7.trans S8))) ((p4.same (S5.trans (S6.trans (S7.trans S8)))).mono (by omega))
        · simp only [shortD, shortAll, okStr_half wd hw, hs', short_form hb, Bool.and_self]
        · simp [widD, widAll, hw', wid_form hb]
        · have hdb := depth_form hb
          simp only [PyData.depth, PyData.depthAll]
          omega
      · refine ⟨_, rfl, _, rfl, _, rfl, t, _, rfl, seqT_keep kd kk hT, fun c1 H3 S3 g3 => ?_⟩
        refine ⟨_, rfl, _, rfl, _, rfl, t, _, _, x2, rfl, rfl, seqT_same S3 (seqT_keep kd kk hT), rfl, d, L, ns, n + 2, x2, b, j, rfl, by omega, by omega, p2.same S3, by omega, dp_same S3 _ _ (dp_keep kd kk _ _ h2), hb, fun v' D' H4 hd' hs' hw' hdp' k4 p4 => ⟨by show 1 ≤ 1000; decide, fun c2 H5 S5 g5 => ?_⟩⟩
        refine ⟨c1, c2, _, _, rfl, rfl, seqT_same S5 (seqT_keep (p2.same S3).isDk k4 g3), g5, le1k, fun c3 H6 S6 g6 => ?_⟩
        have kx := ((kk.trans (Same.toKeep S3)).trans k4).trans (Same.toKeep (S5.trans S6))
        refine ⟨_, rfl, _, rfl, _, _, rfl, rfl, _, rfl, t, _, rfl, seqT_keep kd kx hT, fun c4 H7 S7 g7 => ?_⟩
        refine ⟨c3, c4, _, _, rfl, rfl, seqT_same S7 g6, g7, le1k, fun c5 H8 S8 g8 => ?_⟩
        refine q (.ref c5) (.tuple [.str wd, a, D']) H8 (.tup (show SqT K H8 c5 [.str wd, x1, v'] from g8) (.cons (.str _) (.cons (dp_keep kd (kx.trans (Same.toKeep (S7.trans S8))) _ _ h1) (.cons (dp_same (S5.trans (S6.trans (S7.trans S8))) _ _ hd') .nil)))) ?_ ?_ ?_ (kx.trans (Same.toKeep (S7.trans S8))) ((p4.same (S5.trans (S6.trans (S7.trans S8)))).mono (by omega))
        · simp only [shortD, shortAll, okStr_half wd hw, hs', short_form ha, Bool.and_self]
        · simp [widD, widAll, hw', wid_form ha]
        · have hda := depth_form ha
          simp only [PyData.depth, PyData.depthAll]
          omega
    · refine ⟨_, rfl, _, _, rfl, .inr ⟨_, seqT_keep kd k1 hT, rfl⟩, rfl, _, rfl, ?_⟩
      have okw := okStr_half wd hw
      have oks := okStr_s wd (List.mem_append_right _ hw)
      have okb : okStr (Str.ofString "both") = true := by decide +kernel
      have okc : okStr (Str.ofString "counter") = true := by decide +kernel
      have sa := short_form ha
      have sb := short_form hb
      have wa := wid_form ha
      have wb := wid_form hb
      have hda := depth_form ha
      have hdb := depth_form hb
      have hwl := word_len wd (List.mem_append_right _ hw)
      have hT1 := seqT_keep kd k1 hT
      have W0 : Same H1 H1 := Same.refl H1
      refine ⟨_, rfl, _, rfl, t, _, rfl, (seqT_same W0 hT1), fun cR hp1 S1 g1 => ?_⟩
      have W1 := W0.trans S1
      refine ⟨_, rfl, t, _, rfl, .inr (seqT_same W1 hT1), fun l1 hp2 S2 g2 => ?_⟩
      have W2 := W1.trans S2
      refine ⟨_, rfl, _, rfl, _, rfl, t, _, _, _, rfl, rfl, (seqT_same W2 hT1), rfl, le1k, fun c2 hp3 S3 g3 => ?_⟩
      have W3 := W2.trans S3
      refine ⟨t, c2, _, _, rfl, rfl, (seqT_same W3 hT1), g3, le1k, fun c3 hp4 S4 g4 => ?_⟩
      have W4 := W3.trans S4
      refine ⟨_, rfl, _, rfl, _, rfl, t, _, rfl, (seqT_same W4 hT1), fun c4 hp5 S5 g5 => ?_⟩
      have W5 := W4.trans S5
      refine ⟨_, rfl, t, _, _, _, rfl, rfl, (seqT_same W5 hT1), rfl, _, _, rfl, rfl, add_fit (by omega) (by decide +kernel), le1k, fun c5 hp6 S6 g6 => ?_⟩
      have W6 := W5.trans S6
      refine ⟨_, rfl, c5, cR, _, _, rfl, rfl, g6, (seqT_same (((((S2).trans S3).trans S4).trans S5).trans S6) g1), le1k, fun c6 hp7 S7 g7 => ?_⟩
      have W7 := W6.trans S7
      refine ⟨le1k, fun c7 hp8 S8 g8 => ?_⟩
      have W8 := W7.trans S8
      refine ⟨_, rfl, c7, cR, _, _, rfl, rfl, g8, (seqT_same (((((((S2).trans S3).trans S4).trans S5).trans S6).trans S7).trans S8) g1), le1k, fun c8 hp9 S9 g9 => ?_⟩
      have W9 := W8.trans S9
      refine ⟨_, rfl, t, _, _, _, rfl, rfl, (seqT_same W9 hT1), rfl, le1k, fun c9 hp10 S10 g10 => ?_⟩
      have W10 := W9.trans S10
      refine ⟨le1k, fun l2 hp11 S11 g11 => ?_⟩
      have W11 := W10.trans S11
      refine ⟨_, rfl, le1k, fun c11 hp12 S12 g12 => ?_⟩
      have W12 := W11.trans S12
      refine ⟨_, rfl, c11, cR, _, _, rfl, rfl, g12, (seqT_same (((((((((((S2).trans S3).trans S4).trans S5).trans S6).trans S7).trans S8).trans S9).trans S10).trans S11).trans S12) g1), le1k, fun c12 hp13 S13 g13 => ?_⟩
      have W13 := W12.trans S13
      refine ⟨le1k, fun c13 hp14 S14 g14 => ?_⟩
      have W14 := W13.trans S14
      refine ⟨_, rfl, c13, cR, _, _, rfl, rfl, g14, (seqT_same (((((((((((((S2).trans S3).trans S4).trans S5).trans S6).trans S7).trans S8).trans S9).trans S10).trans S11).trans S12).trans S13).trans S14) g1), le1k, fun c14 hp15 S15 g15 => ?_⟩
      have W15 := W14.trans S15
      refine ⟨_, rfl, t, _, rfl, (seqT_same W15 hT1), fun c15 n15 => ?_⟩
      obtain ⟨hp16, e16, S16, g16⟩ : ∃ h, upd hp15 c15 (.tup ([.str wd, x1, x2] : List V).reverse) = h ∧ Same hp15 h ∧ SqT K h c15 ([.str wd, x1, x2] : List V).reverse := ⟨_, rfl, same_new n15 _, SqT.of upd_same⟩
      rw [e16]
      have W16 := W15.trans S16
      refine ⟨_, rfl, t, _, _, _, rfl, rfl, (seqT_same W16 hT1), rfl, _, rfl, t, _, _, _, rfl, rfl, (seqT_same W16 hT1), rfl, le1k, fun l16 hp17 S17 g17 => ?_⟩
      have W17 := W16.trans S17
      refine ⟨le1k, fun c17 hp18 S18 g18 => ?_⟩
      have W18 := W17.trans S18
      refine ⟨_, rfl, _, rfl, t, _, rfl, (seqT_same W18 hT1), fun c18 hp19 S19 g19 => ?_⟩
      have W19 := W18.trans S19
      refine ⟨c17, c18, _, _, rfl, rfl, (seqT_same (S19) g18), g19, le1k, fun c19 hp20 S20 g20 => ?_⟩
      have W20 := W19.trans S20
      refine ⟨_, rfl, le1k, fun c20 hp21 S21 g21 => ?_⟩
      have W21 := W20.trans S21
      refine ⟨le1k, fun l21 hp22 S22 g22 => ?_⟩
      have W22 := W21.trans S22
      refine ⟨l2, l21, _, _, rfl, rfl, (((((((((((S12).trans S13).trans S14).trans S15).trans S16).trans S17).trans S18).trans S19).trans S20).trans S21).trans S22) _ _ g11, g22, le1k, fun l22 hp23 S23 g23 => ?_⟩
      have W23 := W22.trans S23
      have pV := p1.same W23
      refine ⟨_, rfl, _, rfl, d, L, ns, n + 1, _, rfl, pV, by omega, .inl ⟨l22, _, rfl, SqL.of g23, by simp, le1k, fun x HW hx kW pW => ?_⟩⟩
      have kF := (k1.trans (Same.toKeep W23)).trans kW
      have kdV := pV.isDk
      have two : ∀ i : Nat, i = i := fun _ => rfl
      have fin : ∀ D' : PyData, Dp K HW x D' → shortD D' = true → widD D' = true → D'.depth ≤ j + 1 + 4 → Q x HW := fun D' e1 e2 ew e3 => q x D' HW e1 e2 ew e3 kF (pW.mono (by omega))
      simp only [List.cons_append, List.nil_append, List.mem_cons, List.not_mem_nil, or_false] at hx
      rcases hx with rfl | rfl | rfl | rfl | rfl | rfl | rfl | rfl | rfl | rfl | rfl | rfl | rfl | rfl
      · refine fin (.list [.str wd, a, b]) (.lst (seqL_keep kdV kW (SqL.of ((((((((((((((((((((((S3).trans S4).trans S5).trans S6).trans S7).trans S8).trans S9).trans S10).trans S11).trans S12).trans S13).trans S14).trans S15).trans S16).trans S17).trans S18).trans S19).trans S20).trans S21).trans S22).trans S23) _ _ g2))) (.cons (.str _) (.cons (dp_keep kd kF _ _ h1) (.cons (dp_keep kd kF _ _ h2) .nil)))) ?_ ?_ ?_
        · first | exact sa | simp only [shortD, shortAll, okw, oks, okb, okc, sa, sb, Bool.and_self]
        · first | rfl | exact wa | exact wb | simp [widD, widAll, wa, wb]
        · first | omega | (simp only [PyData.depth, PyData.depthAll]; omega)
      · refine fin (.tuple [.str wd, a, b, b]) (.tup (seqT_keep kdV kW (seqT_same (((((((((((((((((((S5).trans S6).trans S7).trans S8).trans S9).trans S10).trans S11).trans S12).trans S13).trans S14).trans S15).trans S16).trans S17).trans S18).trans S19).trans S20).trans S21).trans S22).trans S23) g4)) (.cons (.str _) (.cons (dp_keep kd kF _ _ h1) (.cons (dp_keep kd kF _ _ h2) (.cons (dp_keep kd kF _ _ h2) .nil))))) ?_ ?_ ?_
        · first | exact sa | simp only [shortD, shortAll, okw, oks, okb, okc, sa, sb, Bool.and_self]
        · first | rfl | exact wa | exact wb | simp [widD, widAll, wa, wb]
        · first | omega | (simp only [PyData.depth, PyData.depthAll]; omega)
      · refine fin (.tuple [.str wd, a]) (.tup (seqT_keep kdV kW (seqT_same ((((((((((((((((((S6).trans S7).trans S8).trans S9).trans S10).trans S11).trans S12).trans S13).trans S14).trans S15).trans S16).trans S17).trans S18).trans S19).trans S20).trans S21).trans S22).trans S23) g5)) (.cons (.str _) (.cons (dp_keep kd kF _ _ h1) .nil))) ?_ ?_ ?_
        · first | exact sa | simp only [shortD, shortAll, okw, oks, okb, okc, sa, sb, Bool.and_self]
        · first | rfl | exact wa | exact wb | simp [widD, widAll, wa, wb]
        · first | omega | (simp only [PyData.depth, PyData.depthAll]; omega)
      · refine fin (.tuple [.str (wd ++ Str.ofString "s"), a, b]) (.tup (seqT_keep kdV kW (seqT_same ((((((((((((((((S8).trans S9).trans S10).trans S11).trans S12).trans S13).trans S14).trans S15).trans S16).trans S17).trans S18).trans S19).trans S20).trans S21).trans S22).trans S23) g7)) (.cons (.str _) (.cons (dp_keep kd kF _ _ h1) (.cons (dp_keep kd kF _ _ h2) .nil)))) ?_ ?_ ?_
        · first | exact sa | simp only [shortD, shortAll, okw, oks, okb, okc, sa, sb, Bool.and_self]
        · first | rfl | exact wa | exact wb | simp [widD, widAll, wa, wb]
        · first | omega | (simp only [PyData.depth, PyData.depthAll]; omega)
      · refine fin (.tuple [.int 1, a, b]) (.tup (seqT_keep kdV kW (seqT_same ((((((((((((((S10).trans S11).trans S12).trans S13).trans S14).trans S15).trans S16).trans S17).trans S18).trans S19).trans S20).trans S21).trans S22).trans S23) g9)) (.cons (.int _) (.cons (dp_keep kd kF _ _ h1) (.cons (dp_keep kd kF _ _ h2) .nil)))) ?_ ?_ ?_
        · first | exact sa | simp only [shortD, shortAll, okw, oks, okb, okc, sa, sb, Bool.and_self]
        · first | rfl | exact wa | exact wb | simp [widD, widAll, wa, wb]
        · first | omega | (simp only [PyData.depth, PyData.depthAll]; omega)
      · refine fin (a) (dp_keep kd kF _ _ h1) ?_ ?_ ?_
        · first | exact sa | simp only [shortD, shortAll, okw, oks, okb, okc, sa, sb, Bool.and_self]
        · first | rfl | exact wa | exact wb | simp [widD, widAll, wa, wb]
        · first | omega | (simp only [PyData.depth, PyData.depthAll]; omega)
      · refine fin (.none) .non ?_ ?_ ?_
        · first | exact sa | simp only [shortD, shortAll, okw, oks, okb, okc, sa, sb, Bool.and_self]
        · first | rfl | exact wa | exact wb | simp [widD, widAll, wa, wb]
        · first | omega | (simp only [PyData.depth, PyData.depthAll]; omega)
      · refine fin (.bool true) (.bl true) ?_ ?_ ?_
        · first | exact sa | simp only [shortD, shortAll, okw, oks, okb, okc, sa, sb, Bool.and_self]
        · first | rfl | exact wa | exact wb | simp [widD, widAll, wa, wb]
        · first | omega | (simp only [PyData.depth, PyData.depthAll]; omega)
      · refine fin (.tuple []) (.tup (seqT_keep kdV kW (seqT_same (((((((((((((S11).trans S12).trans S13).trans S14).trans S15).trans S16).trans S17).trans S18).trans S19).trans S20).trans S21).trans S22).trans S23) g10)) .nil) ?_ ?_ ?_
        · first | exact sa | simp only [shortD, shortAll, okw, oks, okb, okc, sa, sb, Bool.and_self]
        · first | rfl | exact wa | exact wb | simp [widD, widAll, wa, wb]
        · first | omega | (simp only [PyData.depth, PyData.depthAll]; omega)
      · refine fin (.tuple [.str (Str.ofString "both"), a, b]) (.tup (seqT_keep kdV kW (seqT_same ((((((((((S14).trans S15).trans S16).trans S17).trans S18).trans S19).trans S20).trans S21).trans S22).trans S23) g13)) (.cons (.str _) (.cons (dp_keep kd kF _ _ h1) (.cons (dp_keep kd kF _ _ h2) .nil)))) ?_ ?_ ?_
        · first | exact sa | simp only [shortD, shortAll, okw, oks, okb, okc, sa, sb, Bool.and_self]
        · first | rfl | exact wa | exact wb | simp [widD, widAll, wa, wb]
        · first | omega | (simp only [PyData.depth, PyData.depthAll]; omega)
      · refine fin (.tuple [.str (Str.ofString "counter"), a, b]) (.tup (seqT_keep kdV kW (seqT_same ((((((((S16).trans S17).trans S18).trans S19).trans S20).trans S21).trans S22).trans S23) g15)) (.cons (.str _) (.cons (dp_keep kd kF _ _ h1) (.cons (dp_keep kd kF _ _ h2) .nil)))) ?_ ?_ ?_
        · first | exact sa | simp only [shortD, shortAll, okw, oks, okb, okc, sa, sb, Bool.and_self]
        · first | rfl | exact wa | exact wb | simp [widD, widAll, wa, wb]
        · first | omega | (simp only [PyData.depth, PyData.depthAll]; omega)
      · refine fin (.tuple [b, a, .str wd]) (.tup (seqT_keep kdV kW (seqT_same (((((((S17).trans S18).trans S19).trans S20).trans S21).trans S22).trans S23) g16)) (.cons (dp_keep kd kF _ _ h2) (.cons (dp_keep kd kF _ _ h1) (.cons (.str _) .nil)))) ?_ ?_ ?_
        · first | exact sa | simp only [shortD, shortAll, okw, oks, okb, okc, sa, sb, Bool.and_self]
        · first | rfl | exact wa | exact wb | simp [widD, widAll, wa, wb]
        · first | omega | (simp only [PyData.depth, PyData.depthAll]; omega)
      · refine fin (.tuple [.str wd, .list [a], b]) (.tup (seqT_keep kdV kW (seqT_same (((S21).trans S22).trans S23) g20)) (.cons (.str _) (.cons (.lst (seqL_keep kdV kW (SqL.of (((((((S18).trans S19).trans S20).trans S21).trans S22).trans S23) _ _ g17))) (.cons (dp_keep kd kF _ _ h1) .nil)) (.cons (dp_keep kd kF _ _ h2) .nil)))) ?_ ?_ ?_
        · first | exact sa | simp only [shortD, shortAll, okw, oks, okb, okc, sa, sb, Bool.and_self]
        · first | rfl | exact wa | exact wb | simp [widD, widAll, wa, wb]
        · first | omega | (simp only [PyData.depth, PyData.depthAll]; omega)
      · refine fin (.tuple [.tuple [.str wd, a, b]]) (.tup (seqT_keep kdV kW (seqT_same ((S22).trans S23) g21)) (.cons (.tup (seqT_keep kd kF hT) (.cons (.str _) (.cons (dp_keep kd kF _ _ h1) (.cons (dp_keep kd kF _ _ h2) .nil)))) .nil)) ?_ ?_ ?_
        · first | exact sa | simp only [shortD, shortAll, okw, oks, okb, okc, sa, sb, Bool.and_self]
        · first | rfl | exact wa | exact wb | simp [widD, widAll, wa, wb]
        · first | omega | (simp only [PyData.depth, PyData.depthAll]; omega)
end
end My

set_option Elab.async false
set_option linter.all false
set_option maxRecDepth 100000
/-! closures as values: a lambda without parameters that is handed on to defs, and called there -/
namespace Clo
open PySem PySem.Spec PyProof.Rows L2 LamX
/-- the object at c is just o -/
def Pin (c : Addr) (o : Obj) : HO := .ext fun h => h.get? c = some o
theorem pin_ok {P : Program} {w : World} {H : Hp} {h : Heap} {c : Addr} {o : Obj} (e : h.get? c = some o) : ObjOk P w H h c (Pin c o) :=
  ⟨e, ⟨o, e⟩, fun h1 h2 q st => st _ q⟩
theorem pin_get {P : Program} {w : World} {H : Hp} {h : Heap} {c : Addr} {o : Obj} (hok : HOk P w H h) (e : H c = some (Pin c o)) : h.get? c = some o := (hok c _ e).1
/-- the cells at C known to the object; .. forgotten -/
def plus (C : Addr → Option Obj) (H : Hp) : Hp := fun b => match C b with | some o => some (Pin b o) | none => H b
def minus (C : Addr → Option Obj) (H : Hp) : Hp := fun b => match C b with | some _ => none | none => H b
section
variable {C : Addr → Option Obj} {H H' : Hp} {b : Addr} {o : Obj} {u : HO}
theorem plus_in (e : C b = some o) : plus C H b = some (Pin b o) := by unfold plus; rw [e]
theorem plus_out (e : C b = none) : plus C H b = H b := by unfold plus; rw [e]
theorem minus_in (e : C b = some o) : minus C H b = none := by unfold minus; rw [e]
theorem minus_out (e : C b = none) : minus C H b = H b := by unfold minus; rw [e]
theorem out_of (e : H b = some u) (f : ∀ c o, C c = some o → H c = none) : C b = none := by
  cases q : C b with
  | none => rfl
  | some o =>
    rw [f b o q] at e
    cases e
theorem pin_own {c x : Addr} : Pin c o ≠ .own x := fun z => by
  have z' : HO.ext _ = HO.own x := z
  cases z'
theorem pin_tup {c : Addr} {xs : List V} : Pin c o ≠ .tup xs := fun z => by
  have z' : HO.ext _ = HO.tup xs := z
  cases z'
theorem pin_frz {c : Addr} {p : Obj} : Pin c o ≠ .frz p u := fun z => by
  have z' : HO.ext _ = HO.frz p u := z
  cases z'
theorem pin_tbl {c : Addr} {ps : Array Value} : Pin c o ≠ .tbl ps := fun z => by
  have z' : HO.ext _ = HO.tbl ps := z
  cases z'
/-- Hm is H without the cells -/
structure Less (C : Addr → Option Obj) (Hm H : Hp) (h : Heap) : Prop where
  inn : ∀ c o, C c = some o → Hm c = none ∧ H c = some (Pin c o) ∧ h.get? c = some o
  out : ∀ b, C b = none → Hm b = H b
theorem less_plus {h : Heap} (f : ∀ c o, C c = some o → H c = none ∧ h.get? c = some o) : Less C H (plus C H) h :=
  ⟨fun c o e => ⟨(f c o e).1, plus_in e, (f c o e).2⟩, fun b e => (plus_out e).symm⟩
theorem less_minus {P : Program} {w : World} {h : Heap} (hok : HOk P w H h) (f : ∀ c o, C c = some o → H c = some (Pin c o)) : Less C (minus C H) H h :=
  ⟨fun c o e => ⟨minus_in e, f c o e, (hok c _ (f c o e)).1⟩, fun b e => minus_out e⟩
end
section
variable {P : Program} {w : World} {C : Addr → Option Obj} {H Hm H' : Hp} {h h' : Heap} {fs : List Addr}
theorem Less.cells (L : Less C Hm H h) {b : Addr} {u : HO} (e : H b = some u) (n : ∀ o, u ≠ Pin b o) : C b = none := by
  cases q : C b with
  | none => rfl
  | some o =>
    rw [(L.inn b o q).2.1] at e
    exact absurd (Option.some.inj e).symm (n o)
theorem Less.hok (L : Less C Hm H h) (k : HOk P w Hm h) : HOk P w H h := fun b u e => by
  cases q : C b with
  | some o =>
    rw [(L.inn b o q).2.1] at e
    cases e
    exact pin_ok (L.inn b o q).2.2
  | none =>
    rw [← L.out b q] at e
    refine (k b u e).stay (fun _ _ _ z => z) (fun c z => ?_) fun c xs z => ?_
    · cases qc : C c with
      | none => rw [← L.out c qc]; exact z
      | some o => rw [(L.inn c o qc).1] at z; cases z
    · cases qc : C c with
      | none => rw [← L.out c qc]; exact z
      | some o => rw [(L.inn c o qc).1] at z; cases z
theorem Less.hokm (L : Less C Hm H h) (k : HOk P w H h) : HOk P w Hm h := fun b u e => by
  have qb : C b = none := by
    cases q : C b with
    | none => rfl
    | some o => rw [(L.inn b o q).1] at e; cases e
  rw [L.out b qb] at e
  refine (k b u e).stay (fun _ _ _ z => z) (fun c z => ?_) fun c xs z => ?_
  · rw [L.out c (L.cells z fun o => Ne.symm pin_own)]; exact z
  · rw [L.out c (L.cells z fun o => Ne.symm pin_tup)]; exact z
/-- what is kept over Hm is kept over H, the cells told again -/
theorem un_plus (L : Less C Hm H h) (u : Un fs [] Hm H' h h') (nf : ∀ c o, C c = some o → c ∉ fs) : Un fs [] H (plus C H') h h' ∧ (∀ c o, C c = some o → h'.get? c = some o ∧ H' c = none) := by
  have cell : ∀ c o, C c = some o → h'.get? c = some o ∧ H' c = none := fun c o e => by
    have i := L.inn c o e
    exact ⟨u.keep c o i.2.2 i.1 (nf c o e) (by simp), u.free c o i.2.2 i.1 (by simp)⟩
  have nn : ∀ {b}, H b = none → C b = none := fun {b} n => by
    cases q : C b with
    | none => rfl
    | some o => rw [(L.inn b o q).2.1] at n; cases n
  refine ⟨⟨fun b o e n hb hx => ?_, fun b o e n hb hx => ?_, fun b o e n hx => ?_, u.there, fun b xs e => ?_, fun b o v e => ?_, fun b ps e => ?_⟩, cell⟩
  · exact u.keep b o e (by rw [L.out b (nn n)]; exact n) hb hx
  · exact u.slot b o e (by rw [L.out b (nn n)]; exact n) hb hx
  · rw [plus_out (nn n)]
    exact u.free b o e (by rw [L.out b (nn n)]; exact n) hx
  · have q := L.cells e fun o => Ne.symm pin_tup
    rw [plus_out q]
    exact u.tups b xs (by rw [L.out b q]; exact e)
  · have q := L.cells e fun o' => Ne.symm pin_frz
    rw [plus_out q]
    exact u.frzs b o v (by rw [L.out b q]; exact e)
  · have q := L.cells e fun o => Ne.symm pin_tbl
    rw [plus_out q]
    exact u.tbls b ps (by rw [L.out b q]; exact e)
/-- what is kept over H, the cells known behind it too, is kept over Hm -/
theorem un_minus (L : Less C Hm H h) (u : Un fs [] H H' h h') (hok : HOk P w H' h') (st : ∀ c o, C c = some o → H' c = some (Pin c o)) : Un fs [] Hm (minus C H') h h' := by
  have cell : ∀ c o, C c = some o → h'.get? c = some o := fun c o e => (hok c _ (st c o e)).1
  refine ⟨fun b o e n hb hx => ?_, fun b o e n hb hx => ?_, fun b o e n hx => ?_, u.there, fun b xs e => ?_, fun b o v e => ?_, fun b ps e => ?_⟩
  · cases q : C b with
    | some o' =>
      have := (L.inn b o' q).2.2
      rw [e] at this
      cases this
      exact cell b o q
    | none => exact u.keep b o e (by rw [← L.out b q]; exact n) hb hx
  · cases q : C b with
    | some o' =>
      have := (L.inn b o' q).2.2
      rw [e] at this
      cases this
      exact ⟨o.slots, cell b o q⟩
    | none => exact u.slot b o e (by rw [← L.out b q]; exact n) hb hx
  · cases q : C b with
    | some o' => exact minus_in q
    | none =>
      rw [minus_out q]
      exact u.free b o e (by rw [← L.out b q]; exact n) hx
  · have q : C b = none := by
      cases q : C b with
      | none => rfl
      | some o => rw [(L.inn b o q).1] at e; cases e
    rw [minus_out q]
    exact u.tups b xs (by rw [← L.out b q]; exact e)
  · have q : C b = none := by
      cases q : C b with
      | none => rfl
      | some o => rw [(L.inn b o q).1] at e; cases e
    rw [minus_out q]
    exact u.frzs b o v (by rw [← L.out b q]; exact e)
  · have q : C b = none := by
      cases q : C b with
      | none => rfl
      | some o => rw [(L.inn b o q).1] at e; cases e
    rw [minus_out q]
    exact u.tbls b ps (by rw [← L.out b q]; exact e)
end
section
variable {P : Program} {w : World} {C : Addr → Option Obj} {H Hm : Hp} {s s' : Shared} {outer : List Env}
theorem ce_plus {Q : VK} {u : Value} (L : Less C Hm H s.heap) (nf : ∀ c o, C c = some o → c ∉ frs outer) (h : CE outer P w Hm s (fun v H' => (∀ c o, C c = some o → H' c = none) → Q v (plus C H')) u s') : CE outer P w H s Q u s' := by
  obtain ⟨v, H', os, bare, un, hok, r, q⟩ := h
  obtain ⟨un', cell⟩ := un_plus L un nf
  exact ⟨v, plus C H', os, bare, un', (less_plus fun c o e => ⟨(cell c o e).2, (cell c o e).1⟩).hok hok, r, q fun c o e => (cell c o e).2⟩
theorem ce_minus {Q : VK} {u : Value} (L : Less C Hm H s.heap) (h : CE outer P w H s (fun v H' => (∀ c o, C c = some o → H' c = some (Pin c o)) ∧ Q v (minus C H')) u s') : CE outer P w Hm s Q u s' := by
  obtain ⟨v, H', os, bare, un, hok, r, st, q⟩ := h
  exact ⟨v, minus C H', os, bare, un_minus L un hok st, (less_minus hok st).hokm hok, r, q⟩
theorem cx_plus {E : XK} {u : Value} (L : Less C Hm H s.heap) (nf : ∀ c o, C c = some o → c ∉ frs outer) (h : L2.CX P w outer Hm s (fun cls d H' => (∀ c o, C c = some o → H' c = none) → E cls d (plus C H')) u s') : L2.CX P w outer H s E u s' := by
  obtain ⟨a, B, H', cls, d, eu, fl, hok, ub, na, os, ag, q⟩ := h
  have nn : ∀ {b}, H b = none → C b = none := fun {b} n => by
    cases q : C b with
    | none => rfl
    | some o => rw [(L.inn b o q).2.1] at n; cases n
  have cell : ∀ c o, C c = some o → B.get? c = some o ∧ H' c = none := fun c o e => by
    have i := L.inn c o e
    exact ⟨ub.keep c o i.2.2 i.1 (nf c o e), ub.free c o i.2.2 i.1⟩
  refine ⟨a, B, plus C H', cls, d, eu, fl, (less_plus fun c o e => ⟨(cell c o e).2, (cell c o e).1⟩).hok hok, ⟨fun b o e n hb => ?_, ub.slot, fun b o e n => ?_, ub.there, fun b xs e => ?_, fun b o v e => ?_, fun b ps e => ?_⟩, ?_, os, ag, q fun c o e => (cell c o e).2⟩
  · exact ub.keep b o e (by rw [L.out b (nn n)]; exact n) hb
  · rw [plus_out (nn n)]
    exact ub.free b o e (by rw [L.out b (nn n)]; exact n)
  · have q := L.cells e fun o => Ne.symm pin_tup
    rw [plus_out q]
    exact ub.tups b xs (by rw [L.out b q]; exact e)
  · have q := L.cells e fun o' => Ne.symm pin_frz
    rw [plus_out q]
    exact ub.frzs b o v (by rw [L.out b q]; exact e)
  · have q := L.cells e fun o => Ne.symm pin_tbl
    rw [plus_out q]
    exact ub.tbls b ps (by rw [L.out b q]; exact e)
  · have qa : C a = none := by
      cases q : C a with
      | none => rfl
      | some o =>
        have h1 := (cell a o q).1
        rw [fl.2.1] at h1
        cases h1
    rw [plus_out qa]
    exact na
end

/-! ### the cells of a frame -/
/-- C: the objects of the cells that env knows, with the values of the names -/
structure CellsAt (env : Env) (N : List Str) (σ : L2.St) (C : Addr → Option Obj) : Prop where
  all : ∀ x c, env.cells.lookup x = some c → ∃ o v, C c = some o ∧ o.data = .cell v
  val : ∀ (i : Nat) (x : Str) (v : V) (c : Addr), N[i]? = some x → σ[i]? = some (some v) → (env.kindOf x = some .cell ∨ env.kindOf x = some .free) → env.cells.lookup x = some c → ∃ o u, C c = some o ∧ o.data = .cell (some u) ∧ RelV v u
section
variable {X : Cx} {pins : List (Addr × Obj)} {σ : L2.St} {H : Hp} {s : Shared}
open Classical in
theorem cells_of (I : Inv X pins σ H s) : ∃ C : Addr → Option Obj, CellsAt X.env X.N σ C ∧ (∀ c o, C c = some o → s.heap.get? c = some o ∧ H c = none ∧ ∃ x, X.env.cells.lookup x = some c) := by
  refine ⟨fun c => if ∃ x, X.env.cells.lookup x = some c then s.heap.get? c else none, ⟨fun x c e => ?_, fun i x v c hn hs hk e => ?_⟩, fun c o e => ?_⟩
  · obtain ⟨v, o, ho, hd⟩ := I.cell x c e
    exact ⟨o, v, by rw [if_pos ⟨x, e⟩]; exact ho, hd⟩
  · obtain ⟨m, hm, hl⟩ := I.loc
    have vis : Vis X.env.scope x := hk.elim (fun k => .inr (.inl k)) (fun k => .inr (.inr k))
    obtain ⟨u, ru, q⟩ := hl i x v hn hs vis
    rcases q with ⟨k', _⟩ | ⟨_, c', e', o, ho, hd⟩
    · rcases hk with k | k <;> rw [k] at k' <;> cases k'
    · rw [e] at e'
      cases e'
      exact ⟨o, u, by rw [if_pos ⟨x, e⟩]; exact ho, hd, ru⟩
  · have e : (if ∃ x, X.env.cells.lookup x = some c then s.heap.get? c else none) = some o := e
    by_cases hx : ∃ x, X.env.cells.lookup x = some c
    · rw [if_pos hx] at e
      obtain ⟨x, ex⟩ := hx
      exact ⟨e, I.freeC x c ex, x, ex⟩
    · rw [if_neg hx] at e
      cases e
end
section
variable {X : Cx} {σ : L2.St} {C : Addr → Option Obj} {HZ : Hp} {s1 : Shared}
/-- the lambda's body, entered anywhere while the cells lie as C tells -/
theorem lam_start3 {A : Around} {outer : List Env} {E : XK} {scope : Scope} {f c' : Addr} {h₁ : Heap} {tk : Nat} (ok : X.Ok) (len : σ.length = X.N.length) (L : LamS X.env.scope scope) (KC : CellsAt X.env X.N σ C) (lie : ∀ c o, C c = some o → s1.heap.get? c = some o) (off : ∀ c o, C c = some o → HZ c = none)
    (e0 : Env0 X.prog X.w X.K X.mg X.base A outer s1 HZ) (hd : A.handled = none) (hns : h₁.Ns s1.heap.objs.size fun y => ([] : List (Str × Value)).reverse.lookup y) (kp : ∀ b o, s1.heap.get? b = some o → h₁.get? b = some o) :
    Inv (lamCx X A outer s1 HZ E scope f c') [] σ HZ { s1 with heap := h₁, toks := tk } := by
  have old : ∀ {x c}, (cloFrom X.env.cells scope.names []).lookup x = some c → X.env.cells.lookup x = some c := fun {x c} lk => by
    rcases cloFrom_mem (PySem.mem_of_lookup lk) with z | ⟨nm, at_⟩
    · exact absurd z (by simp)
    · obtain ⟨d, hl⟩ := L.has ok _ nm rfl
      have hl : X.env.cells.lookup x = some d := hl
      rw [at_, hl]
      rfl
  have seek : ∀ {x}, scope.names.lookup x = some .free → ∃ c, (cloFrom X.env.cells scope.names []).lookup x = some c := fun {x} lk =>
    mem_lookup (cloFrom_has (cells := X.env.cells) (acc := []) (PySem.mem_of_lookup lk))
  have noE : ∀ b : Addr, b ∉ (lamCx X A outer s1 HZ E scope f c').ex := fun b z => nomatch (show b ∈ ([] : List Addr) from z)
  refine ⟨⟨e0.mod, L.kind, rfl, rfl, Nat.le_refl _, fun x y c l1 l2 => ok.inj x y c (old l1) (old l2), fun x kx => ?_, fun x c z => ?_, fun _ => hd, Around.frames_deeper e0.frames, .inr ⟨rfl, rfl⟩, fun b z => (noE b z).elim, e0.bs, e0.bsz, fun b _ _ => noE b, fun b z => (noE b z).elim, e0.funs, e0.frf⟩,
    rfl, e0.bare, Un.kept kp, ⟨_, hns, fun i x v l1 l2 vs => ?_⟩, fun x c lk => ?_, e0.hok.fresh (Nat.le_refl _), fun x c lk => ?_, fun p z => (nomatch (show p ∈ ([] : List (Addr × Obj)) ++ [] from z)), e0.hok.kept kp, len⟩
  · have kx : scope.names.lookup x = some .cell ∨ scope.names.lookup x = some .free := kx
    rcases kx with k | k
    · exact ((L.own _ (PySem.mem_of_lookup k)).2 rfl).elim
    · exact seek k
  · exact nomatch (show false = true from z)
  · have vs : Vis scope x := vs
    rcases vs with k | k | k
    · exact ((L.own _ (PySem.mem_of_lookup k)).1 rfl).elim
    · exact ((L.own _ (PySem.mem_of_lookup k)).2 rfl).elim
    · have kk : X.env.kindOf x = some .cell ∨ X.env.kindOf x = some .free := L.free _ (PySem.mem_of_lookup k) rfl
      obtain ⟨c, lk⟩ := seek k
      obtain ⟨o, u, co, od, ru⟩ := KC.val i x v c l1 l2 kk (old lk)
      exact ⟨u, ru, .inr ⟨.inr k, c, lk, o, kp _ _ (lie c o co), od⟩⟩
  · obtain ⟨o, v, co, od⟩ := KC.all x c (old lk)
    exact ⟨v, o, kp _ _ (lie c o co), od⟩
  · obtain ⟨o, v, co, od⟩ := KC.all x c (old lk)
    exact off c o co
end

/-! ### a closure -/
/-- what a call of the object at f, without arguments, does -/
def Act (P : Program) (w : World) (K : PySem.W.Frag) (mg : Str → Option Value) (base : Heap) (k : Nat) (f : Addr) (tl : Hp → VK → XK → Prop) : Prop :=
  ∀ (A : Around) (outer : List Env) (s : Shared) (H : Hp) (Q : VK) (E : XK), Room k A → Env0 P w K mg base A outer s H → tl H Q E →
    codeAny (model P w) A (.call (.ref f) ⟨[], []⟩) (CR (L2.CX P w) outer P w H s Q E) s
theorem Act.mono {P : Program} {w : World} {K : PySem.W.Frag} {mg : Str → Option Value} {base : Heap} {j k : Nat} {f : Addr} {tl : Hp → VK → XK → Prop} (a : Act P w K mg base j f tl) (h : j ≤ k) : Act P w K mg base k f tl :=
  fun A outer s H Q E r => a A outer s H Q E (r.mono h)
/-- the reading of a lambda's call, wherever it comes: its object and the cells are known, the body's reading holds without them -/
def tlX (f c' : Addr) (fo : Obj) (q : Str) (C : Addr → Option Obj) (σ : L2.St) (t : XK → TE) : Hp → VK → XK → Prop := fun H Q E =>
  H f = some (Pin f fo) ∧ H c' = some (CodeO c' q) ∧ (∀ c o, C c = some o → H c = some (Pin c o)) ∧ t (fun cls d H' => (∀ c o, C c = some o → H' c = none) → E cls d (plus C H')) σ (minus C H) (fun v H' => (∀ c o, C c = some o → H' c = none) → Q v (plus C H'))
section
variable {X : Cx} {σ : L2.St} {C : Addr → Option Obj}
theorem act_ok {f c' : Addr} {pm ctv : Value} {params : Arguments} {body : Expr} {scope : Scope} {k : Nat} {t : XK → TE} (ok : X.Ok) (len : σ.length = X.N.length) (L : LamS X.env.scope scope) (KC : CellsAt X.env X.N σ C)
    (hbind : bindArgs (PySem.W.kla_fn "<lambda>" (X.env.qual ++ "<lambda>") params body scope (cloFrom X.env.cells scope.names []) pm (.ref c') ctv) ⟨[], []⟩ = pure [])
    (hbody : ∀ (A : Around) (outer : List Env) (s : Shared) (H : Hp) (E : XK), Room k (A.deeper (lamEnv X scope s.heap.objs.size f c')) → PE (lamCx X A outer s H E scope f c') body (t E)) :
    Act X.prog X.w X.K X.mg X.base (k + 1) f (tlX f c' (PySem.W.kla_obj "<lambda>" (X.env.qual ++ "<lambda>") params body scope (cloFrom X.env.cells scope.names []) pm c' ctv) (X.env.qual ++ "<lambda>") C σ t) := by
  intro A outer s H Q E hr e0 h
  obtain ⟨hf, hc, hC, ht⟩ := h
  have gf := pin_get e0.hok hf
  obtain ⟨⟨oc, vs, tq, g1, g2, g3⟩, _, _⟩ := e0.hok c' _ hc
  have LS : Less C (minus C H) H s.heap := less_minus e0.hok hC
  have nf : ∀ c o, C c = some o → c ∉ frs outer := fun c o e z => by
    have := e0.frf c z
    rw [hC c o e] at this
    cases this
  have e1 : Env0 X.prog X.w X.K X.mg X.base A outer s (minus C H) := ⟨e0.frames, e0.mod, fun b o e => ⟨(e0.bs b o e).1, by
      cases q : C b with
      | some o' => exact minus_in q
      | none => rw [minus_out q]; exact (e0.bs b o e).2⟩, e0.bsz, e0.funs, fun b hb => by
      cases q : C b with
      | some o' => exact minus_in q
      | none => rw [minus_out q]; exact e0.frf b hb, LS.hokm e0.hok, e0.bare⟩
  have lim : s.heap.NoLimit := e0.mod.nolimit.keeps fun b o e => (e0.bs b o e).1
  refine PySem.W.kla_callFunE hr.depth gf rfl L.co L.gen rfl ⟨c', oc, vs, tq, rfl, g1, g2, g3⟩ ?_
  rw [hbind]
  refine wpAny_pure (wpAny_newFunctionEnv (fun y hy => (L.own y hy).2) (fun y hy => nomatch hy) (fun h₁ hns hsb => ⟨lim.fresh _ hsb, ?_⟩) L.kind)
  show codeAny _ _ (.expr body (lamEnv X scope s.heap.objs.size f c')) _ _
  have kp : ∀ b o, s.heap.get? b = some o → h₁.get? b = some o := fun b o g => hsb.extBut b o (Nat.ne_of_lt (Heap.lt_size g)) (Heap.get?_push_of_some _ g)
  have J : Inv (lamCx X A outer s (minus C H) (fun cls d H' => (∀ c o, C c = some o → H' c = none) → E cls d (plus C H')) scope f c') [] σ (minus C H) { s with heap := h₁, toks := s.toks + ([] : List (Str × Value)).length } :=
    lam_start3 ok len L KC (fun c o e => (LS.inn c o e).2.2) (fun c o e => (LS.inn c o e).1) e1 hr.hd hns kp
  refine PySem.W.kla_codeExpr (wpAny_mono ((hbody A outer s (minus C H) _ (hr.deeper _)).run [] _ _ _ _ J ht) (fun v s' hq => ?_) fun e s' hq => ?_)
  · obtain ⟨v', H', J', rv, q⟩ := hq
    exact ce_plus LS nf ⟨v', H', J'.os, J'.bare, J'.base, J'.hok, rv, q⟩
  · exact wpAny_mono hq (fun _ s2 z => cx_plus LS nf z) fun e2 s2 z => cx_plus LS nf z
end

/-! ### a lambda is made -/
section
variable {X : Cx} {pins : List (Addr × Obj)} {σ : L2.St} {H : Hp} {s : Shared}
theorem pin_lay {h' : Heap} {o : Obj} {tk : Nat} (nf : o.isFreed = false) (I : Inv X pins σ H { s with heap := h', toks := tk }) : Inv X pins σ (upd H h'.objs.size (Pin h'.objs.size o)) { s with heap := h'.push o, toks := tk } :=
  I.laid (t' := tk) (fun b u g => Heap.get?_push_of_some _ g) (Nat.le_refl _) (pin_ok (Heap.get?_push_size _ nf))
theorem new_same {p : Addr} {o : HO} (n : H p = none) : ∀ b u, H b = some u → upd H p o b = some u := fun b u g => by
  rw [upd_ne (ne_of_none g n)]
  exact g
/-- a lambda is made, and known from then on -/
theorem lam_make3 {T : List (Addr × Str)} {c P : Addr} {params : Arguments} {body : Expr} {scope : Scope} {pos : Pos} {E : Value → Shared → Prop} {Q : Value → Shared → Prop} (I : Inv X pins σ H s) (TB : TabB X.base X.mg c P) (hcode : X.env.code = .ref c)
    (inT : (P, X.env.qual ++ "<lambda>") ∈ T) (one : ∀ p ∈ T, p.1 = P → p.2 = X.env.qual ++ "<lambda>") (tabs : Tabs T H) (nodef : defaultsOf params X.env = ([], [])) (free : ∀ y ∈ scope.names, y.2 = .free → ∃ c, X.env.cells.lookup y.1 = some c)
    (h : ∀ (f c' : Addr) (pm ctv : Value) (H1 : Hp) (s' : Shared), Inv X pins σ H1 s' → ExtN H H1 → Tabs T H1 → H f = none →
      H1 f = some (Pin f (PySem.W.kla_obj "<lambda>" (X.env.qual ++ "<lambda>") params body scope (cloFrom X.env.cells scope.names []) pm c' ctv)) → H1 c' = some (CodeO c' (X.env.qual ++ "<lambda>")) → Q (.ref f) s') :
    wpAny (model X.prog X.w) X.A (eval (.Lambda params body scope pos) X.env) Q E s := by
  obtain ⟨ps, tP, tOk, tAll⟩ := tabs _ inT
  have bP : s.heap.BuiltinsAt X.mg P := TB.bm.keeps I.bk
  have gP : s.heap.get? P = some { cls := .none, data := .fields ps } := I.hok P _ tP
  refine PySem.W.kla_eval nodef ?_
  cases among : codeAmong pos ps.toList with
  | some cv =>
    obtain ⟨c', rfl, known⟩ := tAll pos cv among
    refine PySem.W.kla_makeFunctionHit (mg := X.mg) (c := c) (P := P) (ps := ps) (closure_ok free) I.ok.glob (I.mod.glob.keeps I.bk) hcode (TB.code.keeps I.bk) gP tOk among bP fun ctv h' tk kept bigger => ?_
    have J : Inv X pins σ H { s with heap := h', toks := tk } := I.kept kept
    have n := J.hok.fresh (Nat.le_refl h'.objs.size)
    exact h _ c' _ ctv _ _ (pin_lay rfl J) (ExtN.of (new_same n)) (tabs.ext (new_same n)) n upd_same (new_same n _ _ known)
  | none =>
    refine PySem.W.kla_makeFunction (mg := X.mg) (c := c) (P := P) (ps := ps) (closure_ok free) I.ok.glob (I.mod.glob.keeps I.bk) hcode (TB.code.keeps I.bk) gP tOk among TB.gP bP fun c' ctv h' tk but ge lt rc tab => ?_
    obtain ⟨c2, oc, vs, tq, ec, g1, g2, g3⟩ := rc
    cases ec
    have J := inv_table (q := X.env.qual ++ "<lambda>") (t' := tk) (more := #[rawInt pos.line, rawInt pos.col, .ref c']) (h' := h') I tP (fun b o nb g => but b o nb g) tab ge ⟨oc, vs, tq, g1, g2, g3⟩
    have nc : H c' = none := I.hok.fresh ge
    have n := J.hok.fresh (Nat.le_refl h'.objs.size)
    have nH : H h'.objs.size = none := I.hok.fresh (Nat.le_trans ge (Nat.le_of_lt lt))
    have E1 : ExtN H (upd (upd H P (.tbl (ps ++ #[rawInt pos.line, rawInt pos.col, .ref c']))) c' (CodeO c' (X.env.qual ++ "<lambda>"))) := fun b u g no => by
      have nP : b ≠ P := fun z => no ps (Option.some.inj (g.symm.trans (z ▸ tP)))
      rw [upd_ne (ne_of_none g nc), upd_ne nP]
      exact g
    have T1 : Tabs T (upd (upd H P (.tbl (ps ++ #[rawInt pos.line, rawInt pos.col, .ref c']))) c' (CodeO c' (X.env.qual ++ "<lambda>"))) := fun p hp => by
      by_cases eP : p.1 = P
      · rw [one p hp eP, eP]
        refine ⟨ps ++ #[rawInt pos.line, rawInt pos.col, .ref c'], by rw [upd_ne (ne_of_none tP nc), upd_same], ?_, fun pos' cv hcv => ?_⟩
        · rw [Array.toList_append]
          exact PySem.TriplesOk_snoc _ _ _ _ tOk
        · rw [Array.toList_append] at hcv
          rcases among_app _ tOk hcv with z | z
          · obtain ⟨d, ed, kd⟩ := tAll pos' cv z
            exact ⟨d, ed, E1 _ _ kd codeO_ne⟩
          · exact ⟨c', z, upd_same⟩
      · obtain ⟨qs, b1, b2, b3⟩ := tabs p hp
        refine ⟨qs, by rw [upd_ne (ne_of_none b1 nc), upd_ne eP]; exact b1, b2, fun pos' cv hcv => ?_⟩
        obtain ⟨d, ed, kd⟩ := b3 pos' cv hcv
        exact ⟨d, ed, E1 _ _ kd codeO_ne⟩
    refine h _ c' _ ctv _ _ (pin_lay rfl J) (fun b u g no => new_same n _ _ (E1 b u g no)) (T1.ext (new_same n)) nH upd_same (new_same n _ _ upd_same)
end

/-- a def's object -/
def FnObj (o : Obj) : Prop := ∃ (oc : Value) (od : Option Addr) (fd : FuncData) (osl : Array (Option Value)), o = ⟨oc, od, .func fd, osl⟩
/-- the expression lambda: body -/
def tLam3 (X : Cx) (T : List (Addr × Str)) (k : Nat) (t : XK → TE) : TE := fun σ H Q => Tabs T H ∧ ∀ (f : Addr) (fo : Obj) (c' : Addr) (H1 : Hp), ExtN H H1 → Tabs T H1 → H f = none → H1 f = some (Pin f fo) → H1 c' = some (CodeO c' (X.env.qual ++ "<lambda>")) →
  FnObj fo → (∀ C, CellsAt X.env X.N σ C → Act X.prog X.w X.K X.mg X.base (k + 1) f (tlX f c' fo (X.env.qual ++ "<lambda>") C σ t)) → Q (.ref f) H1
/-- a call of v, without arguments, from here -/
def Does (P : Program) (w : World) (K : PySem.W.Frag) (mg : Str → Option Value) (base : Heap) (k : Nat) (v : V) (H : Hp) (Q : VK) (E : XK) : Prop :=
  ∃ (f : Addr) (fo : Obj) (tl : Hp → VK → XK → Prop), v = .ref f ∧ FnObj fo ∧ H f = some (Pin f fo) ∧ Act P w K mg base k f tl ∧ tl H Q E
theorem Does.mono {P : Program} {w : World} {K : PySem.W.Frag} {mg : Str → Option Value} {base : Heap} {j k : Nat} {v : V} {H : Hp} {Q : VK} {E : XK} (d : Does P w K mg base j v H Q E) (h : j ≤ k) : Does P w K mg base k v H Q E := by
  obtain ⟨f, fo, tl, e, n, p, a, t⟩ := d
  exact ⟨f, fo, tl, e, n, p, a.mono h, t⟩
/-- x(), x the slot i -/
def tAct (P : Program) (w : World) (K : PySem.W.Frag) (mg : Str → Option Value) (base : Heap) (i k : Nat) (E : L2.St → XK) : TE := fun σ H Q => ∃ v, σ[i]? = some (some v) ∧ Does P w K mg base k v H Q (E σ)
/-- a def's call, the caller's cells known while it runs -/
def tCallT (X : Cx) (sp : Sp) (t : TA) : TE := fun σ H Q => t σ H fun vs H1 => ∀ C, CellsAt X.env X.N σ C → (∀ c o, C c = some o → H1 c = none) →
  sp vs (plus C H1) (fun v H' => (∀ c o, C c = some o → H' c = some (Pin c o)) ∧ Q v (minus C H')) C8.E0
section
variable {X : Cx}
theorem pe_lam {T : List (Addr × Str)} {c P : Addr} {k : Nat} {params : Arguments} {body : Expr} {scope : Scope} {t : XK → TE} {pos : Pos} (TB : TabB X.base X.mg c P) (hcode : X.env.code = .ref c)
    (inT : (P, X.env.qual ++ "<lambda>") ∈ T) (one : ∀ p ∈ T, p.1 = P → p.2 = X.env.qual ++ "<lambda>") (L : LamS X.env.scope scope) (nodef : defaultsOf params X.env = ([], []))
    (hbind : ∀ (q : Str) (cl : List (Str × Addr)) (pm cv ctv : Value), bindArgs (PySem.W.kla_fn "<lambda>" q params body scope cl pm cv ctv) ⟨[], []⟩ = pure [])
    (hbody : ∀ (A : Around) (outer : List Env) (s : Shared) (H : Hp) (E : XK) (f c' : Addr), Room k (A.deeper (lamEnv X scope s.heap.objs.size f c')) → PE (lamCx X A outer s H E scope f c') body (t E)) :
    PE X (.Lambda params body scope pos) (tLam3 X T k t) := by
  refine ⟨fun pins s σ H Q I h => ?_⟩
  obtain ⟨tabs, h⟩ := h
  refine lam_make3 I TB hcode inT one tabs nodef (L.has I.ok) fun f c' pm ctv H1 s1 I1 x1 t1 n1 k1 k2 => ?_
  exact ⟨.ref f, H1, I1, rfl, h f _ c' H1 x1 t1 n1 k1 k2 ⟨_, _, _, _, rfl⟩ fun C KC => act_ok I1.ok I1.len L KC (hbind _ _ _ _ _) fun A outer s H E r => hbody A outer s H E f c' r⟩
theorem pe_act3 {i k : Nat} {a : Str} {E : L2.St → XK} {p1 p2 : Pos} (hr : Room k X.A) (hx : ∀ σ, PassesAt (L2.CX X.prog X.w) X σ (E σ)) (hN : X.N[i]? = some a) (hv : Vis X.env.scope a)
    (hd : (a == ("__debug__" : Str)) = false := by decide) (hcd : (a == ("__classdict__" : Str)) = false := by decide) : PE X (.Call (.Name a p1) [] [] p2) (tAct X.prog X.w X.K X.mg X.base i k E) := by
  refine ⟨fun pins s σ H Q I h => ?_⟩
  obtain ⟨w, hs, f, fo, tl, ew, ⟨oc, od, fd, osl, efo⟩, hf, act, ht⟩ := h
  subst ew
  refine wpAny_Call_Name_kw (thn ((pe_var (pos := p1) (i := i) hN hv hd hcd).run pins s σ H (fun v H1 => v = .ref f ∧ H1 = H) I ⟨.ref f, hs, rfl, rfl⟩) fun u s1 hu => ?_)
  obtain ⟨v, H1, I1, rv, ev, eH⟩ := hu
  subst ev
  rw [eH] at I1
  obtain rfl : u = Value.ref f := rv
  have gf := pin_get I1.hok hf
  refine PySem.W.callWith_F0 ⟨oc, od, fd, osl, by rw [gf, efo]⟩ ?_
  refine wpAny_call (codeAny_mono (act X.A X.stack s1 H Q (E σ) hr I1.env0 ht) fun r s2 hq => ?_)
  cases r with
  | error e => exact hx σ pins H s1 e s2 I1 hq
  | ok fl =>
    cases fl with
    | ret u => exact I1.after hq
    | next => exact False.elim hq
    | brk => exact False.elim hq
    | cont => exact False.elim hq
/-- f(..), the caller's cells known while it runs -/
theorem pe_callT {k : Nat} {f : Addr} {fd : FuncData} {ps : List Str} {sp : Sp} {x : Str} {p pos : Pos} {e : Expr} {es : List Expr} {t : TA} (F : FnOk X.prog X.w X.K X.mg X.base C8.CX0 k f fd ps sp) (hr : Room k X.A) (hg : Gl X x) (hm : X.mg x = some (.ref f)) (hk : PySem.W.keepIn X.K (.ref f) = true)
    (hb : Binds X.K fd ps []) (hfn : ∀ x, X.fn x = true) (ha : PA X (e :: es) t) (hdb : (x == ("__debug__" : Str)) = false := by decide) (he : starEach (e :: es) X.env = (false, eval e X.env) :: starEach es X.env := by rfl)
    (hpl : (backTo pos (starEach es X.env)).any (·.1) = false := by rfl) : PE X (.Call (.Name x p) (e :: es) [] pos) (tCallT X sp t) := by
  refine ⟨fun pins s σ H Q I h => ?_⟩
  refine wpAny_Call_Name_kw (ld_glob I hg hm ?_ hdb)
  refine PySem.W.callWith_K (h₀ := X.base) I.ok.mod.kin hk (thn (ha.run pos pins s σ H _ I h) fun us s1 ⟨vs, H1, I1, r, q⟩ => ⟨I1.kIn, ?_⟩) he hpl
  obtain ⟨C, KC, hC⟩ := cells_of I1
  have q := q C KC fun c o e => (hC c o e).2.1
  have LS : Less C H1 (plus C H1) s1.heap := less_plus fun c o e => ⟨(hC c o e).2.1, (hC c o e).1⟩
  have big : ∀ c o, C c = some o → X.s_0.heap.objs.size ≤ c := fun c o e => by
    obtain ⟨y, ey⟩ := (hC c o e).2.2
    exact I1.ok.cab y c (hfn y) ey
  have none_of : ∀ b, b < X.s_0.heap.objs.size → C b = none := fun b lt => by
    cases z : C b with
    | none => rfl
    | some o => exact absurd (Nat.lt_of_lt_of_le lt (big b o z)) (Nat.lt_irrefl _)
  have e0 := I1.env0
  have e1 : Env0 X.prog X.w X.K X.mg X.base X.A X.stack s1 (plus C H1) := ⟨e0.frames, e0.mod, fun b o g => ⟨(e0.bs b o g).1, by
      rw [plus_out (none_of b (Nat.lt_of_lt_of_le (Heap.lt_size g) I1.ok.bsz))]
      exact (e0.bs b o g).2⟩, e0.bsz, e0.funs, fun b hb => by
      have nb : C b = none := by
        rcases List.mem_cons.mp (I1.stkSub b hb) with z | z
        · rw [z]
          cases w : C X.env.locals with
          | none => rfl
          | some o =>
            obtain ⟨y, ey⟩ := (hC _ o w).2.2
            exact absurd rfl (I1.cne y _ ey)
        · obtain ⟨_, o, ho, _⟩ := I1.ok.funs.mem z
          exact none_of b (Heap.lt_size ho)
      rw [plus_out nb]
      exact e0.frf b hb, LS.hok e0.hok, e0.bare⟩
  have hl : us.length = ps.length := by rw [← r.length]; exact F.len _ _ _ _ q
  have b := hb s1 us I1.kIn (by rw [List.append_nil]; exact hl)
  rw [List.append_nil] at b
  refine wpAny_call (codeAny_mono (F.run X.A X.stack s1 (plus C H1) ⟨us, []⟩ us vs _ C8.E0 hr e1 b r q) fun rr s2 hq => ?_)
  cases rr with
  | error e => exact (show False from hq).elim
  | ok fl =>
    cases fl with
    | ret u => exact I1.after (ce_minus LS hq)
    | next => exact False.elim hq
    | brk => exact False.elim hq
    | cont => exact False.elim hq
end
end Clo

set_option Elab.async false
set_option linter.all false
set_option maxRecDepth 100000
/-! several except clauses, each with a name (the same one) -/
namespace Clo
open PySem PySem.Spec PyProof.Rows L2 LamX
/-- the ends of a suite behind which its name is gone -/
def goneD (i : Nat) (D : Ends) : Ends where
  nx := fun τ G => D.nx (τ.set i none) G
  rt := D.rt
  bk := fun τ G => D.bk (τ.set i none) G
  ct := fun τ G => D.ct (τ.set i none) G
/-- what the clauses wish, one behind the other; the caught one stands in slot i -/
def wNam (K : PySem.W.Frag) (i : Nat) (Wout : WX) (D : Ends) : List (Value × (Addr → Value → Option Addr → TS)) → WX
  | [] => Wout
  | (k, ts) :: more => fun cls d τ G => ∃ b, PySem.W.exmOne K cls k = some b ∧ (b = true → ∀ a, G a = none → ts a cls d (goneD i D) (τ.set i (some (.ref a))) G) ∧ (b = false → wNam K i Wout D more cls d τ G)
inductive HdsN (X : Cx) (n : Str) : List ExceptHandler → List (Value × (Addr → Value → Option Addr → TS)) → Prop
  | nil : HdsN X n [] []
  | cons {x : Str} {k : Value} {ts : Addr → Value → Option Addr → TS} {st : Stmt} {sts : List Stmt} {p1 p2 : Pos} {more : List ExceptHandler} {l : List (Value × (Addr → Value → Option Addr → TS))} (nm : Names X x k)
      (su : ∀ (a : Addr) (oe : Obj) (cls : Value) (d : Option Addr) (pn : List (Addr × Obj)), Zc cls d oe → (∃ vs, oe.data = .fields vs) → PSs (X.suite a ((a, oe) :: pn)) (st :: sts) (ts a cls d)) (r : HdsN X n more l) :
      HdsN X n (.ExceptHandler (some (.Name x p1)) (some n) (st :: sts) p2 :: more) ((k, ts) :: l)
section
variable {X : Cx} {body : List Stmt} {h₀ : ExceptHandler} {hds : List ExceptHandler} {l : List (Value × (Addr → Value → Option Addr → TS))} {pos : Pos} {tb : WX → TS} {Wout : WX} {n : Str} {i : Nat}
theorem ps_try_nam (st : X.stack = X.env :: X.outer) (fr : X.env.frame = some X.env.locals) (nd : X.N.Nodup) (at_ : X.N[i]? = some n) (lc : X.env.kindOf n = some .local) (tk : Takes X Wout)
    (hb : ∀ (W : WX) (pn : List (Addr × Obj)) (xe : Value → Shared → Prop), Takes (X.tr pn xe) W → PassesOwn (model X.prog X.w) X.A X.env xe → PSs (X.tr pn xe) body (tb W)) (hh : HdsN X n (h₀ :: hds) l) :
    PS X (.Try body (h₀ :: hds) [] [] pos) (fun D τ G => tb (wNam X.K i Wout D l) D τ G) := by
  refine ⟨fun pins s τ G D I hyp => ?_⟩
  have ok := I.ok
  have frames : X.A.frames = some (X.env :: X.outer) := by
    rw [ok.frames, st]
  refine wpAny_Try_except (wpAny_mono ((hb (wNam X.K i Wout D l) (X.pn ++ pins)
    (fun e s₁ => wpAny (model X.prog X.w) X.A (noteFrame e X.env) (fun _ s₂ => wpAny (model X.prog X.w) X.A (setFlight e none)
      (fun _ s₃ => wpAny (model X.prog X.w) X.A (handleBy e X.env (h₀ :: hds)) (SP X pins D) X.xe s₃) X.xe s₂) X.xe s₁)
    (fun u s' air => ?_) PassesOwn.looking).run [] s τ G D (I.toTry _) hyp) (fun f s1 z => ?_) (fun e s1 z => z))
  · obtain ⟨a, B, sI, pins', τ', G', cls, d, rfl, J', below, up, sky, new, os, bare, wish⟩ := air
    have J : Inv X pins τ' G' sI := J'.ofTry ok
    have sky1 : Sky B (X.env :: X.outer) a (Zc cls d) X.env.locals s'.heap := by
      rw [← st]
      exact sky
    show wpAny (model X.prog X.w) X.A (noteFrame (.ref a) X.env) _ _ _
    refine Sky.land Zc.steady frames fr sky1 fun h3 fly up3 => ?_
    have J3 : Inv X pins τ' G' { s' with heap := h3 } := J.landed below fly.1 (up.trans up3) os bare
    obtain ⟨oe, vs, ge, ze, de⟩ := fly.there
    have noFrame : a ∉ frs (X.env :: X.outer) := fun m => by
      obtain ⟨_, o', g', other⟩ := fly.2.2.1.mem m
      rw [ge] at g'
      cases g'
      exact other _ de
    have noLoc : a ≠ X.env.locals := fun z => noFrame (List.mem_filterMap.mpr ⟨X.env, List.mem_cons_self, by rw [fr, z]⟩)
    have noOut : a ∉ X.fs := fun m => by
      obtain ⟨e, me, q⟩ := List.mem_filterMap.mp m
      exact noFrame (List.mem_filterMap.mpr ⟨e, List.mem_cons_of_mem _ me, q⟩)
    have S3 := J3.suite ge de new noLoc noOut
    have go : ∀ {hs : List ExceptHandler} {ll : List (Value × (Addr → Value → Option Addr → TS))}, HdsN X n hs ll → wNam X.K i Wout D ll cls d τ' G' → wpAny (model X.prog X.w) X.A (handleBy (.ref a) X.env hs) (SP X pins D) X.xe { s' with heap := h3 } := by
      intro hs ll hk
      induction hk with
      | nil =>
        intro wish
        refine wpAny_handleBy_nil ?_
        obtain ⟨_, _, _, oe', vs', T, oT, tt, ge', _, de', g1, _⟩ := id fly
        have out : wpAny (model X.prog X.w) X.A (setFlight (.ref a) X.env.frame) (fun _ s4 => wpAny (model X.prog X.w) X.A (throw (.ref a) : Sem Flow) (SP X pins D) X.xe s4) X.xe { s' with heap := h3 } := by
          rw [fr]
          exact HandSPX.setFlight_upZ fly fun h4 hh4 up4 => wpAny_throw (tk _ _ ⟨a, B, sI, pins, τ', G', cls, d, rfl, J, below, (up.trans up3).trans up4, .inr (.inr (by rw [st]; exact hh4)), new, os, bare, wish⟩)
        unfold PySem.passOn
        refine wpAny_bind (wpAny_field ge' de' g1 ?_)
        rw [if_neg (show ¬ (Value.ref T == Value.none) = true from by simp)]
        first
          | exact wpAny_bind (wpAny_pure (wpAny_bind out))
          | exact wpAny_bind out
      | @cons x k ts st0 sts p1 p2 more ll nm su r ih =>
        intro wish
        obtain ⟨b, decided, yes, no⟩ := wish
        refine wpAny_handleBy_cons (codeAny_handlers_test ?_) (by intro q; cases q)
        have tyOf : PySem.W.Looks (model X.prog X.w) h3 (typeOf (.ref a)) cls := fun A Q E s k q => wpAny_typeOf_ref (k _ _ ge) (by rw [ze.1]; exact q)
        have named : ∀ {Q : Value → Shared → Prop} {E : Value → Shared → Prop}, Q k { s' with heap := h3 } → wpAny (model X.prog X.w) (X.A.mark (some (.ref a))) (eval (.Name x p1) X.env) Q E { s' with heap := h3 } := fun {Q E} q => by
          obtain ⟨g, dbg, m | ⟨m, v, nn⟩⟩ := nm
          · exact ld_glob (X := X.suite a ((a, oe) :: (X.pn ++ pins))) S3 g m q dbg
          · exact ld_blt (X := X.suite a ((a, oe) :: (X.pn ++ pins))) S3 g m v q nn dbg
        refine named ((PySem.W.exm_one (M := model X.prog X.w) (J3.kIn) tyOf decided).here ?_)
        cases b with
        | false =>
          show wpAny _ X.A (handleBy (.ref a) X.env more) _ _ _
          exact ih (no rfl)
        | true =>
          refine codeAny_handlers_suite_as (HandSPX.lands_againZ fly fun h4 fly4 up4 => ?_)
          have J4 : Inv X pins τ' G' { s' with heap := h4 } := J.landed below fly4.1 ((up.trans up3).trans up4) os bare
          obtain ⟨oe4, vs4, ge4, ze4, de4⟩ := fly4.there
          refine store_ok (X := X.suite a ((a, oe4) :: (X.pn ++ pins))) (v := .ref a) (J4.suite ge4 de4 new noLoc noOut) nd at_ (.inl lc) rfl (fun s5 S5 => ?_) (.inr lc)
          refine wpAny_mono ((su a oe4 cls d (X.pn ++ pins) ze4 ⟨_, de4⟩).run [] s5 _ G' _ S5 (yes rfl a new)) (fun f s6 z => ?_) (fun _ _ z => z.elim)
          have away : ∀ {τ6 : L2.St} {G6 : Hp} {Q : Shared → Prop}, Inv (X.suite a ((a, oe4) :: (X.pn ++ pins))) [] τ6 G6 s6 → (∀ s7, Inv X pins (τ6.set i none) G6 s7 → Q s7) →
              wpAny (model X.prog X.w) X.A (do bindName X.env n .none; unbindBehindTheSuite X.env n p2) (fun _ s7 => Q s7) X.xe s6 := fun S6 hq => gone_ok (S6.unsuite ok) nd at_ lc hq
          cases f with
          | next =>
            obtain ⟨τ6, G6, S6, q6⟩ := z
            exact away S6 fun s7 J7 => ⟨_, _, J7, q6⟩
          | brk =>
            obtain ⟨τ6, G6, S6, q6⟩ := z
            exact away S6 fun s7 J7 => ⟨_, _, J7, q6⟩
          | cont =>
            obtain ⟨τ6, G6, S6, q6⟩ := z
            exact away S6 fun s7 J7 => ⟨_, _, J7, q6⟩
          | ret u =>
            obtain ⟨v6, τ6, G6, S6, r6, q6⟩ := z
            exact away S6 fun s7 J7 => ⟨_, _, _, J7, r6, q6⟩
    exact go hh wish
  · cases f with
    | next =>
      obtain ⟨τ', G', J', q⟩ := z
      exact wpAny_execs_nil ⟨τ', G', J'.ofTry ok, q⟩
    | brk =>
      obtain ⟨τ', G', J', q⟩ := z
      exact ⟨τ', G', J'.ofTry ok, q⟩
    | cont =>
      obtain ⟨τ', G', J', q⟩ := z
      exact ⟨τ', G', J'.ofTry ok, q⟩
    | ret u =>
      obtain ⟨v, τ', G', J', r, q⟩ := z
      exact ⟨v, τ', G', J'.ofTry ok, r, q⟩
end
end Clo

set_option Elab.async false
set_option linter.all false
set_option maxRecDepth 100000
namespace My
open PySem L2
/-- a written dict with text keys, all of it: at a, these entries -/
structure SDict (K : PySem.W.Frag) (w : World) (a : Addr) (kvs : List (Key × V)) : Prop where
  ex : ∃ (es : Array DictEntry) (n : Nat), K.lookup a = some ⟨.type "dict", none, .dict es n, #[]⟩ ∧ PySem.W.KeysLit w.params es.toList ∧ (a == sysModules) = false ∧
    Paired (fun (e : DictEntry) (kv : Key × V) => ∃ x t, e.key = .str x t ∧ kv.1 = .inr x ∧ RelV kv.2 e.val) es.toList kvs ∧ (kvs.map (·.1)).Nodup ∧ kvs.length ≤ sizeLine
theorem sdict_pairs {P : Program} {w : World} : ∀ {es : List DictEntry} {kvs : List (Key × V)}, Paired (fun (e : DictEntry) (kv : Key × V) => ∃ x t, e.key = .str x t ∧ kv.1 = .inr x ∧ RelV kv.2 e.val) es kvs →
    ∃ vs : List (Key × Value), PySem.Pairs (mixKind P w) es vs ∧ KV kvs vs ∧ vs.map (·.1) = kvs.map (·.1)
  | _, _, .nil => ⟨[], .nil, .nil, rfl⟩
  | _, _, @Paired.cons _ _ _ e kv es kvs h t => by
    obtain ⟨x, tk, e1, e2, e3⟩ := h
    obtain ⟨vs, h1, h2, h3⟩ := sdict_pairs (P := P) (w := w) t
    refine ⟨(.inr x, e.val) :: vs, .cons ?_ rfl h1, .cons ⟨e2, e3⟩ h2, by rw [List.map_cons, List.map_cons, h3, e2]⟩
    show keyIs (.inr x) e.key = true
    rw [e1]
    exact keyIs_str x tk
theorem SDict.at {K : PySem.W.Frag} {P : Program} {w : World} {a : Addr} {kvs : List (Key × V)} (D : SDict K w a kvs) {h : Heap} (X : K.In h) : kvs.length ≤ sizeLine ∧ (a == sysModules) = false ∧ ∃ vs, KV kvs vs ∧ h.DictOf (mixKind P w) a vs := by
  obtain ⟨es, n, hl, hk, lo, hp, nd, sz⟩ := D.ex
  obtain ⟨vs, h1, h2, h3⟩ := sdict_pairs (P := P) (w := w) hp
  refine ⟨sz, lo, vs, h2, _, es, n, X _ _ hl, ⟨rfl, rfl, rfl⟩, rfl, fun e he => ?_, h1, by rw [h3]; exact nd⟩
  obtain ⟨x, t, e1, e2⟩ := hk.all e (Array.mem_toList_iff.mpr he)
  refine ⟨.inr x, ?_, e2⟩
  show keyIs (.inr x) e.key = true
  rw [e1]
  exact keyIs_str x t
/-- dict(d), d a written dict: a copy -/
theorem call_dictS {X : Cx} : CallR X (.type "dict") (fun xs H Q => ∃ (a : Addr) (kvs : List (Key × V)), xs = [.ref a] ∧ SDict X.K X.w a kvs ∧ ∀ p, H p = none → Q (.ref p) (upd H p (.dK kvs))) := by
  intro pins s σ H xs us Q I r q
  obtain ⟨a, kvs, ex, hd, q⟩ := q
  subst ex
  obtain ⟨u, eu, rx⟩ := vals1 r
  subst eu
  cases rx
  obtain ⟨z, lo, vs, rel, dd⟩ := hd.at (P := X.prog) I.kIn
  refine kt_call_dict lo dd (by rw [← rel.length]; exact z) fun h' d' hs => ?_
  have hm : (s.heap.objs.size == sysModules) = false := beq_eq_false_iff_ne.mpr (Nat.ne_of_gt I.big)
  exact ⟨.ref s.heap.objs.size, upd H s.heap.objs.size (.dK kvs), I.laid (t' := s.toks) (fun b u e => (hs.2 b (Nat.ne_of_lt (Heap.lt_size e))).trans (Heap.get?_push_of_some _ e)) (Nat.le_refl _)
    (show ObjOk X.prog X.w _ _ _ (.dK kvs) from ⟨z, hm, vs, rel, d'⟩), rfl, q _ (I.hok.fresh (Nat.le_refl _))⟩
end My

set_option Elab.async false
set_option linter.all false
set_option maxRecDepth 100000
namespace My
open PySem L2
/-! ### two values that are the same in all their parts -/
def flatv : V → Bool
  | .non => true
  | .bl _ => true
  | .int _ => true
  | .str _ => true
  | _ => false
def Tw (K : PySem.W.Frag) (H : Hp) : Nat → V → V → Prop
  | 0, _, _ => False
  | n + 1, v, u => (v = u ∧ flatv v = true) ∨ (∃ (a : Addr) (kvs : List (Key × V)), v = .ref a ∧ u = .ref a ∧ H a = some (.dK kvs) ∧ (kvs.map (·.1)).Nodup ∧ ∀ p ∈ kvs, flatB p.2 = true) ∨
    (∃ (a b : Addr) (xs ys : List V), v = .ref a ∧ u = .ref b ∧ SqT K H a xs ∧ SqT K H b ys ∧ xs.length ≤ 1000 ∧ Paired (Tw K H n) xs ys) ∨
    (∃ (a b : Addr) (xs ys : List V), v = .ref a ∧ u = .ref b ∧ SqL K H a xs ∧ SqL K H b ys ∧ xs.length ≤ 1000 ∧ Paired (Tw K H n) xs ys)
theorem paired_imp {α β : Type} {r s : α → β → Prop} (h : ∀ x y, r x y → s x y) : ∀ {xs : List α} {ys : List β}, Paired r xs ys → Paired s xs ys
  | _, _, .nil => .nil
  | _, _, .cons a b => .cons (h _ _ a) (paired_imp h b)
theorem paired_at {α β : Type} {r : α → β → Prop} : ∀ {xs : List α} {ys : List β} {i : Nat} {x : α} {y : β}, Paired r xs ys → xs[i]? = some x → ys[i]? = some y → r x y
  | _, _, _, _, _, .nil, e, _ => by simp at e
  | _, _, 0, _, _, .cons a _, e1, e2 => by
    simp at e1 e2
    rw [← e1, ← e2]
    exact a
  | _, _, i + 1, _, _, .cons _ b, e1, e2 => paired_at (i := i) b (by simpa using e1) (by simpa using e2)
variable {K : PySem.W.Frag}
theorem tw_same {H H' : Hp} (s : Same H H') : ∀ {n : Nat} {v u : V}, Tw K H n v u → Tw K H' n v u
  | 0, _, _, h => h
  | n + 1, v, u, h => by
    rcases h with h | ⟨a, kvs, e1, e2, ha, h1, h2⟩ | ⟨a, b, xs, ys, e1, e2, sa, sb, hl, hp⟩ | ⟨a, b, xs, ys, e1, e2, sa, sb, hl, hp⟩
    · exact .inl h
    · exact .inr (.inl ⟨a, kvs, e1, e2, s _ _ ha, h1, h2⟩)
    · exact .inr (.inr (.inl ⟨a, b, xs, ys, e1, e2, seqT_same s sa, seqT_same s sb, hl, paired_imp (fun _ _ => tw_same s) hp⟩))
    · exact .inr (.inr (.inr ⟨a, b, xs, ys, e1, e2, s.seq sa, s.seq sb, hl, paired_imp (fun _ _ => tw_same s) hp⟩))
theorem tw_mono {H : Hp} : ∀ {n m : Nat} {v u : V}, n ≤ m → Tw K H n v u → Tw K H m v u
  | 0, _, _, _, _, h => h.elim
  | n + 1, 0, _, _, hm, _ => absurd hm (by omega)
  | n + 1, m + 1, v, u, hm, h => by
    have le : n ≤ m := by omega
    rcases h with h | h | ⟨a, b, xs, ys, e1, e2, sa, sb, hl, hp⟩ | ⟨a, b, xs, ys, e1, e2, sa, sb, hl, hp⟩
    · exact .inl h
    · exact .inr (.inl h)
    · exact .inr (.inr (.inl ⟨a, b, xs, ys, e1, e2, sa, sb, hl, paired_imp (fun _ _ => tw_mono le) hp⟩))
    · exact .inr (.inr (.inr ⟨a, b, xs, ys, e1, e2, sa, sb, hl, paired_imp (fun _ _ => tw_mono le) hp⟩))
theorem widAll_cons {d : PyData} {ds : List PyData} (h : widAll (d :: ds) = true) : widD d = true ∧ widAll ds = true := by
  unfold widAll at h
  exact Bool.and_eq_true_iff.mp h
mutual
theorem tw_dp {H : Hp} : ∀ (D : PyData) (v u : V), widD D = true → Dp K H v D → Dp K H u D → Tw K H (D.depth + 1) v u
  | .none, _, _, _, h, g => by cases h; cases g; exact .inl ⟨rfl, rfl⟩
  | .bool b, _, _, _, h, g => by cases h; cases g; exact .inl ⟨rfl, rfl⟩
  | .int i, _, _, _, h, g => by cases h; cases g; exact .inl ⟨rfl, rfl⟩
  | .str x, _, _, _, h, g => by cases h; cases g; exact .inl ⟨rfl, rfl⟩
  | .list ds, _, _, s, h, g => by
    unfold widD at s
    obtain ⟨s1, s2⟩ := Bool.and_eq_true_iff.mp s
    cases h with
    | lst hs ha =>
    cases g with
    | lst gs ga =>
      simp only [PyData.depth]
      exact .inr (.inr (.inr ⟨_, _, _, _, rfl, rfl, hs, gs, by rw [dpAll_len ha]; exact of_decide_eq_true s1, tw_dpAll ds _ _ s2 ha ga⟩))
  | .tuple ds, _, _, s, h, g => by
    unfold widD at s
    obtain ⟨s1, s2⟩ := Bool.and_eq_true_iff.mp s
    cases h with
    | tup hs ha =>
    cases g with
    | tup gs ga =>
      simp only [PyData.depth]
      exact .inr (.inr (.inl ⟨_, _, _, _, rfl, rfl, hs, gs, by rw [dpAll_len ha]; exact of_decide_eq_true s1, tw_dpAll ds _ _ s2 ha ga⟩))
  | .dict _, _, _, _, h, _ => by cases h
theorem tw_dpAll {H : Hp} : ∀ (ds : List PyData) (xs ys : List V), widAll ds = true → DpAll K H xs ds → DpAll K H ys ds → Paired (Tw K H (PyData.depthAll ds + 1)) xs ys
  | [], _, _, _, h, g => by cases h; cases g; exact .nil
  | d :: ds, _, _, s, h, g => by
    obtain ⟨s1, s2⟩ := widAll_cons s
    cases h with
    | cons h1 h2 =>
    cases g with
    | cons g1 g2 =>
      have a := tw_dp d _ _ s1 h1 g1
      have b := tw_dpAll ds _ _ s2 h2 g2
      simp only [PyData.depthAll]
      exact .cons (tw_mono (by omega) a) (paired_imp (fun _ _ => tw_mono (by omega)) b)
end

/-! ### rules -/
/-- of a kind, wherever all stays -/
structure TyS (K : PySem.W.Frag) (H : Hp) (v : V) (g : String) : Prop where
  same : ∀ {H'}, Same H H' → TyX K H' v (.type g)
theorem tyT {H : Hp} {a : Addr} {xs : List V} (h : SqT K H a xs) : TyS K H (.ref a) "tuple" := ⟨fun s => by
  rcases seqT_same s h with (hs | ⟨o, hs⟩) | ⟨o, its, n, lk, c, _⟩
  · exact .base (.tup hs)
  · exact .fTuple hs
  · exact .kTuple lk c⟩
theorem tyL {H : Hp} {a : Addr} {xs : List V} (h : SqL K H a xs) : TyS K H (.ref a) "list" := ⟨fun s => by
  rcases s.seq h with (hs | ⟨o, hs⟩) | ⟨o, its, n, lk, c, _⟩
  · exact .base (.lst hs)
  · exact .base (.frz hs)
  · exact .kList lk c⟩
theorem op_orR {X : Cx} {f : Value → Value → Sem Value} {r1 r2 : R2} (a : OpR X f r1) (b : OpR X f r2) : OpR X f (fun x y H Q => r1 x y H Q ∨ r2 x y H Q) := fun pins s σ H x y v u Q I rx ry h =>
  h.elim (a pins s σ H x y v u Q I rx ry) (b pins s σ H x y v u Q I rx ry)
theorem kit2 {g : String} {b1 b2 : Bool} (h1 : kitB g "tuple" = some b1) (h2 : kitB g "list" = some b2) : PySem.W.kitAny K (.type g) [.type "tuple", .type "list"] = some (b1 || b2) := by
  cases b1 with
  | true => exact kitAny_cons (kit_ty h1) (fun z => nomatch z) fun _ => rfl
  | false =>
    refine kitAny_cons (kit_ty h1) (fun _ => ?_) fun z => nomatch z
    cases b2 with
    | true => exact kitAny_cons (kit_ty h2) (fun z => nomatch z) fun _ => rfl
    | false => exact kitAny_cons (kit_ty h2) (fun _ => kitAny_nil) fun z => nomatch z
theorem all_tt (n : Nat) : (List.replicate n true).all id = true := by
  rw [List.all_eq_true]
  intro x h
  rw [List.eq_of_mem_replicate h]
  rfl
theorem same_at {H H' : Hp} {D : Addr} {o : HO} (s : Same H H') (n : H D = none) : Same H (upd H' D o) := fun c u e => by
  rw [upd_ne (ne_of_none e n)]
  exact s c u e
theorem kTs : PySem.W.kitAny K (.type "tuple") [.type "tuple", .type "list"] = some true := kit2 (g := "tuple") (b1 := true) (b2 := false) (by decide +kernel) (by decide +kernel)
theorem kLs : PySem.W.kitAny K (.type "list") [.type "tuple", .type "list"] = some true := kit2 (g := "list") (b1 := false) (b2 := true) (by decide +kernel) (by decide +kernel)
theorem kTT : PySem.W.kitOne K (.type "tuple") (.type "tuple") = some true := kit_ty (by decide +kernel)
theorem kTL : PySem.W.kitOne K (.type "tuple") (.type "list") = some false := kit_ty (by decide +kernel)
theorem kLT : PySem.W.kitOne K (.type "list") (.type "tuple") = some false := kit_ty (by decide +kernel)
theorem kLL : PySem.W.kitOne K (.type "list") (.type "list") = some true := kit_ty (by decide +kernel)
/-- the tuples that zip goes over, their items in new pairs -/
theorem walk_zipT {a b : Addr} {xs ys : List V} (hl : xs.length = ys.length) : Walk (RZ.ItzT K a b) xs.length (fun H => SqT K H a xs ∧ SqT K H b ys) (YPair (fun i => xs[i]?) (fun i => ys[i]?)) := by
  refine ⟨fun i H hi q => ?_, fun H q => ⟨xs, ys, q.1, q.2, .inl (Nat.le_refl _)⟩, fun i H v H' _ q y => ?_⟩
  · exact ⟨xs, ys, xs[i], ys[i]'(by omega), q.1, q.2, List.getElem?_eq_getElem hi, List.getElem?_eq_getElem (by omega)⟩
  · obtain ⟨T, x, z, e1, n, e2, f1, f2⟩ := y
    exact ⟨T, x, z, e1, n, e2, f1 xs q.1, f2 ys q.2⟩
abbrev s_law_same : Stmt := top 50
abbrev N_law_same : List Str := ["_law_told", "_law_due", "_law_one", "_law_other"]
abbrev P_law_same : List Str := ["_law_told", "_law_due"]
theorem sc_law_same : FnScope N_law_same P_law_same (defScope s_law_same) := ⟨rfl, rfl, rfl, by decide +kernel, rfl, by decide +kernel, by decide +kernel⟩
def spSame (K : PySem.W.Frag) (n : Nat) : Sp := fun vs H Q _ => ∃ v u : V, vs = [v, u] ∧ Tw K H n v u ∧ ∀ H', Same H H' → Q (.bl true) H'
section
variable {P : Program} {w : World} {mg : Str → Option Value} {base : Heap} {f : Addr} {fd : FuncData}
theorem ok_law_same {n : Nat} (T : Txt K mg) (zip : mg "zip" = none) (F : Fun K "_law_same" "_law_same" s_law_same f fd) (C_law_same : Cal P w K mg base "_law_same" (1 + n) P_law_same (spSame K n)) :
    FnOk P w K mg base CX0 (1 + n + 1) f fd P_law_same (spSame K (n + 1)) := by
  refine F.ok sc_law_same (fun vs H Q E h => ?_) (fun cdv A outer s H vs Q E hr h => ?_)
  · obtain ⟨v, u, rfl, _⟩ := h
    rfl
  obtain ⟨v, u, rfl, h, q⟩ := h
  have hu : A.units + 3 < cLine := by
    have := hr.un
    exact Nat.lt_of_le_of_lt (by show A.units + 3 ≤ A.units + 3 + 16 * (1 + n) + 200; omega) this
  refine ⟨_, (pss_cons (ps_if (pt_val (pe_callB call_isiT rfl T.isinstance (by decide +kernel) (pa_cons (pv 1) (pa_cons (pe_tup (pa_cons (pe_bltn (v := .ty "tuple") rfl T.tuple (by decide +kernel) rfl) (pa_cons (pe_bltn (v := .ty "list") rfl T.list (by decide +kernel) rfl) pa_nil))) pa_nil))))
    (pss_cons (ps_if (PW.pt (pw_or (pt_cmpR op_ne (pe_callB call_isi rfl T.isinstance (by decide +kernel) (pa_cons (pv 0) (pa_cons (pe_bltn (v := .ty "tuple") rfl T.tuple (by decide +kernel) rfl) pa_nil))) (pe_callB call_isi rfl T.isinstance (by decide +kernel) (pa_cons (pv 1) (pa_cons (pe_bltn (v := .ty "tuple") rfl T.tuple (by decide +kernel) rfl) pa_nil))) (nomark _)) (pw_or1 (pt_cmpR op_ne (pe_callB call_isi rfl T.isinstance (by decide +kernel) (pa_cons (pv 0) (pa_cons (pe_bltn (v := .ty "list") rfl T.list (by decide +kernel) rfl) pa_nil))) (pe_callB call_isi rfl T.isinstance (by decide +kernel) (pa_cons (pv 1) (pa_cons (pe_bltn (v := .ty "list") rfl T.list (by decide +kernel) rfl) pa_nil))) (nomark _)))))
      (pss_one (ps_ret pe_bl))
      pss_nil)
    (pss_one (ps_ret (pe_and (pe_cmpR op_eq (pe_callB call_len rfl T.len (by decide +kernel) (pa_cons (pv 0) pa_nil)) (pe_callB call_len rfl T.len (by decide +kernel) (pa_cons (pv 1) pa_nil)) (nomark _)) (pe_one (pe_callB (cr_all rfl) rfl T.all (by decide +kernel) (pa_cons (pe_lc (own := [("_law_one", 2), ("_law_other", 3)]) (g := gTup K 2 (gCons (gName 2) (gCons (gName 3) gNil))) rfl sc_law_same.nd (RZ.pi_zipA rfl zip (pa_cons (pv 0) (pa_cons (pv 1) pa_nil))) (blkOk_by (own := [("_law_one", 2), ("_law_other", 3)]) (N := N_law_same) (sc := defScope s_law_same) (by decide +kernel)) (fun _ _ _ _ _ => (pg_tup rfl (pgs_cons (pg_name (i := 2) sc_law_same.nd rfl (Or.inl rfl)) (pgs_cons (pg_name (i := 3) sc_law_same.nd rfl (Or.inl rfl)) pgs_nil)))) (fun _ _ _ _ _ => pts_nil) (fun _ _ _ _ _ => (pe_callC C_law_same hr (pa_cons (pv 2) (pa_cons (pv 3) pa_nil))))) pa_nil)))))))
    pss_nil)
  (pss_one (ps_ret (pe_and (pe_cmpR op_eq (pe_callB call_isi rfl T.isinstance (by decide +kernel) (pa_cons (pv 0) (pa_cons (pe_bltn (v := .ty "bool") rfl T.bool (by decide +kernel) rfl) pa_nil))) (pe_callB call_isi rfl T.isinstance (by decide +kernel) (pa_cons (pv 1) (pa_cons (pe_bltn (v := .ty "bool") rfl T.bool (by decide +kernel) rfl) pa_nil))) (nomark _)) (pe_one (pe_cmpR (op_orR op_eq (op_eq_dict hu)) (pv 0) (pv 1) (nomark _))))))), ?_⟩
  have kinds : (∃ (g : String) (b : Bool), kitB g "tuple" = some false ∧ kitB g "list" = some false ∧ kitB g "bool" = some b ∧ (∀ H', Same H H' → TyX K H' v (.type g)) ∧ (∀ H', Same H H' → TyX K H' u (.type g)) ∧
      ((scal v u = true ∧ v = u) ∨ ∃ (a : Addr) (kvs : List (Key × V)), v = .ref a ∧ u = .ref a ∧ H a = some (.dK kvs) ∧ (kvs.map (·.1)).Nodup ∧ ∀ p ∈ kvs, flatB p.2 = true)) ∨
      (∃ (a b : Addr) (xs ys : List V), v = .ref a ∧ u = .ref b ∧ SqT K H a xs ∧ SqT K H b ys ∧ xs.length ≤ 1000 ∧ Paired (Tw K H n) xs ys) ∨
      (∃ (a b : Addr) (xs ys : List V), v = .ref a ∧ u = .ref b ∧ SqL K H a xs ∧ SqL K H b ys ∧ xs.length ≤ 1000 ∧ Paired (Tw K H n) xs ys) := by
    rcases h with ⟨rfl, fl⟩ | ⟨a, kvs, rfl, rfl, ha, h1, h2⟩ | h | h
    · refine .inl ?_
      cases v with
      | non => exact ⟨"NoneType", false, by decide +kernel, by decide +kernel, by decide +kernel, fun _ _ => .base .non, fun _ _ => .base .non, .inl ⟨rfl, rfl⟩⟩
      | bl b => exact ⟨"bool", true, by decide +kernel, by decide +kernel, by decide +kernel, fun _ _ => .base (.bl b), fun _ _ => .base (.bl b), .inl ⟨rfl, rfl⟩⟩
      | int b => exact ⟨"int", false, by decide +kernel, by decide +kernel, by decide +kernel, fun _ _ => .base (.int b), fun _ _ => .base (.int b), .inl ⟨rfl, rfl⟩⟩
      | str b => exact ⟨"str", false, by decide +kernel, by decide +kernel, by decide +kernel, fun _ _ => .base (.str b), fun _ _ => .base (.str b), .inl ⟨rfl, rfl⟩⟩
      | _ => cases fl
    · exact .inl ⟨"dict", false, by decide +kernel, by decide +kernel, by decide +kernel, fun _ s => .base (.dK (s _ _ ha)), fun _ s => .base (.dK (s _ _ ha)), .inr ⟨a, kvs, rfl, rfl, ha, h1, h2⟩⟩
    · exact .inr (.inl h)
    · exact .inr (.inr h)
  refine ⟨u, rfl, by show 2 ≤ sizeLine; decide, fun tp np => ?_⟩
  have s1 := same_new np (.tup [.ty "tuple", .ty "list"])
  rcases kinds with ⟨g, b, h1, h2, h3, tv, tu, he⟩ | ⟨a, b, xs, ys, rfl, rfl, sa, sb, hl, hp⟩ | ⟨a, b, xs, ys, rfl, rfl, sa, sb, hl, hp⟩
  · refine ⟨u, tp, [.ty "tuple", .ty "list"], .type g, [.type "tuple", .type "list"], false, rfl, upd_same, .cons (.ty _) (.cons (.ty _) .nil), tu _ s1, kit2 h1 h2, false, rfl, ?_⟩
    refine ⟨v, rfl, _, _, _, _, _, rfl, .ty "bool", tv _ s1, kit_ty h3, u, rfl, _, _, _, _, _, rfl, .ty "bool", tu _ s1, kit_ty h3, rfl, ?_⟩
    rw [decide_eq_true rfl]
    refine ⟨true, rfl, iteT ⟨v, rfl, u, rfl, ?_⟩⟩
    rcases he with ⟨sc, rfl⟩ | ⟨a, kvs, rfl, rfl, ha, nd, fl⟩
    · refine .inl ⟨sc, ?_⟩
      rw [decide_eq_true rfl]
      exact q _ s1
    · exact .inr ⟨a, a, kvs, rfl, rfl, s1 _ _ ha, s1 _ _ ha, nd, fl, q _ s1⟩
  · have ta := tyT sa
    have tb := tyT sb
    refine ⟨_, tp, [.ty "tuple", .ty "list"], .type "tuple", [.type "tuple", .type "list"], true, rfl, upd_same, .cons (.ty _) (.cons (.ty _) .nil), tb.same s1, kTs, true, rfl, ?_⟩
    refine ⟨_, rfl, _, _, _, _, _, rfl, .ty "tuple", ta.same s1, kTT, _, rfl, _, _, _, _, _, rfl, .ty "tuple", tb.same s1, kTT, rfl, false, rfl, ?_⟩
    refine ⟨_, rfl, _, _, _, _, _, rfl, .ty "list", ta.same s1, kTL, _, rfl, _, _, _, _, _, rfl, .ty "list", tb.same s1, kTL, rfl, false, rfl, ?_⟩
    have ll := Paired.length hp
    refine ⟨_, rfl, _, _, rfl, .inr ⟨xs, seqT_same s1 sa, rfl⟩, _, rfl, _, _, rfl, .inr ⟨ys, seqT_same s1 sb, rfl⟩, rfl, ?_⟩
    rw [ll, decide_eq_true rfl]
    refine ⟨true, rfl, iteT ?_⟩
    refine ⟨_, rfl, _, rfl, a, b, xs, ys, rfl, .inr ⟨seqT_same s1 sa, seqT_same s1 sb, fun D nD => ?_⟩⟩
    have s2 := s1.trans (same_new nD (.lst []))
    have nH : H D = none := by
      cases e : H D with
      | none => rfl
      | some o => rw [s1 _ _ e] at nD; cases nD
    refine lc_it (walk_zipT ll) (fun i H' => Same H H' ∧ H' D = some (.lst ((List.replicate i true).map V.bl))) ⟨s2, upd_same⟩ (fun i H' _ p => ⟨seqT_same p.1 sa, seqT_same p.1 sb⟩) (fun i x H1 H2 hi p y => ?_) fun H' p => ?_
    · obtain ⟨t, y1, y2, rfl, nt, rfl, e1, e2⟩ := y
      have s3 := p.1.trans (same_new nt (.tup [y1, y2]))
      have td : t ≠ D := fun z => by
        rw [z, p.2] at nt
        cases nt
      refine ⟨t, [y1, y2], rfl, .inl (.inl upd_same), rfl, y1, [y2], rfl, y2, [], rfl, rfl, rfl, ?_⟩
      refine ⟨_, rfl, _, rfl, y1, y2, rfl, tw_same s3 (paired_at hp e1 e2), fun H4 s4 => ⟨_, s4 D _ (by rw [upd_ne (Ne.symm td)]; exact p.2), small1000 (by rw [List.length_map, List.length_replicate]; omega), same_at (s3.trans s4) nH, ?_⟩⟩
      rw [upd_same, List.replicate_succ', List.map_append]
      rfl
    · refine ⟨D, List.replicate xs.length true, rfl, SqL.of p.2, ?_⟩
      rw [all_tt]
      exact q H' p.1
  · have ta := tyL sa
    have tb := tyL sb
    refine ⟨_, tp, [.ty "tuple", .ty "list"], .type "list", [.type "tuple", .type "list"], true, rfl, upd_same, .cons (.ty _) (.cons (.ty _) .nil), tb.same s1, kLs, true, rfl, ?_⟩
    refine ⟨_, rfl, _, _, _, _, _, rfl, .ty "tuple", ta.same s1, kLT, _, rfl, _, _, _, _, _, rfl, .ty "tuple", tb.same s1, kLT, rfl, false, rfl, ?_⟩
    refine ⟨_, rfl, _, _, _, _, _, rfl, .ty "list", ta.same s1, kLL, _, rfl, _, _, _, _, _, rfl, .ty "list", tb.same s1, kLL, rfl, false, rfl, ?_⟩
    have ll := Paired.length hp
    refine ⟨_, rfl, _, _, rfl, .inl ⟨xs, s1.seq sa, rfl⟩, _, rfl, _, _, rfl, .inl ⟨ys, s1.seq sb, rfl⟩, rfl, ?_⟩
    rw [ll, decide_eq_true rfl]
    refine ⟨true, rfl, iteT ?_⟩
    refine ⟨_, rfl, _, rfl, a, b, xs, ys, rfl, .inl ⟨s1.seq sa, s1.seq sb, fun D nD => ?_⟩⟩
    have s2 := s1.trans (same_new nD (.lst []))
    have nH : H D = none := by
      cases e : H D with
      | none => rfl
      | some o => rw [s1 _ _ e] at nD; cases nD
    refine lc_it (walk_zip (by rw [← ll, Nat.min_self])) (fun i H' => Same H H' ∧ H' D = some (.lst ((List.replicate i true).map V.bl))) ⟨s2, upd_same⟩ (fun i H' _ p => ⟨p.1.seq sa, p.1.seq sb⟩) (fun i x H1 H2 hi p y => ?_) fun H' p => ?_
    · obtain ⟨t, y1, y2, rfl, nt, rfl, e1, e2⟩ := y
      have s3 := p.1.trans (same_new nt (.tup [y1, y2]))
      have td : t ≠ D := fun z => by
        rw [z, p.2] at nt
        cases nt
      refine ⟨t, [y1, y2], rfl, .inl (.inl upd_same), rfl, y1, [y2], rfl, y2, [], rfl, rfl, rfl, ?_⟩
      refine ⟨_, rfl, _, rfl, y1, y2, rfl, tw_same s3 (paired_at hp e1 e2), fun H4 s4 => ⟨_, s4 D _ (by rw [upd_ne (Ne.symm td)]; exact p.2), small1000 (by rw [List.length_map, List.length_replicate]; omega), same_at (s3.trans s4) nH, ?_⟩⟩
      rw [upd_same, List.replicate_succ', List.map_append]
      rfl
    · refine ⟨D, List.replicate xs.length true, rfl, SqL.of p.2, ?_⟩
      rw [all_tt]
      exact q H' p.1
end
end My

set_option Elab.async false
set_option linter.all false
set_option maxRecDepth 100000
namespace My
open PySem L2
/-! ### own errors with one field -/
def meth (i j : Nat) : Stmt := (C8.clsBody (top i)).getD j (.Pass ⟨0, 0, 0, 0⟩)
def spInit (K : PySem.W.Frag) (C : Addr) (fld : Str) : Sp := fun vs H Q _ => ∃ (a : Addr) (v : V), vs = [.ref a, v] ∧ H a = some (exo a C none) ∧ OexC K C ∧ PySem.W.findIn K (.ref C) fld = some none ∧
  ∀ dx, H dx = none → dx ≠ a → Q .non (upd (upd H dx (exd dx [(fld, v)])) a (exo a C (some dx)))
structure OneE (P : Program) (w : World) (K : PySem.W.Frag) (mg : Str → Option Value) (base : Heap) (x fld : Str) (C : Addr) where
  oex : OexC K C
  xf : XfC K C
  no : PySem.W.findIn K (.ref C) fld = some none
  g : mg x = some (.ref C)
  fI : Addr
  fd : FuncData
  iC : PySem.W.findIn K (.ref C) "__init__" = some (some (.ref fI))
  tI : PySem.W.typeIn K (.ref fI) = some (.type "function")
  b : Binds K fd ["self", fld] []
  F : FnOk P w K mg base CX0 1 fI fd ["self", fld] (spInit K C fld)
section
variable {P : Program} {w : World} {K : PySem.W.Frag} {mg : Str → Option Value} {base : Heap} {f : Addr} {fd : FuncData}
theorem sc_i2 : FnScope ["self", "value"] ["self", "value"] (defScope (meth 3 0)) := ⟨rfl, rfl, rfl, by decide +kernel, rfl, by decide +kernel, by decide +kernel⟩
theorem ok_i2 (C : Addr) (F : Fun K "__init__" "BadValue.__init__" (meth 3 0) f fd) : FnOk P w K mg base CX0 1 f fd ["self", "value"] (spInit K C "value") := by
  refine F.ok sc_i2 (fun vs H Q E h => ?_) (fun cdv A outer s H vs Q E hr h => ?_)
  · obtain ⟨a, v, rfl, _⟩ := h
    rfl
  obtain ⟨a, v, rfl, ea, T, no, q⟩ := h
  refine ⟨_, pss_one (ps_ost (pv 0) (pv 1)), ?_⟩
  exact ⟨v, rfl, _, rfl, a, C, rfl, T, no, .inl ⟨ea, fun dx n ne => q dx n ne⟩⟩
end
section
variable {X : Cx} {x fld : Str} {C : Addr}
theorem exo_exd_ne {e C' : Addr} {d : Option Addr} : True := trivial
/-- C(v): the error's dict d is new, all else is as it was -/
theorem mk_one {K : PySem.W.Frag} {H1 : Hp} {v : V} {Q : XK} (T : OexC K C) (no : PySem.W.findIn K (.ref C) fld = some none) (q : ∀ d, H1 d = none → Q (.ref C) (some d) (upd H1 d (.xd [(fld, v)]))) :
    [v].length ≤ 1000 ∧ ∀ a, H1 a = none → spInit K C fld (.ref a :: ([v] ++ [])) (upd H1 a (exo a C none))
      (fun r H2 => r = .non ∧ ∃ (d : Addr) (fs : List (Str × V)), H2 a = some (exo a C (some d)) ∧ H2 d = some (exd d fs) ∧ H1 d = none ∧ Q (.ref C) (some d) (upd (L2.del H2 a) d (.xd fs))) (fun _ _ _ => False) := by
  refine ⟨by show 1 ≤ 1000; decide, fun a na => ⟨a, v, rfl, upd_same, T, no, fun dx nx ne => ⟨rfl, dx, [(fld, v)], upd_same, by rw [upd_ne ne, upd_same], by rw [upd_ne ne] at nx; exact nx, ?_⟩⟩⟩
  have n1 : H1 dx = none := by
    rw [upd_ne ne] at nx
    exact nx
  have e : upd (L2.del (upd (upd (upd H1 a (exo a C none)) dx (exd dx [(fld, v)])) a (exo a C (some dx))) a) dx (.xd [(fld, v)]) = upd H1 dx (.xd [(fld, v)]) := by
    funext b
    by_cases h1 : b = dx
    · rw [h1, upd_same, upd_same]
    · rw [upd_ne h1, upd_ne h1]
      by_cases h2 : b = a
      · rw [h2, L2.del_same, na]
      · rw [L2.del_ne h2, upd_ne h2, upd_ne h1, upd_ne h2]
  rw [e]
  exact q dx n1
theorem pass00 {X : Cx} : Passes CX0 X (fun _ _ _ => False) := fun _ _ _ _ _ _ _ h => h.elim
/-- raise x(e) -/
theorem ps_raise1 {W : WX} {e : Expr} {te : TE} {p pos pos2 : Pos} {k : Nat} (O : OneE X.prog X.w X.K X.mg X.base x fld C) (hc : X.calm = true) (hr : Room (k + 2) X.A) (tk : Takes X W) (he : PE X e te) (hg : Gl X x := by rfl)
    (hdb : (x == ("__debug__" : Str)) = false := by decide) (h1 : starEach (e :: []) X.env = (false, eval e X.env) :: starEach [] X.env := by rfl) (h2 : (backTo pos (starEach [] X.env)).any (·.1) = false := by rfl) :
    PS X (.Raise (some (.Call (.Name x p) [e] [] pos)) none pos2) (fun _ σ H => tMkO C (spInit X.K C fld) [] (tCons te tNil) σ H fun cls d H' => W cls d σ H') :=
  ps_raise hc tk (pmk_oex O.oex O.iC O.tI O.F (hr.mono (by omega)) O.b .nil pass00 hg O.g (pa_cons he pa_nil h1) hdb h1 h2)
end

/-! ### what is raised, told -/
structure ErrT (K : PySem.W.Frag) (mg : Str → Option Value) where
  B : Addr
  N : Addr
  D : Addr
  M : Addr
  gB : mg "BadValue" = some (.ref B)
  gN : mg "NotAText" = some (.ref N)
  gD : mg "TooDeep" = some (.ref D)
  gM : mg "TooMany" = some (.ref M)
  xB : XfC K B
  xN : XfC K N
  xD : XfC K D
  xM : XfC K M
  nB : PySem.W.findIn K (.ref B) "value" = some none
  nN : PySem.W.findIn K (.ref N) "at" = some none
  nD : PySem.W.findIn K (.ref D) "most" = some none
  nM : PySem.W.findIn K (.ref M) "most" = some none
  BB : PySem.W.exmOne K (.ref B) (.ref B) = some true
  NB : PySem.W.exmOne K (.ref N) (.ref B) = some false
  NN : PySem.W.exmOne K (.ref N) (.ref N) = some true
  DB : PySem.W.exmOne K (.ref D) (.ref B) = some false
  DN : PySem.W.exmOne K (.ref D) (.ref N) = some false
  DD : PySem.W.exmOne K (.ref D) (.ref D) = some true
  MB : PySem.W.exmOne K (.ref M) (.ref B) = some false
  MN : PySem.W.exmOne K (.ref M) (.ref N) = some false
  MD : PySem.W.exmOne K (.ref M) (.ref D) = some false
  MM : PySem.W.exmOne K (.ref M) (.ref M) = some true
/-- of which class, in which field, told with which word -/
def ErrW {K : PySem.W.Frag} {mg : Str → Option Value} (T : ErrT K mg) (C : Addr) (fld word : Str) : Prop :=
  (C = T.B ∧ fld = "value" ∧ word = "value") ∨ (C = T.N ∧ fld = "at" ∧ word = "text") ∨ (C = T.D ∧ fld = "most" ∧ word = "deep") ∨ (C = T.M ∧ fld = "most" ∧ word = "many")
/-- as Does, whatever is wished beyond -/
def DoesM (P : Program) (w : World) (K : PySem.W.Frag) (mg : Str → Option Value) (base : Heap) (k : Nat) (v : V) (H : Hp) (Q : VK) (E : XK) : Prop :=
  ∃ (f : Addr) (fo : Obj) (tl : Hp → VK → XK → Prop), v = .ref f ∧ Clo.FnObj fo ∧ H f = some (Clo.Pin f fo) ∧ Clo.Act P w K mg base k f tl ∧
    ∀ (Q' : VK) (E' : XK), (∀ v H', Q v H' → Q' v H') → (∀ c d H', E c d H' → E' c d H') → tl H Q' E'
theorem DoesM.does {P : Program} {w : World} {K : PySem.W.Frag} {mg : Str → Option Value} {base : Heap} {j k : Nat} {v : V} {H : Hp} {Q Q' : VK} {E E' : XK} (d : DoesM P w K mg base j v H Q E) (le : j ≤ k) (h1 : ∀ v H', Q v H' → Q' v H') (h2 : ∀ c d H', E c d H' → E' c d H') :
    Clo.Does P w K mg base k v H Q' E' := by
  obtain ⟨f, fo, tl, e, n, p, a, t⟩ := d
  exact ⟨f, fo, tl, e, n, p, a.mono le, t Q' E' h1 h2⟩
def wishE {K : PySem.W.Frag} {mg : Str → Option Value} (T : ErrT K mg) (Q : VK) : XK := fun cls d H' => ∃ (C dd : Addr) (fld word : Str) (x : V), cls = .ref C ∧ d = some dd ∧ ErrW T C fld word ∧ H' dd = some (.xd [(fld, x)]) ∧ ∀ p, H' p = none → Q (.ref p) (upd H' p (.tup [.str word, x]))
theorem lookup1 (f : Str) (v : V) : List.lookup f [(f, v)] = some v := by simp [List.lookup]
def spFault (P : Program) (w : World) (K : PySem.W.Frag) (mg : Str → Option Value) (base : Heap) (T : ErrT K mg) (k : Nat) : Sp := fun vs H Q _ => ∃ v, vs = [v] ∧ DoesM P w K mg base k v H (fun _ H' => Q .non H') (wishE T Q)
abbrev s_law_fault : Stmt := top 51
abbrev N_law_fault : List Str := ["_law_deed", "_law_told", "e"]
abbrev P_law_fault : List Str := ["_law_deed"]
theorem sc_law_fault : FnScope N_law_fault P_law_fault (defScope s_law_fault) := ⟨rfl, rfl, rfl, by decide +kernel, rfl, by decide +kernel, by decide +kernel⟩
section
variable {P : Program} {w : World} {K : PySem.W.Frag} {mg : Str → Option Value} {base : Heap} {f : Addr} {fd : FuncData}
theorem ok_law_fault {k : Nat} (T : ErrT K mg) (F : Fun K "_law_fault" "_law_fault" s_law_fault f fd) : FnOk P w K mg base CX0 (k + 1) f fd P_law_fault (spFault P w K mg base T k) := by
  refine F.ok sc_law_fault (fun vs H Q E h => ?_) (fun cdv A outer s H vs Q E hr h => ?_)
  · obtain ⟨v, rfl, _⟩ := h
    rfl
  obtain ⟨v, rfl, h⟩ := h
  refine ⟨_, (pss_cons (ps_set (i := 1) sc_law_fault.nd rfl (Or.inl rfl) pe_non)
  (pss_cons (Clo.ps_try_nam (i := 2) (tb := fun W => tDrop (Clo.tAct P w K mg base 0 k (WE W))) rfl rfl sc_law_fault.nd rfl rfl takes0 (fun W pn xe tk _ => pss_one (ps_expr (Clo.pe_act3 (i := 0) (E := WE W) hr (fun σ => passAt tk σ) rfl (Or.inl rfl))))
    (.cons ⟨rfl, by decide, .inl T.gB⟩ (fun a oe cls d pn hz hf => pss_one (ps_set (i := 1) sc_law_fault.nd rfl (Or.inl rfl) (pe_tup (pa_cons pe_str (pa_cons (pe_xf T.xB T.nB hz hf (pv 2)) pa_nil)))))
    (.cons ⟨rfl, by decide, .inl T.gN⟩ (fun a oe cls d pn hz hf => pss_one (ps_set (i := 1) sc_law_fault.nd rfl (Or.inl rfl) (pe_tup (pa_cons pe_str (pa_cons (pe_xf T.xN T.nN hz hf (pv 2)) pa_nil)))))
    (.cons ⟨rfl, by decide, .inl T.gD⟩ (fun a oe cls d pn hz hf => pss_one (ps_set (i := 1) sc_law_fault.nd rfl (Or.inl rfl) (pe_tup (pa_cons pe_str (pa_cons (pe_xf T.xD T.nD hz hf (pv 2)) pa_nil)))))
    (.cons ⟨rfl, by decide, .inl T.gM⟩ (fun a oe cls d pn hz hf => pss_one (ps_set (i := 1) sc_law_fault.nd rfl (Or.inl rfl) (pe_tup (pa_cons pe_str (pa_cons (pe_xf T.xM T.nM hz hf (pv 2)) pa_nil)))))
    .nil)))))
  (pss_one (ps_ret (pv 1))))), ?_⟩
  refine ⟨v, rfl, h.does (Nat.le_refl k) (fun r H' q => ⟨_, rfl, q⟩) fun cls d H' ⟨C, dd, fld, word, x, e1, e2, ew, ed, q⟩ => ?_⟩
  subst e1
  subst e2
  have l2 : 2 ≤ sizeLine := by decide
  rcases ew with ⟨rfl, rfl, rfl⟩ | ⟨rfl, rfl, rfl⟩ | ⟨rfl, rfl, rfl⟩ | ⟨rfl, rfl, rfl⟩
  · exact ⟨true, T.BB, fun _ a ha => ⟨.ref a, rfl, rfl, rfl, dd, _, x, rfl, ed, lookup1 _ _, l2, fun p hp => ⟨_, rfl, q p hp⟩⟩, fun z => nomatch z⟩
  · exact ⟨false, T.NB, (fun z => nomatch z), fun _ => ⟨true, T.NN, fun _ a ha => ⟨.ref a, rfl, rfl, rfl, dd, _, x, rfl, ed, lookup1 _ _, l2, fun p hp => ⟨_, rfl, q p hp⟩⟩, fun z => nomatch z⟩⟩
  · exact ⟨false, T.DB, (fun z => nomatch z), fun _ => ⟨false, T.DN, (fun z => nomatch z), fun _ => ⟨true, T.DD, fun _ a ha => ⟨.ref a, rfl, rfl, rfl, dd, _, x, rfl, ed, lookup1 _ _, l2, fun p hp => ⟨_, rfl, q p hp⟩⟩, fun z => nomatch z⟩⟩⟩
  · exact ⟨false, T.MB, (fun z => nomatch z), fun _ => ⟨false, T.MN, (fun z => nomatch z), fun _ => ⟨false, T.MD, (fun z => nomatch z), fun _ => ⟨true, T.MM, fun _ a ha => ⟨.ref a, rfl, rfl, rfl, dd, _, x, rfl, ed, lookup1 _ _, l2, fun p hp => ⟨_, rfl, q p hp⟩⟩, fun z => nomatch z⟩⟩⟩⟩
end

theorem DoesM.imp {P : Program} {w : World} {K : PySem.W.Frag} {mg : Str → Option Value} {base : Heap} {k : Nat} {v : V} {H : Hp} {Q Q' : VK} {E E' : XK} (d : DoesM P w K mg base k v H Q E) (h1 : ∀ v H', Q v H' → Q' v H') (h2 : ∀ c d H', E c d H' → E' c d H') :
    DoesM P w K mg base k v H Q' E' := by
  obtain ⟨f, fo, tl, e, n, p, a, t⟩ := d
  exact ⟨f, fo, tl, e, n, p, a, fun Q2 E2 i1 i2 => t Q2 E2 (fun v H' q => i1 v H' (h1 v H' q)) fun c d H' q => i2 c d H' (h2 c d H' q)⟩
/-- raises just what is due -/
def dueE {K : PySem.W.Frag} {mg : Str → Option Value} (T : ErrT K mg) (n : Nat) (u : V) (Q : VK) : XK := fun cls d H' => ∃ (C dd : Addr) (fld word : Str) (x : V), cls = .ref C ∧ d = some dd ∧ ErrW T C fld word ∧ H' dd = some (.xd [(fld, x)]) ∧
  ∀ p, H' p = none → Tw K (upd H' p (.tup [.str word, x])) n (.ref p) u ∧ ∀ H2, Same (upd H' p (.tup [.str word, x])) H2 → Q (.bl true) H2
def spFaults (P : Program) (w : World) (K : PySem.W.Frag) (mg : Str → Option Value) (base : Heap) (T : ErrT K mg) (k n : Nat) : Sp := fun vs H Q _ => ∃ v u, vs = [v, u] ∧ DoesM P w K mg base k v H (fun _ _ => False) (dueE T n u Q)
abbrev s_law_faults : Stmt := top 52
abbrev N_law_faults : List Str := ["_law_deed", "_law_due", "_law_told"]
abbrev P_law_faults : List Str := ["_law_deed", "_law_due"]
theorem sc_law_faults : FnScope N_law_faults P_law_faults (defScope s_law_faults) := ⟨rfl, rfl, rfl, by decide +kernel, rfl, by decide +kernel, by decide +kernel⟩
section
variable {P : Program} {w : World} {K : PySem.W.Frag} {mg : Str → Option Value} {base : Heap} {f : Addr} {fd : FuncData}
theorem ok_law_faults {k n : Nat} (T : ErrT K mg) (F : Fun K "_law_faults" "_law_faults" s_law_faults f fd) (C_law_fault : Cal P w K mg base "_law_fault" (k + 1) P_law_fault (spFault P w K mg base T k)) (C_law_same : Cal P w K mg base "_law_same" (1 + n) P_law_same (spSame K n)) :
    FnOk P w K mg base CX0 (k + n + 2) f fd P_law_faults (spFaults P w K mg base T k n) := by
  refine F.ok sc_law_faults (fun vs H Q E h => ?_) (fun cdv A outer s H vs Q E hr h => ?_)
  · obtain ⟨v, u, rfl, _⟩ := h
    rfl
  obtain ⟨v, u, rfl, h⟩ := h
  refine ⟨_, (pss_cons (ps_set (i := 2) sc_law_faults.nd rfl (Or.inl rfl) (pe_callC C_law_fault hr (pa_cons (pv 0) pa_nil)))
  (pss_one (ps_ret (pe_and (pe_cmpR op_notN (pv 2) pe_non (nomark _)) (pe_one (pe_callC C_law_same hr (pa_cons (pv 2) (pa_cons (pv 1) pa_nil)))))))), ?_⟩
  refine ⟨_, rfl, v, rfl, h.imp (fun _ _ z => z.elim) fun cls d H' ⟨C, dd, fld, word, x, e1, e2, ew, ed, q⟩ => ⟨C, dd, fld, word, x, e1, e2, ew, ed, fun p hp => ?_⟩⟩
  obtain ⟨tw, q⟩ := q p hp
  exact ⟨_, rfl, rfl, true, rfl, _, rfl, _, rfl, _, _, rfl, tw, q⟩
end
end My

set_option Elab.async false
set_option linter.all false
set_option maxRecDepth 100000
namespace My
open PySem L2
/-! ### a text that is read -/
abbrev sRd0 : Stmt := inClass (top 35) 0
abbrev NRd0 : List Str := ["self", "text"]
theorem scRd0 : FnScope NRd0 NRd0 (defScope sRd0) := ⟨rfl, rfl, rfl, by decide +kernel, rfl, by decide +kernel, by decide +kernel⟩
abbrev sRd1 : Stmt := inClass (top 35) 1
abbrev NRd1 : List Str := ["self", "signs"]
theorem scRd1 : FnScope NRd1 NRd1 (defScope sRd1) := ⟨rfl, rfl, rfl, by decide +kernel, rfl, by decide +kernel, by decide +kernel⟩
abbrev sRd2 : Stmt := inClass (top 35) 2
abbrev NRd2 : List Str := ["self"]
theorem scRd2 : FnScope NRd2 NRd2 (defScope sRd2) := ⟨rfl, rfl, rfl, by decide +kernel, rfl, by decide +kernel, by decide +kernel⟩
abbrev sRd3 : Stmt := inClass (top 35) 3
theorem scRd3 : FnScope NRd2 NRd2 (defScope sRd3) := ⟨rfl, rfl, rfl, by decide +kernel, rfl, by decide +kernel, by decide +kernel⟩
abbrev sRd4 : Stmt := inClass (top 35) 4
theorem scRd4 : FnScope NRd1 NRd1 (defScope sRd4) := ⟨rfl, rfl, rfl, by decide +kernel, rfl, by decide +kernel, by decide +kernel⟩
abbrev sRd5 : Stmt := inClass (top 35) 5
theorem scRd5 : FnScope NRd2 NRd2 (defScope sRd5) := ⟨rfl, rfl, rfl, by decide +kernel, rfl, by decide +kernel, by decide +kernel⟩
abbrev sRd9 : Stmt := inClass (top 35) 9
abbrev NRd9 : List Str := ["self", "start"]
theorem scRd9 : FnScope NRd9 NRd2 (defScope sRd9) := ⟨rfl, rfl, rfl, by decide +kernel, rfl, by decide +kernel, by decide +kernel⟩
/-- a statement that is not reached -/
theorem ps_no {X : Cx} {st : Stmt} : PS X st (fun _ _ _ => False) := ⟨fun _ _ _ _ _ _ h => h.elim⟩
/-- a text of these signs -/
abbrev Z (l : List Nat) : Str := ⟨l.toArray⟩
theorem Z_len (l : List Nat) : (Z l).length = l.length := by simp [Z, Str.length]
/-- the fields of a reader -/
def rF (z i : V) : List (Str × V) := [("text", z), ("at", i)]
/-- the object of a reader: what is read, and what is left -/
def rO (CR dx : Addr) (pre suf : List Nat) : HO := .ins CR dx (rF (.str (Z (pre ++ suf))) (.int pre.length))
theorem nAT : ¬ (("text" : Str) = "at") := by decide +kernel
theorem nTA : (("at" : Str) == "text") = false := by decide +kernel
theorem rF_at (a b : V) : (rF a b).lookup ("at" : Str) = some b := by
  unfold rF
  simp only [List.lookup, nTA, beq_self_eq_true]
theorem rF_text (a b : V) : (rF a b).lookup ("text" : Str) = some a := by
  unfold rF
  simp only [List.lookup, beq_self_eq_true]
theorem putF_new (a b : V) : putF "at" b (putF "text" a []) = rF a b := by
  show (if ("text" : Str) = "at" then _ else _ : List (Str × V)) = _
  rw [if_neg nAT]
  rfl
theorem putF_at (a b c : V) : putF "at" c (rF a b) = rF a c := by
  show (if ("text" : Str) = "at" then _ else _ : List (Str × V)) = _
  rw [if_neg nAT]
  show _ :: (if ("at" : Str) = "at" then _ else _ : List (Str × V)) = _
  rw [if_pos rfl]
  rfl
theorem rF_no {a b : V} {m : Str} (h1 : (m == "text") = false := by decide +kernel) (h2 : (m == "at") = false := by decide +kernel) : (rF a b).lookup m = none := by
  unfold rF
  simp only [List.lookup, h1, h2]
theorem rO_move (CR dx : Addr) (pre m suf : List Nat) : HO.ins CR dx (rF (.str (Z (pre ++ (m ++ suf)))) (.int (pre.length + m.length : Nat))) = rO CR dx (pre ++ m) suf := by
  unfold rO
  rw [List.append_assoc, List.length_append]
structure RdTxt (K : PySem.W.Frag) (CR : Addr) : Prop where
  cl : Cls K CR
  nAt : NoAttr K CR "at"
  nText : NoAttr K CR "text"
theorem cutS_mid (pre n suf : List Nat) : cutS (Z (pre ++ n ++ suf)) (some ((pre.length : Nat) : Int)) (some (((pre ++ n).length : Nat) : Int)) = Z n := by
  unfold cutS
  rw [HT.sIx_nat, HT.sIx_nat, Z_len]
  have h1 : min pre.length (pre ++ n ++ suf).length = pre.length := by simp only [List.length_append]; omega
  have h2 : min (pre ++ n).length (pre ++ n ++ suf).length - pre.length = n.length := by simp only [List.length_append]; omega
  rw [h1, h2]
  show Z (((pre ++ n ++ suf).drop pre.length).take n.length) = Z n
  rw [List.append_assoc, List.drop_left, List.take_left]
/-- a method's promise -/
structure Mth (P : Program) (w : World) (K : PySem.W.Frag) (mg : Str → Option Value) (base : Heap) (C : Addr) (m : Str) (k : Nat) (ps : List Str) (sp : Sp) where
  f : Addr
  fd : FuncData
  me : Meth K C m f
  ok : FnOk P w K mg base CX0 k f fd ps sp
  b : Binds K fd ps []
section
variable {X : Cx} {k j : Nat} {ps : List Str} {sp : Sp} {C : Addr} {m : Str} {E : XK} {o e : Expr} {es : List Expr} {ta : TE} {t : TA} {pos apos : Pos} {pl : Sem Bool}
theorem pe_methM (M : Mth X.prog X.w X.K X.mg X.base C m k ps sp) (he : PE X o ta) (c : Cls X.K C) (hr : Room j X.A) (ha : PA X (e :: es) t) (hk : k ≤ j := by omega)
    (hst : starEach (e :: es) X.env = (false, eval e X.env) :: starEach es X.env := by rfl) (hpl : (backTo pos (starEach es X.env)).any (·.1) = false := by rfl)
    (ht : eval (.Call (.Attribute o m apos) (e :: es) [] pos) X.env = (do
      let ov ← eval o X.env
      standAt apos.atName
      let (f, first) ← holding [ov] (getMethod ov m pl)
      callWith pos f first (backTo pos (starEach (e :: es) X.env)) (backToKw pos (keywordEach [] X.env))) := by rfl) :
    PE X (.Call (.Attribute o m apos) (e :: es) [] pos) (tMeth C m sp [] E0 ta t) := pe_meth (pl := pl) he c M.me M.ok (hr.mono hk) M.b .nil pass0 ha hst hpl ht
theorem pe_methM0 (M : Mth X.prog X.w X.K X.mg X.base C m k ps sp) (he : PE X o ta) (c : Cls X.K C) (hr : Room j X.A) (hk : k ≤ j := by omega)
    (ht : eval (.Call (.Attribute o m apos) [] [] pos) X.env = (do
      let ov ← eval o X.env
      standAt apos.atName
      let (f, first) ← holding [ov] (getMethod ov m pl)
      callWith pos f first (backTo pos (starEach [] X.env)) (backToKw pos (keywordEach [] X.env))) := by rfl) :
    PE X (.Call (.Attribute o m apos) [] [] pos) (tMeth C m sp [] E0 ta tNil) := pe_meth0 (pl := pl) he c M.me M.ok (hr.mono hk) M.b .nil pass0 ht
end
/-- nothing but what stands at p has changed -/
def Mv (p : Addr) (H H' : Hp) : Prop := ∀ b, b ≠ p → H' b = H b
theorem Mv.refl (p : Addr) (H : Hp) : Mv p H H := fun _ _ => rfl
theorem Mv.upd {p : Addr} {H H' : Hp} {o : HO} (h : Mv p H H') : Mv p H (upd H' p o) := fun b n => by rw [upd_ne n]; exact h b n
theorem Mv.trans {p : Addr} {H H1 H2 : Hp} (h : Mv p H H1) (g : Mv p H1 H2) : Mv p H H2 := fun b n => (g b n).trans (h b n)
def oneOf (g : Str) (c : Nat) : Bool := decide (c ∈ g.cps.toList)
def seesB (suf : List Nat) (g : Str) : Bool := suf.head?.any (oneOf g)
def zSpace : Str := Str.ofString " "
def spRd0 (CR : Addr) : Sp := fun vs H Q _ => ∃ (p dx : Addr) (cs : List Nat), vs = [.ref p, .str (Z cs)] ∧ H p = some (.ins CR dx []) ∧ ∀ H', Mv p H H' → H' p = some (rO CR dx [] cs) → Q .non H'
def spSees (CR : Addr) : Sp := fun vs H Q _ => ∃ (p dx : Addr) (pre suf : List Nat) (g : Str), vs = [.ref p, .str g] ∧ H p = some (rO CR dx pre suf) ∧ pre.length + suf.length ≤ sizeLine ∧ Q (.bl (seesB suf g)) H
def spDone (CR : Addr) : Sp := fun vs H Q _ => ∃ (p dx : Addr) (pre suf : List Nat), vs = [.ref p] ∧ H p = some (rO CR dx pre suf) ∧ pre.length + suf.length ≤ sizeLine ∧ Q (.bl (decide (suf = []))) H
def spFinish (CR : Addr) : Sp := fun vs H Q _ => ∃ (p dx : Addr) (pre : List Nat), vs = [.ref p] ∧ H p = some (rO CR dx pre []) ∧ pre.length ≤ sizeLine ∧ Q .non H
def spTake (CR : Addr) : Sp := fun vs H Q _ => ∃ (p dx : Addr) (pre suf : List Nat) (c : Nat) (g : Str), vs = [.ref p, .str g] ∧ H p = some (rO CR dx pre (c :: suf)) ∧ oneOf g c = true ∧ pre.length + suf.length + 1 ≤ sizeLine ∧
  ∀ H', Mv p H H' → H' p = some (rO CR dx (pre ++ [c]) suf) → Q (.str ⟨#[c]⟩) H'
def spSkip (CR : Addr) : Sp := fun vs H Q _ => ∃ (p dx : Addr) (pre suf : List Nat) (k : Nat), vs = [.ref p] ∧ H p = some (rO CR dx pre (List.replicate k 32 ++ suf)) ∧ seesB suf zSpace = false ∧ pre.length + k + suf.length ≤ sizeLine ∧
  ∀ H', Mv p H H' → H' p = some (rO CR dx (pre ++ List.replicate k 32) suf) → Q .non H'
def spTakeName (CR : Addr) : Sp := fun vs H Q _ => ∃ (p dx : Addr) (pre n suf : List Nat), vs = [.ref p] ∧ H p = some (rO CR dx pre (n ++ suf)) ∧ isName (Z n) = true ∧ suf.head?.any isLD = false ∧ pre.length + n.length + suf.length ≤ sizeLine ∧
  ∀ H', Mv p H H' → H' p = some (rO CR dx (pre ++ n) suf) → Q (.str (Z n)) H'
section
variable {P : Program} {w : World} {K : PySem.W.Frag} {mg : Str → Option Value} {base : Heap} {f : Addr} {fd : FuncData} {CR : Addr}
theorem okRd0 (T : RdTxt K CR) (F : Fun K "__init__" "Reader.__init__" sRd0 f fd) : FnOk P w K mg base CX0 1 f fd NRd0 (spRd0 CR) := by
  refine F.ok scRd0 (fun vs H Q E h => ?_) (fun cdv A outer s H vs Q E hr h => ?_)
  · obtain ⟨p, dx, cs, rfl, _⟩ := h
    rfl
  obtain ⟨p, dx, cs, rfl, hp, q⟩ := h
  refine ⟨_, pss_cons (ps_fld (pv 0) (pv 1) rfl) (pss_one (ps_fld (pv 0) pe_int rfl)), ?_⟩
  refine ⟨_, rfl, _, rfl, p, CR, dx, _, rfl, hp, T.cl, T.nText, (by show 0 < 1000; decide), ?_⟩
  refine ⟨_, rfl, p, CR, dx, _, rfl, upd_same, T.cl, T.nAt, (by show 1 < 1000; decide), ?_⟩
  refine q _ (Mv.upd (Mv.upd (Mv.refl _ _))) ?_
  rw [upd_same, putF_new]
  rfl
theorem okRd1 (T : Txt K mg) (R : RdTxt K CR) (F : Fun K "sees" "Reader.sees" sRd1 f fd) : FnOk P w K mg base CX0 1 f fd NRd1 (spSees CR) := by
  refine F.ok scRd1 (fun vs H Q E h => ?_) (fun cdv A outer s H vs Q E hr h => ?_)
  · obtain ⟨p, dx, pre, suf, g, rfl, _⟩ := h
    rfl
  obtain ⟨p, dx, pre, suf, g, rfl, hp, hl, q⟩ := h
  refine ⟨_, pss_one (ps_ret (pe_and (pe_cmpR op_lt (pe_fld (pv 0) rfl) (pe_callB call_len rfl T.len (by decide +kernel) (pa_cons (pe_fld (pv 0) rfl) pa_nil)) (nomark _)) (pe_one (pe_cmpR op_in_sign (pe_ix ix_str (pe_fld (pv 0) rfl) (pe_fld (pv 0) rfl) (fun _ _ => rfl)) (pv 1) rfl)))), ?_⟩
  have hz : (Z (pre ++ suf)).length = pre.length + suf.length := by rw [Z_len, List.length_append]
  refine ⟨_, rfl, _, CR, _, _, _, rfl, hp, R.cl, R.nAt, rF_at _ _, _, rfl, _, CR, _, _, _, rfl, hp, R.cl, R.nText, rF_text _ _, _, _, rfl, ⟨by rw [hz]; exact hl, rfl⟩, _, _, rfl, rfl, _, rfl, ?_⟩
  rw [hz]
  cases suf with
  | nil =>
    rw [show decide ((pre.length : Int) < ((pre.length + ([] : List Nat).length : Nat) : Int)) = false from decide_eq_false (by simp only [List.length_nil]; omega)]
    exact iteF q
  | cons c r =>
    rw [show decide ((pre.length : Int) < ((pre.length + (c :: r).length : Nat) : Int)) = true from decide_eq_true (by simp only [List.length_cons]; omega)]
    refine iteT ⟨_, rfl, _, CR, _, _, _, rfl, hp, R.cl, R.nText, rF_text _ _, _, rfl, _, CR, _, _, _, rfl, hp, R.cl, R.nAt, rF_at _ _, _, _, c, rfl, rfl, by rw [hz]; exact hl, atI_nat (j := pre.length) ?_, _, rfl, c, g, rfl, rfl, q⟩
    show (pre ++ c :: r)[pre.length]? = some c
    rw [List.getElem?_append_right (Nat.le_refl _), Nat.sub_self]
    rfl
theorem okRd2 (T : Txt K mg) (R : RdTxt K CR) (F : Fun K "is_done" "Reader.is_done" sRd2 f fd) : FnOk P w K mg base CX0 1 f fd NRd2 (spDone CR) := by
  refine F.ok scRd2 (fun vs H Q E h => ?_) (fun cdv A outer s H vs Q E hr h => ?_)
  · obtain ⟨p, dx, pre, suf, rfl, _⟩ := h
    rfl
  obtain ⟨p, dx, pre, suf, rfl, hp, hl, q⟩ := h
  refine ⟨_, pss_one (ps_ret (pe_cmpR op_eq (pe_fld (pv 0) rfl) (pe_callB call_len rfl T.len (by decide +kernel) (pa_cons (pe_fld (pv 0) rfl) pa_nil)) (nomark _))), ?_⟩
  have hz : (Z (pre ++ suf)).length = pre.length + suf.length := by rw [Z_len, List.length_append]
  refine ⟨_, rfl, _, CR, _, _, _, rfl, hp, R.cl, R.nAt, rF_at _ _, _, rfl, _, CR, _, _, _, rfl, hp, R.cl, R.nText, rF_text _ _, _, _, rfl, ⟨by rw [hz]; exact hl, rfl⟩, ?_⟩
  rw [hz]
  refine ⟨rfl, ?_⟩
  rw [dec_int, show ((pre.length : Int) == ((pre.length + suf.length : Nat) : Int)) = decide (suf = []) from ?_]
  · exact q
  cases suf with
  | nil => simp
  | cons c r =>
    rw [decide_eq_false (by simp), beq_eq_false_iff_ne]
    simp only [List.length_cons]
    omega
theorem okRd3 {R : RdTxt K CR} (M2 : Mth P w K mg base CR "is_done" 1 NRd2 (spDone CR)) (F : Fun K "finish" "Reader.finish" sRd3 f fd) : FnOk P w K mg base CX0 2 f fd NRd2 (spFinish CR) := by
  refine F.ok scRd3 (fun vs H Q E h => ?_) (fun cdv A outer s H vs Q E hr h => ?_)
  · obtain ⟨p, dx, pre, rfl, _⟩ := h
    rfl
  obtain ⟨p, dx, pre, rfl, hp, hl, q⟩ := h
  refine ⟨_, pss_one (ps_if (pt_not (pt_val (pe_methM0 M2 (pv 0) R.cl hr))) (pss_one ps_no) pss_nil), ?_⟩
  refine ⟨_, rfl, p, dx, _, rfl, hp, rF_no, p, dx, pre, [], rfl, hp, hl, ?_⟩
  exact ⟨_, rfl, q⟩
theorem okRd4 {R : RdTxt K CR} (M1 : Mth P w K mg base CR "sees" 1 NRd1 (spSees CR)) (F : Fun K "take" "Reader.take" sRd4 f fd) : FnOk P w K mg base CX0 2 f fd NRd1 (spTake CR) := by
  refine F.ok scRd4 (fun vs H Q E h => ?_) (fun cdv A outer s H vs Q E hr h => ?_)
  · obtain ⟨p, dx, pre, suf, c, g, rfl, _⟩ := h
    rfl
  obtain ⟨p, dx, pre, suf, c, g, rfl, hp, hc, hl, q⟩ := h
  refine ⟨_, pss_cons (ps_if (pt_not (pt_val (pe_methM M1 (pv 0) R.cl hr (pa_cons (pv 1) pa_nil)))) (pss_one ps_no) pss_nil)
    (pss_cons (ps_fldaug (pv 0) pe_int in_add) (pss_one (ps_ret (pe_ix ix_str (pe_fld (pv 0) rfl) (pe_op op_sub (pe_fld (pv 0) rfl) pe_int) (fun _ _ => rfl))))), ?_⟩
  refine ⟨_, rfl, p, dx, _, rfl, hp, rF_no, _, rfl, p, dx, pre, c :: suf, g, rfl, hp, by rw [List.length_cons]; omega, ?_⟩
  refine ⟨_, rfl, ?_⟩
  rw [show seesB (c :: suf) g = true from hc]
  refine iteF ?_
  have hz : (Z (pre ++ c :: suf)).length ≤ sizeLine := by
    rw [Z_len, List.length_append, List.length_cons]
    omega
  have e1 : HO.ins CR dx (putF "at" (.int ((pre.length : Int) + 1)) (rF (.str (Z (pre ++ c :: suf))) (.int pre.length))) = rO CR dx (pre ++ [c]) suf := by
    rw [putF_at]
    exact rO_move CR dx pre [c] suf
  refine ⟨_, rfl, _, CR, _, _, _, rfl, hp, R.cl, R.nAt, rF_at _ _, _, _, rfl, rfl, dx, _, hp, (by show 2 < 1000; decide), ?_⟩
  rw [e1]
  have hp2 : upd H p (rO CR dx (pre ++ [c]) suf) p = some (rO CR dx (pre ++ [c]) suf) := upd_same
  refine ⟨_, rfl, _, CR, _, _, _, rfl, hp2, R.cl, R.nText, rF_text _ _, _, rfl, _, CR, _, _, _, rfl, hp2, R.cl, R.nAt, rF_at _ _, _, _, rfl, rfl, _, _, c, rfl, rfl, ?_, ?_, q _ (Mv.upd (Mv.refl _ _)) hp2⟩
  · rw [Z_len]
    simp only [List.length_append, List.length_cons, List.length_nil]
    omega
  · rw [show (((pre ++ [c]).length : Nat) : Int) - 1 = (pre.length : Nat) by simp only [List.length_append, List.length_cons, List.length_nil]; omega]
    refine atI_nat (j := pre.length) ?_
    show (pre ++ [c] ++ suf)[pre.length]? = some c
    rw [List.append_assoc, List.getElem?_append_right (Nat.le_refl _), Nat.sub_self]
    rfl
theorem okRd5 {R : RdTxt K CR} (M1 : Mth P w K mg base CR "sees" 1 NRd1 (spSees CR)) (F : Fun K "skip_spaces" "Reader.skip_spaces" sRd5 f fd) : FnOk P w K mg base CX0 2 f fd NRd2 (spSkip CR) := by
  refine F.ok scRd5 (fun vs H Q E h => ?_) (fun cdv A outer s H vs Q E hr h => ?_)
  · obtain ⟨p, dx, pre, suf, k, rfl, _⟩ := h
    rfl
  obtain ⟨p, dx, pre, suf, k, rfl, hp, hs, hl, q⟩ := h
  refine ⟨_, pss_one (ps_while PassesOwn.never (pt_val (pe_methM M1 (pv 0) R.cl hr (pa_cons pe_str pa_nil))) (pss_one (ps_fldaug (pv 0) pe_int in_add))), ?_⟩
  refine ⟨fun m σ H' => σ = start NRd2 [.ref p] ∧ Mv p H H' ∧ ∃ j, j + m = k ∧ H' p = some (rO CR dx (pre ++ List.replicate j 32) (List.replicate m 32 ++ suf)), ⟨k, rfl, Mv.refl _ _, 0, by omega, by simpa using hp⟩, ?_⟩
  rintro m σ H' ⟨rfl, mv, j, e, h'⟩
  refine ⟨_, rfl, p, dx, _, rfl, h', rF_no, p, dx, _, _, zSpace, rfl, h', by simp only [List.length_append, List.length_replicate]; omega, ?_⟩
  refine ⟨_, rfl, ?_⟩
  cases m with
  | zero =>
    rw [show seesB (List.replicate 0 32 ++ suf) zSpace = false from hs]
    have ej : j = k := by omega
    subst ej
    exact iteF (q H' mv h')
  | succ m =>
    rw [show seesB (List.replicate (m + 1) 32 ++ suf) zSpace = true from (by show oneOf zSpace 32 = true; decide +kernel)]
    refine iteT ⟨fun σ H'' => σ = start NRd2 [.ref p] ∧ Mv p H H'' ∧ ∃ j, j + m = k ∧ H'' p = some (rO CR dx (pre ++ List.replicate j 32) (List.replicate m 32 ++ suf)), fun σ'' H'' h => ⟨m, Nat.lt_succ_self m, h⟩, ?_⟩
    refine ⟨_, rfl, _, CR, _, _, _, rfl, h', R.cl, R.nAt, rF_at _ _, _, _, rfl, rfl, dx, _, h', (by show 2 < 1000; decide), rfl, Mv.upd mv, j + 1, by omega, ?_⟩
    rw [upd_same, putF_at]
    have := rO_move CR dx (pre ++ List.replicate j 32) [32] (List.replicate m 32 ++ suf)
    rw [show pre ++ List.replicate (j + 1) 32 = pre ++ List.replicate j 32 ++ [32] by rw [List.replicate_succ', List.append_assoc]]
    exact congrArg some this
theorem okRd9 {R : RdTxt K CR} (T : Txt K mg) (M1 : Mth P w K mg base CR "sees" 1 NRd1 (spSees CR)) (M4 : Mth P w K mg base CR "take" 2 NRd1 (spTake CR)) (F : Fun K "take_name" "Reader.take_name" sRd9 f fd) : FnOk P w K mg base CX0 3 f fd NRd2 (spTakeName CR) := by
  refine F.ok scRd9 (fun vs H Q E h => ?_) (fun cdv A outer s H vs Q E hr h => ?_)
  · obtain ⟨p, dx, pre, n, suf, rfl, _⟩ := h
    rfl
  obtain ⟨p, dx, pre, n, suf, rfl, hp, hn, hs, hl, q⟩ := h
  refine ⟨_, pss_cons (ps_set (i := 1) scRd9.nd rfl (Or.inl rfl) (pe_fld (pv 0) rfl)) (pss_cons (ps_expr (pe_methM M4 (pv 0) R.cl hr (pa_cons (pe_globE T.LETTERS) pa_nil)))
    (pss_cons (ps_while PassesOwn.never (PW.pt (pw_and (pt_cmpR op_lt (pe_op op_sub (pe_fld (pv 0) rfl) (pv 1)) (pe_globE T.LONGEST_NAME) (nomark _)) (pw_and1 (PW.pt (pw_or (pt_val (pe_methM M1 (pv 0) R.cl hr (pa_cons (pe_globE T.LETTERS) pa_nil))) (pw_or1 (pt_val (pe_methM M1 (pv 0) R.cl hr (pa_cons (pe_globE T.DIGITS) pa_nil)))))))))
      (pss_one (ps_fldaug (pv 0) pe_int in_add)))
    (pss_one (ps_ret (pe_slice sl_str (pe_fld (pv 0) rfl) (po_some (pv 1)) (po_some (pe_fld (pv 0) rfl))))))), ?_⟩
  cases n with
  | nil => exact absurd hn (by decide)
  | cons c n =>
  have hn2 : isL c = true ∧ (∀ d ∈ c :: n, isLD d = true) ∧ (c :: n).length ≤ 12 := by
    unfold isName at hn
    rw [Bool.and_eq_true, Bool.and_eq_true, decide_eq_true_eq, Z_len] at hn
    exact ⟨hn.2.1, fun d hd => List.all_eq_true.mp hn.2.2 d hd, hn.1.2⟩
  obtain ⟨hc, hall, h12⟩ := hn2
  have hz0 : (pre ++ c :: n ++ suf).length ≤ sizeLine := by simp only [List.length_append]; omega
  refine ⟨_, rfl, _, CR, _, _, _, rfl, hp, R.cl, R.nAt, rF_at _ _, ?_⟩
  refine ⟨_, rfl, p, dx, _, rfl, hp, rF_no, p, dx, pre, n ++ suf, c, zLetters, rfl, hp, hc, by simp only [List.length_append, List.length_cons] at hz0 ⊢; omega, fun H1 m1 h1 => ?_⟩
  refine ⟨fun m σ H' => σ = start NRd9 [.ref p, .int pre.length] ∧ Mv p H H' ∧ ∃ a b, c :: n = a ++ b ∧ b.length = m ∧ 1 ≤ a.length ∧ H' p = some (rO CR dx (pre ++ a) (b ++ suf)), ⟨n.length, rfl, m1, [c], n, rfl, rfl, Nat.le_refl _, h1⟩, ?_⟩
  rintro m σ H' ⟨rfl, mv, a, b, e, el, ha, h'⟩
  refine ⟨_, rfl, _, CR, _, _, _, rfl, h', R.cl, R.nAt, rF_at _ _, _, rfl, _, _, rfl, rfl, _, _, rfl, rfl, _, rfl, ?_⟩
  rw [show (((pre ++ a).length : Nat) : Int) - pre.length = (a.length : Nat) by rw [List.length_append]; omega]
  have hzb : pre.length + a.length + (b ++ suf).length ≤ sizeLine := by
    have := congrArg List.length e
    simp only [List.length_append, List.length_cons] at this hz0 ⊢
    omega
  have hzc : (pre ++ a).length + (b ++ suf).length ≤ sizeLine := by rw [List.length_append]; exact hzb
  cases b with
  | nil =>
    have ea : a = c :: n := by rw [e, List.append_nil]
    subst ea
    have fin : ∀ H2, H2 = H' → tRet (tSl rSlS (tFld K (tVar 0) (Str.ofString "text")) (tPart (tVar 1)) (tPart (tFld K (tVar 0) (Str.ofString "at")))) { nx := fun x H' => Q V.non H', rt := Q } (start NRd9 [V.ref p, V.int pre.length]) H2 := by
      intro H2 e2
      subst e2
      refine ⟨_, rfl, _, CR, _, _, _, rfl, h', R.cl, R.nText, rF_text _ _, _, rfl, _, rfl, _, rfl, _, CR, _, _, _, rfl, h', R.cl, R.nAt, rF_at _ _, _, rfl, _, rfl, ?_, ?_⟩
      · rw [Z_len]
        simp only [List.length_append, List.nil_append] at hz0 ⊢
        omega
      · have := cutS_mid pre (c :: n) suf
        rw [List.append_assoc] at this
        rw [List.nil_append, List.append_assoc, this]
        exact q _ mv (by rw [List.nil_append] at h'; exact h')
    refine ite2 (fun c1 => ?_) (fun c1 => ?_)
    · refine ⟨_, rfl, p, dx, _, rfl, h', rF_no, p, dx, _, _, zLetters, rfl, h', hzc, _, rfl, ?_⟩
      have hs1 : seesB ([] ++ suf) zLetters = false ∧ seesB ([] ++ suf) zDigits = false := by
        cases suf with
        | nil => exact ⟨rfl, rfl⟩
        | cons x r =>
          have hx : (isL x || decide (x ∈ zDigits.cps.toList)) = false := hs
          rw [Bool.or_eq_false_iff] at hx
          exact hx
      rw [hs1.1]
      refine iteF ⟨_, rfl, p, dx, _, rfl, h', rF_no, p, dx, _, _, zDigits, rfl, h', hzc, _, rfl, ?_⟩
      rw [hs1.2]
      exact iteF (fin _ rfl)
    · exact fin _ rfl
  | cons d b =>
    have hd : (isL d || decide (d ∈ zDigits.cps.toList)) = true := hall d (by rw [e]; simp)
    have hm : b.length < m := by rw [← el]; exact Nat.lt_succ_self _
    have e2 : c :: n = (a ++ [d]) ++ b := by rw [e, List.append_assoc]; rfl
    have hlt : a.length < 12 := by
      have := congrArg List.length e
      simp only [List.length_append, List.length_cons] at this h12
      omega
    rw [decide_eq_true (by omega : ((a.length : Nat) : Int) < 12)]
    refine iteT ⟨_, rfl, p, dx, _, rfl, h', rF_no, p, dx, _, _, zLetters, rfl, h', hzc, _, rfl, ?_⟩
    by_cases hL : isL d = true
    all_goals
      first
      | rw [show seesB (d :: b ++ suf) zLetters = true from hL]
        refine iteT ?_
        refine iteT ?_
      | have hL2 : isL d = false := by simpa using hL
        rw [hL2, Bool.false_or] at hd
        rw [show seesB (d :: b ++ suf) zLetters = false from hL2]
        refine iteF ⟨_, rfl, p, dx, _, rfl, h', rF_no, p, dx, _, _, zDigits, rfl, h', hzc, _, rfl, ?_⟩
        rw [show seesB (d :: b ++ suf) zDigits = true from hd]
        refine iteT ?_
    all_goals
      refine ⟨fun σ H'' => σ = start NRd9 [.ref p, .int pre.length] ∧ Mv p H H'' ∧ ∃ a' b', c :: n = a' ++ b' ∧ b'.length = b.length ∧ 1 ≤ a'.length ∧ H'' p = some (rO CR dx (pre ++ a') (b' ++ suf)), fun σ'' H'' h => ⟨b.length, hm, h⟩, ?_⟩
      refine ⟨_, rfl, _, CR, _, _, _, rfl, h', R.cl, R.nAt, rF_at _ _, _, _, rfl, rfl, dx, _, h', (by show 2 < 1000; decide), rfl, Mv.upd mv, a ++ [d], b, e2, rfl, by simp, ?_⟩
      rw [upd_same, putF_at]
      have := rO_move CR dx (pre ++ a) [d] (b ++ suf)
      rw [show pre ++ (a ++ [d]) = pre ++ a ++ [d] by rw [List.append_assoc]]
      exact congrArg some this
end
/-! the same for a list of signs -/
def signsL (cs : List Nat) : List V := cs.map fun c => V.str ⟨#[c]⟩
theorem inV_signs (c : Nat) (cs : List Nat) : inV (.str ⟨#[c]⟩) (signsL cs) = decide (c ∈ cs) := by
  have e : signsL cs = (cs.map fun c => (⟨#[c]⟩ : Str)).map V.str := by unfold signsL; rw [List.map_map]; rfl
  rw [e, inV_str]
  refine decide_eq_decide.mpr ⟨fun h => ?_, fun h => List.mem_map.mpr ⟨c, h, rfl⟩⟩
  obtain ⟨d, hd, e⟩ := List.mem_map.mp h
  have e2 : d = c := by
    have := congrArg (fun z : Str => z.cps.toList) e
    simpa using this
  rw [← e2]
  exact hd
theorem signs_flat (cs : List Nat) : (signsL cs).all flatV = true := by
  rw [List.all_eq_true]
  intro x h
  obtain ⟨d, hd, rfl⟩ := List.mem_map.mp h
  rfl
def seesLB (suf cs : List Nat) : Bool := suf.head?.any fun c => decide (c ∈ cs)
def spSeesL (K : PySem.W.Frag) (CR : Addr) : Sp := fun vs H Q _ => ∃ (p dx l : Addr) (pre suf cs : List Nat), vs = [.ref p, .ref l] ∧ H p = some (rO CR dx pre suf) ∧ SqL K H l (signsL cs) ∧ pre.length + suf.length ≤ sizeLine ∧ Q (.bl (seesLB suf cs)) H
def spTakeL (K : PySem.W.Frag) (CR : Addr) : Sp := fun vs H Q _ => ∃ (p dx l : Addr) (pre suf : List Nat) (c : Nat) (cs : List Nat), vs = [.ref p, .ref l] ∧ H p = some (rO CR dx pre (c :: suf)) ∧ SqL K H l (signsL cs) ∧ c ∈ cs ∧ pre.length + suf.length + 1 ≤ sizeLine ∧
  ∀ H', Mv p H H' → H' p = some (rO CR dx (pre ++ [c]) suf) → Q (.str ⟨#[c]⟩) H'
section
variable {P : Program} {w : World} {K : PySem.W.Frag} {mg : Str → Option Value} {base : Heap} {f : Addr} {fd : FuncData} {CR : Addr}
theorem okRd1L (T : Txt K mg) (R : RdTxt K CR) (F : Fun K "sees" "Reader.sees" sRd1 f fd) : FnOk P w K mg base CX0 1 f fd NRd1 (spSeesL K CR) := by
  refine F.ok scRd1 (fun vs H Q E h => ?_) (fun cdv A outer s H vs Q E hr h => ?_)
  · obtain ⟨p, dx, l, pre, suf, cs, rfl, _⟩ := h
    rfl
  obtain ⟨p, dx, l, pre, suf, cs, rfl, hp, hL, hl, q⟩ := h
  refine ⟨_, pss_one (ps_ret (pe_and (pe_cmpR op_lt (pe_fld (pv 0) rfl) (pe_callB call_len rfl T.len (by decide +kernel) (pa_cons (pe_fld (pv 0) rfl) pa_nil)) (nomark _)) (pe_one (pe_cmpR op_in_seq (pe_ix ix_str (pe_fld (pv 0) rfl) (pe_fld (pv 0) rfl) (fun _ _ => rfl)) (pv 1) rfl)))), ?_⟩
  have hz : (Z (pre ++ suf)).length = pre.length + suf.length := by rw [Z_len, List.length_append]
  refine ⟨_, rfl, _, CR, _, _, _, rfl, hp, R.cl, R.nAt, rF_at _ _, _, rfl, _, CR, _, _, _, rfl, hp, R.cl, R.nText, rF_text _ _, _, _, rfl, ⟨by rw [hz]; exact hl, rfl⟩, _, _, rfl, rfl, _, rfl, ?_⟩
  rw [hz]
  cases suf with
  | nil =>
    rw [show decide ((pre.length : Int) < ((pre.length + ([] : List Nat).length : Nat) : Int)) = false from decide_eq_false (by simp only [List.length_nil]; omega)]
    exact iteF q
  | cons c r =>
    rw [show decide ((pre.length : Int) < ((pre.length + (c :: r).length : Nat) : Int)) = true from decide_eq_true (by simp only [List.length_cons]; omega)]
    refine iteT ⟨_, rfl, _, CR, _, _, _, rfl, hp, R.cl, R.nText, rF_text _ _, _, rfl, _, CR, _, _, _, rfl, hp, R.cl, R.nAt, rF_at _ _, _, _, c, rfl, rfl, by rw [hz]; exact hl, atI_nat (j := pre.length) ?_, _, rfl, l, _, rfl, .inl hL, rfl, signs_flat cs, by show Q (.bl (inV (.str ⟨#[c]⟩) (signsL cs))) H; rw [inV_signs]; exact q⟩
    show (pre ++ c :: r)[pre.length]? = some c
    rw [List.getElem?_append_right (Nat.le_refl _), Nat.sub_self]
    rfl
theorem okRd4L {R : RdTxt K CR} (M1 : Mth P w K mg base CR "sees" 1 NRd1 (spSeesL K CR)) (F : Fun K "take" "Reader.take" sRd4 f fd) : FnOk P w K mg base CX0 2 f fd NRd1 (spTakeL K CR) := by
  refine F.ok scRd4 (fun vs H Q E h => ?_) (fun cdv A outer s H vs Q E hr h => ?_)
  · obtain ⟨p, dx, l, pre, suf, c, cs, rfl, _⟩ := h
    rfl
  obtain ⟨p, dx, l, pre, suf, c, cs, rfl, hp, hL, hc, hl, q⟩ := h
  refine ⟨_, pss_cons (ps_if (pt_not (pt_val (pe_methM M1 (pv 0) R.cl hr (pa_cons (pv 1) pa_nil)))) (pss_one ps_no) pss_nil)
    (pss_cons (ps_fldaug (pv 0) pe_int in_add) (pss_one (ps_ret (pe_ix ix_str (pe_fld (pv 0) rfl) (pe_op op_sub (pe_fld (pv 0) rfl) pe_int) (fun _ _ => rfl))))), ?_⟩
  refine ⟨_, rfl, p, dx, _, rfl, hp, rF_no, _, rfl, p, dx, l, pre, c :: suf, cs, rfl, hp, hL, by rw [List.length_cons]; omega, ?_⟩
  refine ⟨_, rfl, ?_⟩
  rw [show seesLB (c :: suf) cs = true from decide_eq_true hc]
  refine iteF ?_
  have hz : (Z (pre ++ c :: suf)).length ≤ sizeLine := by
    rw [Z_len, List.length_append, List.length_cons]
    omega
  have e1 : HO.ins CR dx (putF "at" (.int ((pre.length : Int) + 1)) (rF (.str (Z (pre ++ c :: suf))) (.int pre.length))) = rO CR dx (pre ++ [c]) suf := by
    rw [putF_at]
    exact rO_move CR dx pre [c] suf
  refine ⟨_, rfl, _, CR, _, _, _, rfl, hp, R.cl, R.nAt, rF_at _ _, _, _, rfl, rfl, dx, _, hp, (by show 2 < 1000; decide), ?_⟩
  rw [e1]
  have hp2 : upd H p (rO CR dx (pre ++ [c]) suf) p = some (rO CR dx (pre ++ [c]) suf) := upd_same
  refine ⟨_, rfl, _, CR, _, _, _, rfl, hp2, R.cl, R.nText, rF_text _ _, _, rfl, _, CR, _, _, _, rfl, hp2, R.cl, R.nAt, rF_at _ _, _, _, rfl, rfl, _, _, c, rfl, rfl, ?_, ?_, q _ (Mv.upd (Mv.refl _ _)) hp2⟩
  · rw [Z_len]
    simp only [List.length_append, List.length_cons, List.length_nil]
    omega
  · rw [show (((pre ++ [c]).length : Nat) : Int) - 1 = (pre.length : Nat) by simp only [List.length_append, List.length_cons, List.length_nil]; omega]
    refine atI_nat (j := pre.length) ?_
    show (pre ++ [c] ++ suf)[pre.length]? = some c
    rw [List.append_assoc, List.getElem?_append_right (Nat.le_refl _), Nat.sub_self]
    rfl
end
end My

set_option Elab.async false
set_option linter.all false
set_option maxRecDepth 100000
namespace My
open PySem L2
abbrev sWr0 : Stmt := inClass (top 25) 0
abbrev NWr0 : List Str := ["self", "form", "depth", "leaves"]
theorem scWr0 : FnScope NWr0 NWr0 (defScope sWr0) := ⟨rfl, rfl, rfl, by decide +kernel, rfl, by decide +kernel, by decide +kernel⟩
abbrev stake_leaf : Stmt := top 26
abbrev Ntake_leaf : List Str := ["reader", "words", "name"]
abbrev Ptake_leaf : List Str := ["reader", "words"]
theorem sctake_leaf : FnScope Ntake_leaf Ptake_leaf (defScope stake_leaf) := ⟨rfl, rfl, rfl, by decide +kernel, rfl, by decide +kernel, by decide +kernel⟩
abbrev stake_sign : Stmt := top 27
abbrev Ntake_sign : List Str := ["reader", "words", "begins", "first", "told", "more", "sign"]
abbrev Ptake_sign : List Str := ["reader", "words", "begins"]
theorem sctake_sign : FnScope Ntake_sign Ptake_sign (defScope stake_sign) := ⟨rfl, rfl, rfl, by decide +kernel, rfl, by decide +kernel, by decide +kernel⟩
abbrev sgrouped : Stmt := top 28
abbrev Ngrouped : List Str := ["half", "other", "left", "word", "depth", "leaves"]
abbrev Pgrouped : List Str := ["half", "other"]
theorem scgrouped : FnScope Ngrouped Pgrouped (defScope sgrouped) := ⟨rfl, rfl, rfl, by decide +kernel, rfl, by decide +kernel, by decide +kernel⟩
abbrev stold_form : Stmt := top 32
abbrev Ntold_form : List Str := ["part"]
theorem sctold_form : FnScope Ntold_form Ntold_form (defScope stold_form) := ⟨rfl, rfl, rfl, by decide +kernel, rfl, by decide +kernel, by decide +kernel⟩
theorem putF_len (f : Str) (v : V) : ∀ fs : List (Str × V), (putF f v fs).length ≤ fs.length + 1
  | [] => by show 1 ≤ 1; decide
  | (g, x) :: r => by
    show (if g = f then _ else _ : List (Str × V)).length ≤ _
    by_cases h : g = f
    · rw [if_pos h]
      simp
    · rw [if_neg h]
      have := putF_len f v r
      simp only [List.length_cons]
      omega
/-! ### forms as trees -/
inductive Sg where
  | mul | bar | amp | plus
def Sg.code : Sg → Nat | .mul => 42 | .bar => 124 | .amp => 38 | .plus => 43
def Sg.word : Sg → Str | .mul => Str.ofString "both" | .bar => Str.ofString "between" | .amp => Str.ofString "offered" | .plus => Str.ofString "chosen"
def leafZ (co : Bool) : Str := if co then Str.ofString "counter" else Str.ofString "good"
inductive FT where
  | leaf (co : Bool) (n : List Nat)
  | node (s : Sg) (l r : FT)
def FT.dep : FT → Nat | .leaf _ _ => 0 | .node _ l r => 1 + max l.dep r.dep
def FT.lvs : FT → Nat | .leaf _ _ => 1 | .node _ l r => l.lvs + r.lvs
def FT.data : FT → PyData | .leaf co n => .tuple [.str (leafZ co), .str (Z n)] | .node s l r => .tuple [.str s.word, l.data, r.data]
def FT.Ok : FT → Prop | .leaf _ n => isName (Z n) = true | .node _ l r => l.Ok ∧ r.Ok
def Fm (K : PySem.W.Frag) (H : Hp) : FT → V → Prop
  | .leaf co n, v => ∃ a, v = .ref a ∧ SqT K H a [.str (leafZ co), .str (Z n)]
  | .node s l r, v => ∃ a x y, v = .ref a ∧ SqT K H a [.str s.word, x, y] ∧ Fm K H l x ∧ Fm K H r y
/-! ### tuples stay -/
def Hard (o : HO) : Prop := (∃ xs, o = .tup xs) ∨ ∃ ob u, o = .frz ob u
def KT (H H' : Hp) : Prop := ∀ a o, Hard o → H a = some o → H' a = some o
theorem KT.refl (H : Hp) : KT H H := fun _ _ _ h => h
theorem KT.trans {H H1 H2 : Hp} (a : KT H H1) (b : KT H1 H2) : KT H H2 := fun c o n h => b c o n (a c o n h)
theorem Same.kt {H H' : Hp} (s : Same H H') : KT H H' := fun a o _ h => s a o h
theorem KT.seq {K : PySem.W.Frag} {H H' : Hp} {a : Addr} {xs : List V} (k : KT H H') (h : SqT K H a xs) : SqT K H' a xs := by
  rcases h with (h | ⟨u, h⟩) | h
  · exact .inl (.inl (k _ _ (.inl ⟨_, rfl⟩) h))
  · exact .inl (.inr ⟨u, k _ _ (.inr ⟨_, _, rfl⟩) h⟩)
  · exact .inr h
theorem KT.fm {K : PySem.W.Frag} {H H' : Hp} (k : KT H H') : ∀ (t : FT) {v : V}, Fm K H t v → Fm K H' t v
  | .leaf _ _, _, ⟨a, e, h⟩ => ⟨a, e, k.seq h⟩
  | .node _ l r, _, ⟨a, x, y, e, h, hl, hr⟩ => ⟨a, x, y, e, k.seq h, k.fm l hl, k.fm r hr⟩
theorem Keep.kt {p : Addr} {H H' : Hp} {C dx : Addr} {fs : List (Str × V)} (hp : H p = some (.ins C dx fs)) (k : Keep p H H') : KT H H' := fun a o n h => by
  refine k a o (fun e => ?_) h
  subst e
  rw [hp] at h
  cases h
  rcases n with ⟨_, e⟩ | ⟨_, _, e⟩ <;> cases e
theorem Mv.keep {p : Addr} {H H' : Hp} (m : Mv p H H') : Keep p H H' := fun b o n h => by rw [m b n]; exact h
theorem FT.of_fm {K : PySem.W.Frag} {H : Hp} : ∀ (t : FT) {v : V}, Fm K H t v → Dp K H v t.data
  | .leaf _ _, _, ⟨a, e, h⟩ => by subst e; exact .tup h (.cons (.str _) (.cons (.str _) .nil))
  | .node _ l r, _, ⟨a, x, y, e, h, hl, hr⟩ => by subst e; exact .tup h (.cons (.str _) (.cons (FT.of_fm l hl) (.cons (FT.of_fm r hr) .nil)))
/-! ### what is written -/
def wF (u d l : V) : List (Str × V) := [("form", u), ("depth", d), ("leaves", l)]
def wO (CW dx : Addr) (u : V) (d l : Nat) : HO := .ins CW dx (wF u (.int d) (.int l))
theorem nFD : ¬ (("form" : Str) = "depth") := by decide +kernel
theorem nFL : ¬ (("form" : Str) = "leaves") := by decide +kernel
theorem nDL : ¬ (("depth" : Str) = "leaves") := by decide +kernel
theorem wF_form (u d l : V) : (wF u d l).lookup ("form" : Str) = some u := by
  unfold wF
  simp only [List.lookup, beq_self_eq_true]
theorem wF_depth (u d l : V) : (wF u d l).lookup ("depth" : Str) = some d := by
  unfold wF
  simp only [List.lookup, (by decide +kernel : (("depth" : Str) == "form") = false), beq_self_eq_true]
theorem wF_leaves (u d l : V) : (wF u d l).lookup ("leaves" : Str) = some l := by
  unfold wF
  simp only [List.lookup, (by decide +kernel : (("leaves" : Str) == "form") = false), (by decide +kernel : (("leaves" : Str) == "depth") = false), beq_self_eq_true]
theorem putF_wF (u d l : V) : putF "leaves" l (putF "depth" d (putF "form" u [])) = wF u d l := by
  have e1 : putF "depth" d (putF "form" u []) = ([("form", u), ("depth", d)] : List (Str × V)) := by
    show (if ("form" : Str) = "depth" then _ else _ : List (Str × V)) = _
    rw [if_neg nFD]
    rfl
  rw [e1]
  show (if ("form" : Str) = "leaves" then _ else _ : List (Str × V)) = _
  rw [if_neg nFL]
  show _ :: (if ("depth" : Str) = "leaves" then _ else _ : List (Str × V)) = _
  rw [if_neg nDL]
  rfl
theorem lt3 (f g : Str) (u v : V) : (putF f u (putF g v [])).length < 1000 := by
  have := putF_len f u (putF g v [])
  have e : (putF g v []).length = 1 := rfl
  omega
def Wr (K : PySem.W.Frag) (CW : Addr) (H : Hp) (t : FT) (v : V) : Prop :=
  ∃ a dx u, v = .ref a ∧ H a = some (wO CW dx u t.dep t.lvs) ∧ (t.dep ≤ 12 → Fm K H t u) ∧ (12 < t.dep → u = .non)
structure WrTxt (K : PySem.W.Frag) (mg : Str → Option Value) (CW fI : Addr) : Prop where
  cl : Cls K CW
  nForm : NoAttr K CW "form"
  nDepth : NoAttr K CW "depth"
  nLeaves : NoAttr K CW "leaves"
  made : Mk K CW fI
  g : mg "Written" = some (.ref CW)
theorem Wr.same {K : PySem.W.Frag} {CW : Addr} {H H' : Hp} {t : FT} {v : V} (h : Wr K CW H t v) (s : Same H H') : Wr K CW H' t v := by
  obtain ⟨a, dx, u, e, h1, h2, h3⟩ := h
  exact ⟨a, dx, u, e, s _ _ h1, fun d => (Same.kt s).fm t (h2 d), h3⟩
theorem rO_ne_wO {CR dx CW dy : Addr} {pre suf : List Nat} {u : V} {d l : Nat} : rO CR dx pre suf ≠ wO CW dy u d l := fun e => by
  have e2 := HO.ins.inj e
  have e3 := congrArg (fun q : List (Str × V) => q.length) e2.2.2
  exact absurd e3 (by show ¬ (2 = 3); decide)
theorem Wr.keep {K : PySem.W.Frag} {CR dx CW : Addr} {pre suf : List Nat} {H H' : Hp} {p : Addr} {t : FT} {v : V} (h : Wr K CW H t v) (hp : H p = some (rO CR dx pre suf)) (k : Keep p H H') : Wr K CW H' t v := by
  obtain ⟨a, dx, u, e, h1, h2, h3⟩ := h
  refine ⟨a, dx, u, e, k _ _ (fun z => ?_) h1, fun d => (Keep.kt hp k).fm t (h2 d), h3⟩
  rw [z, hp] at h1
  exact rO_ne_wO (Option.some.inj h1)
def zTilde : Str := Str.ofString "~"
def leafS (co : Bool) (n : List Nat) : List Nat := n ++ (if co then [126] else [])
/-- the signs of forms with their words -/
def wordsF : List (Key × V) := [(.inr ⟨#[42]⟩, .str (Str.ofString "both")), (.inr ⟨#[124]⟩, .str (Str.ofString "between")), (.inr ⟨#[38]⟩, .str (Str.ofString "offered")), (.inr ⟨#[43]⟩, .str (Str.ofString "chosen")), (.inr ⟨#[126]⟩, .str (Str.ofString "counter"))]
def forkC : List Nat := [42, 124, 38, 43]
def spWr0 (CW : Addr) : Sp := fun vs H Q _ => ∃ (p dx : Addr) (u : V) (d l : Nat), vs = [.ref p, u, .int d, .int l] ∧ H p = some (.ins CW dx []) ∧ ∀ H', Mv p H H' → H' p = some (wO CW dx u d l) → Q .non H'
def spTakeLeaf (K : PySem.W.Frag) (CR CW : Addr) : Sp := fun vs H Q _ => ∃ (p dx W : Addr) (pre n suf : List Nat) (co : Bool), vs = [.ref p, .ref W] ∧ H p = some (rO CR dx pre (leafS co n ++ suf)) ∧ H W = some (.dK wordsF) ∧ isName (Z n) = true ∧ suf.head?.any isLD = false ∧ seesB suf zTilde = false ∧
  pre.length + (leafS co n).length + suf.length ≤ sizeLine ∧ ∀ H' v, Keep p H H' → H' p = some (rO CR dx (pre ++ leafS co n) suf) → Wr K CW H' (.leaf co n) v → Q v H'
def spTakeSign (K : PySem.W.Frag) (CR : Addr) : Sp := fun vs H Q _ => ∃ (p dx W l : Addr) (pre suf : List Nat) (s : Sg), vs = [.ref p, .ref W, .ref l] ∧ H p = some (rO CR dx pre (s.code :: suf)) ∧ H W = some (.dK wordsF) ∧ SqL K H l (signsL forkC) ∧
  pre.length + suf.length + 1 ≤ sizeLine ∧ ∀ H', Keep p H H' → H' p = some (rO CR dx (pre ++ [s.code]) suf) → Q (.str s.word) H'
def spGrouped (K : PySem.W.Frag) (CW : Addr) : Sp := fun vs H Q _ => ∃ (h : Addr) (v1 v2 : V) (s : Sg) (l r : FT), vs = [.ref h, v2] ∧ SqT K H h [v1, .str s.word] ∧ Wr K CW H l v1 ∧ Wr K CW H r v2 ∧
  ∀ H' v, Same H H' → Wr K CW H' (.node s l r) v → Q v H'
def spTold (K : PySem.W.Frag) (CW : Addr) : Sp := fun vs H Q _ => ∃ (v : V) (t : FT), vs = [v] ∧ Wr K CW H t v ∧ t.dep ≤ 12 ∧ ∀ u, Fm K H t u → Q u H
structure TxtW (K : PySem.W.Frag) (mg : Str → Option Value) (w : World) where
  max : mg "max" = none
  DEEPEST : ∃ u, mg "DEEPEST" = some u ∧ RelV (.int 12) u
  aFW : Addr
  FORM_WORDS : ∃ u, mg "FORM_WORDS" = some u ∧ RelV (.ref aFW) u
  dFW : SDict K w aFW wordsF
  dict : mg "dict" = none
section
variable {P : Program} {w : World} {K : PySem.W.Frag} {mg : Str → Option Value} {base : Heap} {f : Addr} {fd : FuncData} {CR CW fI : Addr}
theorem okWr0 (T : WrTxt K mg CW fI) (F : Fun K "__init__" "Written.__init__" sWr0 f fd) : FnOk P w K mg base CX0 1 f fd NWr0 (spWr0 CW) := by
  refine F.ok scWr0 (fun vs H Q E h => ?_) (fun cdv A outer s H vs Q E hr h => ?_)
  · obtain ⟨p, dx, u, d, l, rfl, _⟩ := h
    rfl
  obtain ⟨p, dx, u, d, l, rfl, hp, q⟩ := h
  refine ⟨_, pss_cons (ps_fld (pv 0) (pv 1) rfl) (pss_cons (ps_fld (pv 0) (pv 2) rfl) (pss_one (ps_fld (pv 0) (pv 3) rfl))), ?_⟩
  refine ⟨_, rfl, _, rfl, p, CW, dx, _, rfl, hp, T.cl, T.nForm, (by show 0 < 1000; decide), ?_⟩
  refine ⟨_, rfl, _, rfl, p, CW, dx, _, rfl, upd_same, T.cl, T.nDepth, (by show 1 < 1000; decide), ?_⟩
  refine ⟨_, rfl, _, rfl, p, CW, dx, _, rfl, upd_same, T.cl, T.nLeaves, lt3 _ _ _ _, ?_⟩
  refine q _ (Mv.upd (Mv.upd (Mv.upd (Mv.refl _ _)))) ?_
  rw [upd_same, putF_wF]
  rfl
theorem same_make {H : Hp} {x dx C : Addr} (nx : H x = none) (nd : H dx = none) (ne : dx ≠ x) : Same H (upd (upd H dx (.own x)) x (.ins C dx [])) := fun b o e => by
  rw [upd_ne (ne_of_none e nx), upd_ne (ne_of_none e nd)]
  exact e
theorem same_mv {H H1 H2 : Hp} {x : Addr} (s : Same H H1) (nx : H x = none) (m : Mv x H1 H2) : Same H H2 := fun b o e => by
  rw [m b (ne_of_none e nx)]
  exact s b o e
theorem wr_make {H : Hp} {Q : VK} {E : XK} {u : V} {d l : Nat} (x dx : Addr) (nx : H x = none) (nd : H dx = none) (ne : dx ≠ x) (q : ∀ H', Same H H' → H' x = some (wO CW dx u d l) → Q (.ref x) H') :
    spWr0 CW [.ref x, u, .int d, .int l] (upd (upd H dx (.own x)) x (.ins CW dx [])) (fun v H3 => v = .non ∧ Q (.ref x) H3) E :=
  ⟨x, dx, u, d, l, rfl, upd_same, fun H' m h => ⟨rfl, q H' (same_mv (same_make nx nd ne) nx m) h⟩⟩
theorem oktake_leaf {R : RdTxt K CR} (T : WrTxt K mg CW fI) {fdI : FuncData} (GI : FnOk P w K mg base CX0 1 fI fdI NWr0 (spWr0 CW)) (bI : Binds K fdI NWr0 []) (M1 : Mth P w K mg base CR "sees" 1 NRd1 (spSees CR)) (M4 : Mth P w K mg base CR "take" 2 NRd1 (spTake CR))
    (M9 : Mth P w K mg base CR "take_name" 3 NRd2 (spTakeName CR)) (F : Fun K "take_leaf" "take_leaf" stake_leaf f fd) : FnOk P w K mg base CX0 4 f fd Ptake_leaf (spTakeLeaf K CR CW) := by
  refine F.ok sctake_leaf (fun vs H Q E h => ?_) (fun cdv A outer s H vs Q E hr h => ?_)
  · obtain ⟨p, dx, W, pre, n, suf, co, rfl, _⟩ := h
    rfl
  obtain ⟨p, dx, W, pre, n, suf, co, rfl, hp, hW, hn, hs, ht, hl, q⟩ := h
  refine ⟨_, (pss_cons (ps_set (i := 2) sctake_leaf.nd rfl (Or.inl rfl) (pe_methM0 M9 (pv 0) R.cl hr))
  (pss_cons (ps_if (PW.pt (pw_and (pt_cmp (pc_din (hu_of hr) pe_str (pv 1))) (pw_and1 (pt_val (pe_methM M1 (pv 0) R.cl hr (pa_cons pe_str pa_nil))))))
    (pss_cons (ps_expr (pe_methM M4 (pv 0) R.cl hr (pa_cons pe_str pa_nil)))
    (pss_one (ps_ret (pe_make T.made GI (hr.mono (by decide)) rfl T.g bI .nil pass0 (pa_cons (pe_tupN (pa_cons (pe_dget (hu_of hr) (pv 1) pe_str (fun _ _ => rfl)) (pa_cons (pv 2) pa_nil))) (pa_cons pe_int (pa_cons pe_int pa_nil)))))))
    pss_nil)
  (pss_one (ps_ret (pe_make T.made GI (hr.mono (by decide)) rfl T.g bI .nil pass0 (pa_cons (pe_tupN (pa_cons pe_str (pa_cons (pv 2) pa_nil))) (pa_cons pe_int (pa_cons pe_int pa_nil)))))))), ?_⟩
  refine ⟨_, rfl, p, dx, _, rfl, hp, rF_no, p, dx, pre, n, (if co then [126] else []) ++ suf, rfl, by rw [hp]; unfold leafS; rw [List.append_assoc], hn, ?_, ?_, fun H1 m1 h1 => ?_⟩
  · cases co
    · exact hs
    · show isLD 126 = false
      decide +kernel
  · unfold leafS at hl
    simp only [List.length_append] at hl ⊢
    omega
  have hl1 : (pre ++ n).length + ((if co then [126] else []) ++ suf).length ≤ sizeLine := by
    unfold leafS at hl
    simp only [List.length_append] at hl ⊢
    omega
  have nWp : W ≠ p := fun e => by rw [e, hp] at hW; cases hW
  have hW1 : H1 W = some (.dK wordsF) := by rw [m1 W nWp]; exact hW
  refine ⟨_, rfl, W, _, rfl, DGet.k (k := Sum.inr zTilde) hW1, _, rfl, ?_⟩
  refine iteT ?_
  refine ⟨_, rfl, p, dx, _, rfl, h1, rF_no, p, dx, pre ++ n, _, zTilde, rfl, h1, hl1, _, rfl, ?_⟩
  cases co with
  | false =>
    rw [show seesB ((if false = true then [126] else []) ++ suf) zTilde = false from ht]
    refine iteF ⟨_, rfl, le1k, fun t H2 s2 e2 => fun x dx' nx nd ne => wr_make (d := 0) (l := 1) x dx' nx nd ne fun H3 s3 h3 => ?_⟩
    have hh : H1 p = some (rO CR dx (pre ++ leafS false n) suf) := by
      rw [h1]
      unfold leafS
      rw [if_neg (by decide), List.append_nil]
      rfl
    exact q H3 _ ((Mv.keep m1).trans (Same.toKeep (s2.trans s3))) (s3 _ _ (s2 _ _ hh)) ⟨x, dx', _, rfl, h3, fun _ => ⟨t, rfl, (Same.kt s3).seq e2⟩, fun h => absurd h (by show ¬ (12 < 0); decide)⟩
  | true =>
    rw [show seesB ((if true = true then [126] else []) ++ suf) zTilde = true from (by show oneOf zTilde 126 = true; decide +kernel)]
    refine iteT ⟨_, rfl, p, dx, _, rfl, h1, rF_no, p, dx, pre ++ n, suf, 126, zTilde, rfl, h1, by decide +kernel, ?_, fun H1' m1' h1' => ?_⟩
    · simp only [List.length_append, if_true, List.length_cons, List.length_nil] at hl1 ⊢
      omega
    have hW1' : H1' W = some (.dK wordsF) := by rw [m1' W nWp]; exact hW1
    refine ⟨_, rfl, W, _, rfl, DGet.k (k := Sum.inr zTilde) hW1', _, rfl, le1k, fun t H2 s2 e2 => fun x dx' nx nd ne => wr_make (d := 0) (l := 1) x dx' nx nd ne fun H3 s3 h3 => ?_⟩
    have hh : H1' p = some (rO CR dx (pre ++ leafS true n) suf) := by
      rw [h1']
      unfold leafS
      rw [if_pos rfl, List.append_assoc]
    exact q H3 _ ((Mv.keep (m1.trans m1')).trans (Same.toKeep (s2.trans s3))) (s3 _ _ (s2 _ _ hh)) ⟨x, dx', _, rfl, h3, fun _ => ⟨t, rfl, (Same.kt s3).seq e2⟩, fun h => absurd h (by show ¬ (12 < 0); decide)⟩
theorem Sg.mem (s : Sg) : s.code ∈ forkC := by cases s <;> decide
theorem cut1 (c : Nat) : cutS ⟨#[c]⟩ (some 1) none = ⟨#[]⟩ := rfl
/-- of the first i signs those that are just this one -/
def flS (s : Sg) (i : Nat) : List V := (((wordsF.take i).map fun kv => kV kv.1).filter fun v => decide (v = .str ⟨#[s.code]⟩))
theorem flS_5 (s : Sg) : flS s 5 = [.str ⟨#[s.code]⟩] := by cases s <;> rfl
theorem words_at (s : Sg) : valV wordsF (Sum.inr ⟨#[s.code]⟩) = some (.str s.word) := by cases s <;> rfl
theorem words_key {i : Nat} {k : Key} {v : V} (h : wordsF[i]? = some (k, v)) : ∃ c, k = .inr ⟨#[c]⟩ ∧ i < 5 := by
  match i, h with
  | 0, h => exact ⟨_, (Prod.mk.inj (Option.some.inj h)).1.symm, by decide⟩
  | 1, h => exact ⟨_, (Prod.mk.inj (Option.some.inj h)).1.symm, by decide⟩
  | 2, h => exact ⟨_, (Prod.mk.inj (Option.some.inj h)).1.symm, by decide⟩
  | 3, h => exact ⟨_, (Prod.mk.inj (Option.some.inj h)).1.symm, by decide⟩
  | 4, h => exact ⟨_, (Prod.mk.inj (Option.some.inj h)).1.symm, by decide⟩
  | _ + 5, h => cases h
theorem flS_next {s : Sg} {i : Nat} {k : Key} {v : V} (h : wordsF[i]? = some (k, v)) : flS s (i + 1) = if kV k = .str ⟨#[s.code]⟩ then flS s i ++ [kV k] else flS s i := by
  unfold flS
  rw [take_next h, List.map_append, List.filter_append]
  by_cases e : kV k = .str ⟨#[s.code]⟩
  · rw [if_pos e]
    simp [e]
  · rw [if_neg e]
    simp [e]
theorem flS_len (s : Sg) (i : Nat) : (flS s i).length ≤ 5 := by
  unfold flS
  refine Nat.le_trans (List.length_filter_le _ _) ?_
  rw [List.length_map, List.length_take]
  exact Nat.min_le_right _ _
theorem oktake_sign {R : RdTxt K CR} (M4 : Mth P w K mg base CR "take" 2 NRd1 (spTake CR)) (M4L : Mth P w K mg base CR "take" 2 NRd1 (spTakeL K CR)) (F : Fun K "take_sign" "take_sign" stake_sign f fd) : FnOk P w K mg base CX0 3 f fd Ptake_sign (spTakeSign K CR) := by
  refine F.ok sctake_sign (fun vs H Q E h => ?_) (fun cdv A outer s H vs Q E hr h => ?_)
  · obtain ⟨p, dx, W, l, pre, suf, s, rfl, _⟩ := h
    rfl
  obtain ⟨p, dx, W, l, pre, suf, sg, rfl, hp, hW, hL, hl, q⟩ := h
  refine ⟨_, (pss_cons (ps_set (i := 3) sctake_sign.nd rfl (Or.inr rfl) (pe_methM M4L (pv 0) R.cl hr (pa_cons (pv 2) pa_nil)))
  (pss_cons (ps_lock (ps_set (i := 4) sctake_sign.nd rfl (Or.inl rfl) (pe_ix ix_list (pe_lc (own := [("sign", 6)]) (g := (gName 6)) rfl sctake_sign.nd (pi_keys (pv 1)) (blkOk_by (own := [("sign", 6)]) (N := Ntake_sign) (sc := defScope stake_sign) (by decide +kernel)) (fun _ _ _ _ _ => (pg_name (i := 6) sctake_sign.nd rfl (Or.inl rfl))) (fun _ _ _ _ _ => (pts_one (pt_cmpR op_eq (pe_ix ix_str (pv 6) pe_int (fun _ _ => rfl)) (pv 3) (nomark _)))) (fun _ _ _ _ _ => (pv 6))) pe_int (fun _ _ => rfl))))
  (pss_cons (ps_for PassesOwn.never rfl (pi_str (pe_slice sl_str (pv 4) (po_some pe_int) po_none)) (pg_name (i := 5) sctake_sign.nd rfl (Or.inl rfl))
    (pss_one (ps_expr (pe_methM M4 (pv 0) R.cl hr (pa_cons (pv 5) pa_nil)))))
  (pss_one (ps_ret (pe_dget (hu_of hr) (pv 1) (pv 4) (fun _ _ => rfl))))))), ?_⟩
  have nWp : W ≠ p := fun e => by rw [e, hp] at hW; cases hW
  refine ⟨_, rfl, p, dx, _, rfl, hp, rF_no, _, rfl, p, dx, l, pre, suf, sg.code, forkC, rfl, hp, hL, sg.mem, hl, fun H1 m1 h1 => ?_⟩
  have hW1 : H1 W = some (.dK wordsF) := by rw [m1 W nWp]; exact hW
  refine ⟨W, .dK wordsF, hW1, trivial, fun od => ?_⟩
  obtain ⟨G, hG⟩ : ∃ G, G = upd H1 W (.frz od (.dK wordsF)) := ⟨_, rfl⟩
  rw [← hG]
  have gW : G W = some (.frz od (.dK wordsF)) := by rw [hG]; exact upd_same
  refine ⟨_, rfl, W, od, rfl, .inl ⟨wordsF, gW, fun D nD => ?_⟩⟩
  have nDW : D ≠ W := fun e => by rw [e, gW] at nD; cases nD
  refine lc_it walk_keys (fun i H' => Same G H' ∧ H' D = some (.lst (flS sg i))) ⟨same_new nD _, upd_same⟩ (fun i H' _ z => z.1 _ _ gW) (fun i x H2 H3 hi z y => ?_) (fun H' z => ?_)
  · obtain ⟨rfl, k, v, hk, rfl⟩ := y
    obtain ⟨c, rfl, _⟩ := words_key hk
    refine ⟨rfl, _, rfl, ⟨#[c]⟩, 0, c, rfl, rfl, (by show 1 ≤ sizeLine; decide), rfl, _, rfl, rfl, _, rfl, ?_⟩
    have fn := flS_next (s := sg) hk
    have hn : G D = none := nD
    refine ite2 (fun e => ?_) (fun e => ?_)
    · have e' : kV (.inr ⟨#[c]⟩) = .str ⟨#[sg.code]⟩ := of_decide_eq_true e
      rw [if_pos e'] at fn
      refine ⟨_, rfl, _, z.2, Nat.lt_of_le_of_lt (flS_len sg i) (by decide), same_fresh z.1 hn, ?_⟩
      rw [upd_same, fn]
    · have e' : ¬ kV (.inr ⟨#[c]⟩) = .str ⟨#[sg.code]⟩ := fun u => e (decide_eq_true u)
      rw [if_neg e'] at fn
      refine ⟨z.1, ?_⟩
      rw [fn]
      exact z.2
  · have p2 : H' D = some (.lst [.str ⟨#[sg.code]⟩]) := by rw [z.2]; exact congrArg (fun u => some (HO.lst u)) (flS_5 sg)
    have gW' := z.1 _ _ gW
    have nDp : D ≠ p := fun e => by
      have : G p = some (rO CR dx (pre ++ [sg.code]) suf) := by rw [hG, upd_ne (Ne.symm nWp)]; exact h1
      rw [e, this] at nD
      cases nD
    refine ⟨D, _, 0, _, rfl, rfl, SqL.of p2, rfl, gW', ?_⟩
    have hp2 : upd H' W (.dK wordsF) p = some (rO CR dx (pre ++ [sg.code]) suf) := by
      rw [upd_ne (Ne.symm nWp)]
      refine z.1 _ _ ?_
      rw [hG, upd_ne (Ne.symm nWp)]
      exact h1
    have kp : Keep p H (upd H' W (.dK wordsF)) := fun b o n e => by
      by_cases eb : b = W
      · subst eb
        rw [upd_same]
        rw [hW] at e
        exact e
      · rw [upd_ne eb]
        refine z.1 _ _ ?_
        rw [hG, upd_ne eb]
        exact m1.keep b o n e
    have hW2 : upd H' W (.dK wordsF) W = some (.dK wordsF) := upd_same
    refine ⟨_, rfl, _, rfl, _, rfl, (by show 1 ≤ sizeLine; decide), ?_⟩
    rw [cut1]
    refine ⟨_, rfl, ?_⟩
    refine for_it walk_str (fun i σ H'' => σ = [some (.ref p), some (.ref W), some (.ref l), some (.str ⟨#[sg.code]⟩), some (.str ⟨#[sg.code]⟩), none, none] ∧ H'' = upd H' W (.dK wordsF)) ⟨rfl, rfl⟩ (fun _ _ _ _ _ => trivial) (fun i x σ HX HY hi pv yy => absurd hi (Nat.not_lt_zero _)) (fun σ HX pv => ?_)
    obtain ⟨rfl, rfl⟩ := pv
    exact ⟨_, rfl, _, rfl, W, _, rfl, (by have g := DGet.k (k := Sum.inr ⟨#[sg.code]⟩) hW2; rw [words_at] at g; exact g), q _ kp hp2⟩
theorem okgrouped (T : WrTxt K mg CW fI) (Y : TxtW K mg w) {fdI : FuncData} (GI : FnOk P w K mg base CX0 1 fI fdI NWr0 (spWr0 CW)) (bI : Binds K fdI NWr0 []) (F : Fun K "grouped" "grouped" sgrouped f fd) : FnOk P w K mg base CX0 3 f fd Pgrouped (spGrouped K CW) := by
  refine F.ok scgrouped (fun vs H Q E h => ?_) (fun cdv A outer s H vs Q E hr h => ?_)
  · obtain ⟨h, v1, v2, s, l, r, rfl, _⟩ := h
    rfl
  obtain ⟨h, v1, v2, sg, l, r, rfl, hh, ⟨a1, dx1, u1, rfl, k1, f1, n1⟩, ⟨a2, dx2, u2, rfl, k2, f2, n2⟩, q⟩ := h
  refine ⟨_, (pss_cons (ps_asg (pv 0) (pg_tup rfl (pgs_cons (pg_name (i := 2) scgrouped.nd rfl (Or.inl rfl)) (pgs_cons (pg_name (i := 3) scgrouped.nd rfl (Or.inl rfl)) pgs_nil))))
  (pss_cons (ps_set (i := 4) scgrouped.nd rfl (Or.inl rfl) (pe_op op_add pe_int (pe_callB (call_max2 rfl) rfl Y.max (by decide +kernel) (pa_cons (pe_fld (pv 2) rfl) (pa_cons (pe_fld (pv 1) rfl) pa_nil)))))
  (pss_cons (ps_set (i := 5) scgrouped.nd rfl (Or.inl rfl) (pe_op op_add (pe_fld (pv 2) rfl) (pe_fld (pv 1) rfl)))
  (pss_cons (ps_if (pt_cmpR op_gt (pv 4) (pe_globE Y.DEEPEST) (nomark _))
    (pss_one (ps_ret (pe_make T.made GI (hr.mono (by decide)) rfl T.g bI .nil pass0 (pa_cons pe_non (pa_cons (pv 4) (pa_cons (pv 5) pa_nil))))))
    pss_nil)
  (pss_one (ps_ret (pe_make T.made GI (hr.mono (by decide)) rfl T.g bI .nil pass0 (pa_cons (pe_tupN (pa_cons (pv 3) (pa_cons (pe_fld (pv 2) rfl) (pa_cons (pe_fld (pv 1) rfl) pa_nil)))) (pa_cons (pv 4) (pa_cons (pv 5) pa_nil)))))))))), ?_⟩
  refine ⟨_, rfl, h, _, rfl, hh, rfl, _, _, rfl, _, _, rfl, rfl, ?_⟩
  refine ⟨_, rfl, _, CW, _, _, _, rfl, k1, T.cl, T.nDepth, wF_depth _ _ _, _, rfl, _, CW, _, _, _, rfl, k2, T.cl, T.nDepth, wF_depth _ _ _, _, _, rfl, _, _, rfl, rfl, ?_⟩
  refine ⟨_, rfl, _, CW, _, _, _, rfl, k1, T.cl, T.nLeaves, wF_leaves _ _ _, _, rfl, _, CW, _, _, _, rfl, k2, T.cl, T.nLeaves, wF_leaves _ _ _, _, _, rfl, rfl, ?_⟩
  have ed : (1 : Int) + (if ((r.dep : Nat) : Int) > ((l.dep : Nat) : Int) then ((r.dep : Nat) : Int) else ((l.dep : Nat) : Int)) = (((FT.node sg l r).dep : Nat) : Int) := by
    show _ = (((1 + max l.dep r.dep : Nat)) : Int)
    by_cases c : ((r.dep : Nat) : Int) > ((l.dep : Nat) : Int)
    · rw [if_pos c]; omega
    · rw [if_neg c]; omega
  dsimp only
  rw [ed]
  have el : ((l.lvs : Nat) : Int) + ((r.lvs : Nat) : Int) = (((FT.node sg l r).lvs : Nat) : Int) := by
    show _ = (((l.lvs + r.lvs : Nat)) : Int)
    omega
  rw [el]
  refine ⟨_, rfl, _, _, rfl, rfl, _, rfl, ?_⟩
  refine ite2 (fun c1 => ?_) (fun c1 => ?_)
  · have c2 : 12 < (FT.node sg l r).dep := by
      have := of_decide_eq_true c1
      omega
    exact ⟨_, rfl, _, rfl, fun x dx nx nd ne => wr_make x dx nx nd ne fun H3 s3 h3 => q H3 _ s3 ⟨x, dx, _, rfl, h3, fun h => absurd h (by omega), fun _ => rfl⟩⟩
  · have c2 : (FT.node sg l r).dep ≤ 12 := Nat.le_of_not_lt fun h => c1 (decide_eq_true (by omega))
    have c3 : 1 + max l.dep r.dep ≤ 12 := c2
    refine ⟨_, rfl, _, rfl, _, CW, _, _, _, rfl, k1, T.cl, T.nForm, wF_form _ _ _, _, rfl, _, CW, _, _, _, rfl, k2, T.cl, T.nForm, wF_form _ _ _, le1k, fun t H2 s2 e2 => ⟨_, rfl, _, rfl, fun x dx nx nd ne => wr_make x dx nx nd ne fun H3 s3 h3 => ?_⟩⟩
    have k : KT H H3 := Same.kt (s2.trans s3)
    exact q H3 _ (s2.trans s3) ⟨x, dx, _, rfl, h3, fun _ => ⟨t, _, _, rfl, (Same.kt s3).seq e2, k.fm l (f1 (by omega)), k.fm r (f2 (by omega))⟩, fun h => absurd h (by omega)⟩
theorem oktold_form (T : WrTxt K mg CW fI) (Y : TxtW K mg w) (F : Fun K "told_form" "told_form" stold_form f fd) : FnOk P w K mg base CX0 1 f fd Ntold_form (spTold K CW) := by
  refine F.ok sctold_form (fun vs H Q E h => ?_) (fun cdv A outer s H vs Q E hr h => ?_)
  · obtain ⟨v, t, rfl, _⟩ := h
    rfl
  obtain ⟨v, t, rfl, ⟨a, dx, u, rfl, k, hf, hn⟩, hd, q⟩ := h
  refine ⟨_, (pss_cons (ps_if (pt_cmpR op_gt (pe_fld (pv 0) rfl) (pe_globE Y.DEEPEST) (nomark _)) (pss_one ps_no) pss_nil) (pss_one (ps_ret (pe_fld (pv 0) rfl)))), ?_⟩
  refine ⟨_, rfl, _, CW, _, _, _, rfl, k, T.cl, T.nDepth, wF_depth _ _ _, _, _, rfl, rfl, _, rfl, ?_⟩
  rw [decide_eq_false (by omega)]
  exact iteF ⟨_, rfl, _, CW, _, _, _, rfl, k, T.cl, T.nForm, wF_form _ _ _, q _ (hf hd)⟩
end
end My

set_option Elab.async false
set_option linter.all false
set_option maxRecDepth 100000
namespace My
open PySem L2
abbrev stake_halved : Stmt := top 29
abbrev Ntake_halved : List Str := ["reader", "words", "begins", "halves", "part", "sign"]
abbrev Ptake_halved : List Str := ["reader", "words"]
theorem sctake_halved : FnScope Ntake_halved Ptake_halved (defScope stake_halved) := ⟨rfl, rfl, rfl, by decide +kernel, rfl, by decide +kernel, by decide +kernel⟩
abbrev stake_form : Stmt := top 30
abbrev Ntake_form : List Str := ["reader"]
abbrev Ptake_form : List Str := ["reader"]
theorem sctake_form : FnScope Ntake_form Ptake_form (defScope stake_form) := ⟨rfl, rfl, rfl, by decide +kernel, rfl, by decide +kernel, by decide +kernel⟩
/-! ### texts of forms, with spaces -/
abbrev spc (k : Nat) : List Nat := List.replicate k 32
inductive Half : FT → List Nat → Prop
  | leaf (co : Bool) (n : List Nat) : isName (Z n) = true → Half (.leaf co n) (leafS co n)
  | node (s : Sg) {l r : FT} (a b c d : Nat) {tl tr : List Nat} : Half l tl → Half r tr → Half (.node s l r) (40 :: (spc a ++ (tl ++ (spc b ++ (s.code :: (spc c ++ (tr ++ (spc d ++ [41]))))))))
inductive Fr where
  | lf (s : Sg) (r : FT)
  | rt (s : Sg) (l : FT)
/-- what stands behind a part, with R behind the whole -/
inductive Tail (R : List Nat) : List Fr → List Nat → Prop
  | nil : Tail R [] R
  | rt1 (s : Sg) (l : FT) : Tail R [.rt s l] R
  | rt (s : Sg) (l : FT) (k : Nat) {f : Fr} {fs : List Fr} {t : List Nat} : Tail R (f :: fs) t → Tail R (.rt s l :: f :: fs) (41 :: (spc k ++ t))
  | lf (s : Sg) (l : FT) (c d : Nat) {r : FT} {tr : List Nat} {fs : List Fr} {t : List Nat} : Half r tr → Tail R (.rt s l :: fs) t → Tail R (.lf s r :: fs) (s.code :: (spc c ++ (tr ++ (spc d ++ t))))
def plug : List Fr → FT → FT
  | [], t => t
  | .lf s r :: fs, t => plug fs (.node s t r)
  | .rt s l :: fs, t => plug fs (.node s l t)
theorem ixN_last {α : Type} (xs : List α) (v : α) : ixN (xs ++ [v]).length (-1) = some xs.length := by
  unfold ixN
  rw [if_neg (by decide), if_pos (by simp only [List.length_append, List.length_cons, List.length_nil]; omega)]
  congr 1
  simp only [List.length_append, List.length_cons, List.length_nil]
  omega
theorem set_last {α : Type} (v u : α) : ∀ xs : List α, (xs ++ [v]).set xs.length u = xs ++ [u]
  | [] => rfl
  | x :: xs => congrArg (x :: ·) (set_last v u xs)
theorem Tail.swap {R : List Nat} {s : Sg} {l l' : FT} {fs : List Fr} {t : List Nat} (h : Tail R (.rt s l :: fs) t) : Tail R (.rt s l' :: fs) t := by
  cases h with
  | rt1 => exact .rt1 s l'
  | rt _ _ k h => exact .rt s l' k h
def zFork : Str := Str.ofString "*|&+"
def zOpen : Str := Str.ofString "("
def zClose : Str := Str.ofString ")"
/-- what stands behind a part -/
def Stops (t : List Nat) : Prop := t.head?.any isLD = false ∧ seesB t zTilde = false ∧ seesB t zSpace = false
theorem Sg.no (s : Sg) : isLD s.code = false ∧ oneOf zTilde s.code = false ∧ oneOf zSpace s.code = false ∧ oneOf zFork s.code = true := by
  cases s <;> decide +kernel
theorem Sg.stops (s : Sg) (t : List Nat) : Stops (s.code :: t) := ⟨s.no.1, s.no.2.1, s.no.2.2.1⟩
theorem Sg.sees (s : Sg) (t : List Nat) : seesLB (s.code :: t) forkC = true := decide_eq_true s.mem
theorem close_stops (t : List Nat) : Stops (41 :: t) := ⟨(by decide +kernel : isLD 41 = false), (by decide +kernel : oneOf zTilde 41 = false), (by decide +kernel : oneOf zSpace 41 = false)⟩
theorem Tail.stops {R : List Nat} {fr : List Fr} {t : List Nat} (hR : Stops R) (h : Tail R fr t) : Stops t := by
  cases h with
  | nil => exact hR
  | rt1 => exact hR
  | rt => exact close_stops _
  | lf s => exact s.stops _
theorem spc_stops {k : Nat} {t : List Nat} (h : Stops t) : (spc k ++ t).head?.any isLD = false ∧ seesB (spc k ++ t) zTilde = false := by
  cases k with
  | zero => exact ⟨h.1, h.2.1⟩
  | succ k => exact ⟨(by decide +kernel : isLD 32 = false), (by decide +kernel : oneOf zTilde 32 = false)⟩
theorem letter_no {c : Nat} (h : isL c = true) : oneOf zOpen c = false ∧ oneOf zSpace c = false := by
  have h2 : c ∈ zLetters.cps.toList := of_decide_eq_true h
  constructor
  · refine decide_eq_false fun hc => ?_
    have e : c = 40 := by
      have : zOpen.cps.toList = [40] := by decide +kernel
      rw [this] at hc
      simpa using hc
    subst e
    exact absurd h2 (by decide +kernel)
  · refine decide_eq_false fun hc => ?_
    have e : c = 32 := by
      have : zSpace.cps.toList = [32] := by decide +kernel
      rw [this] at hc
      simpa using hc
    subst e
    exact absurd h2 (by decide +kernel)
theorem leaf_head {co : Bool} {n t : List Nat} (h : isName (Z n) = true) : seesB (leafS co n ++ t) zOpen = false ∧ seesB (leafS co n ++ t) zSpace = false := by
  cases n with
  | nil => exact absurd h (by decide)
  | cons c n =>
    unfold isName at h
    rw [Bool.and_eq_true, Bool.and_eq_true] at h
    exact letter_no h.2.1
theorem Half.space {t : FT} {txt : List Nat} (h : Half t txt) (r : List Nat) : seesB (txt ++ r) zSpace = false := by
  cases h with
  | leaf co n hn => exact (leaf_head hn).2
  | node => exact (by decide +kernel : oneOf zSpace 40 = false)
/-! ### what stays through the reading -/
def Gd (CW : Addr) (H H' : Hp) : Prop := ∀ a o, (Hard o ∨ ∃ dx u d l, o = wO CW dx u d l) → H a = some o → H' a = some o
section
variable {K : PySem.W.Frag} {CW CR dx : Addr} {H H' : Hp} {p : Addr}
theorem Gd.of_same (s : Same H H') : Gd CW H H' := fun a o _ h => s a o h
theorem Gd.of_keep {pre suf : List Nat} (hp : H p = some (rO CR dx pre suf)) (k : Keep p H H') : Gd CW H H' := fun a o n h => by
  refine k a o (fun e => ?_) h
  subst e
  rw [hp] at h
  have h := Option.some.inj h
  rcases n with n | ⟨_, _, _, _, e⟩
  · subst h
    rcases n with ⟨_, e⟩ | ⟨_, _, e⟩ <;> cases e
  · exact rO_ne_wO (h.trans e)
theorem Gd.of_lst {L : Addr} {xs ys : List V} (hL : H L = some (.lst xs)) : Gd CW H (upd H L (.lst ys)) := fun a o n h => by
  refine (upd_ne (fun e => ?_)).trans h
  subst e
  rw [hL] at h
  have h := Option.some.inj h
  subst h
  rcases n with (⟨_, e⟩ | ⟨_, _, e⟩) | ⟨_, _, _, _, e⟩ <;> cases e
theorem Gd.trans {H1 H2 : Hp} (a : Gd CW H H1) (b : Gd CW H1 H2) : Gd CW H H2 := fun c o n h => b c o n (a c o n h)
theorem Gd.kt (g : Gd CW H H') : KT H H' := fun a o n h => g a o (.inl n) h
theorem Wr.gd {t : FT} {v : V} (g : Gd CW H H') (h : Wr K CW H t v) : Wr K CW H' t v := by
  obtain ⟨a, dx, u, e, h1, h2, h3⟩ := h
  exact ⟨a, dx, u, e, g _ _ (.inr ⟨_, _, _, _, rfl⟩) h1, fun d => g.kt.fm t (h2 d), h3⟩
def FrV (K : PySem.W.Frag) (CW : Addr) (H : Hp) : Fr → V → Prop
  | .lf _ _, v => v = .non
  | .rt s l, v => ∃ h v1, v = .ref h ∧ SqT K H h [v1, .str s.word] ∧ Wr K CW H l v1
theorem FrV.gd (g : Gd CW H H') : ∀ {f : Fr} {v : V}, FrV K CW H f v → FrV K CW H' f v
  | .lf _ _, _, h => h
  | .rt _ _, _, ⟨h, v1, e, hs, hw⟩ => ⟨h, v1, e, g.kt.seq hs, hw.gd g⟩
def Stk (K : PySem.W.Frag) (CW : Addr) (H : Hp) : List Fr → List V → Prop
  | [], xs => xs = [.non]
  | f :: fs, xs => ∃ v vs, xs = v :: vs ∧ FrV K CW H f v ∧ ((fs = [] ∧ vs = []) ∨ (fs ≠ [] ∧ Stk K CW H fs vs))
theorem Stk.gd (g : Gd CW H H') : ∀ {fr : List Fr} {xs : List V}, Stk K CW H fr xs → Stk K CW H' fr xs
  | [], _, h => h
  | f :: fs, _, ⟨v, vs, e, hf, h⟩ => ⟨v, vs, e, hf.gd g, h.imp id fun h => ⟨h.1, h.2.gd g⟩⟩
end
def spTakeHalved (K : PySem.W.Frag) (CR CW : Addr) : Sp := fun vs H Q _ => ∃ (p dx W : Addr) (pre txt rest R : List Nat) (k k2 : Nat) (fr : List Fr) (t : FT), vs = [.ref p, .ref W] ∧ H p = some (rO CR dx pre (spc k ++ (txt ++ (spc k2 ++ rest)))) ∧ H W = some (.dK wordsF) ∧
  Half t txt ∧ Stops R ∧ seesLB R forkC = false ∧ Tail R fr rest ∧ ((fr = [] ∧ ∃ co n, t = .leaf co n) ∨ ∃ s r, fr = [.lf s r]) ∧ (pre ++ (spc k ++ (txt ++ (spc k2 ++ rest)))).length + 2 ≤ sizeLine ∧
  ∀ H' v pre', Keep p H H' → H' p = some (rO CR dx pre' R) → pre' ++ R = pre ++ (spc k ++ (txt ++ (spc k2 ++ rest))) → Wr K CW H' (plug fr t) v → Q v H'
def spTakeForm (K : PySem.W.Frag) (CR CW : Addr) : Sp := fun vs H Q _ => ∃ (p dx : Addr) (pre txt rest R : List Nat) (k k2 : Nat) (fr : List Fr) (t : FT), vs = [.ref p] ∧ H p = some (rO CR dx pre (spc k ++ (txt ++ (spc k2 ++ rest)))) ∧
  Half t txt ∧ Stops R ∧ seesLB R forkC = false ∧ Tail R fr rest ∧ ((fr = [] ∧ ∃ co n, t = .leaf co n) ∨ ∃ s r, fr = [.lf s r]) ∧ (pre ++ (spc k ++ (txt ++ (spc k2 ++ rest)))).length + 2 ≤ sizeLine ∧
  ∀ H' v pre', Keep p H H' → H' p = some (rO CR dx pre' R) → pre' ++ R = pre ++ (spc k ++ (txt ++ (spc k2 ++ rest))) → Wr K CW H' (plug fr t) v → Q v H'
/-- the first signs, all but ~ -/
def flB (i : Nat) : List V := (((wordsF.take i).map fun kv => kV kv.1).filter fun v => !decide (v = .str zTilde))
theorem flB_5 : flB 5 = signsL forkC := by decide +kernel
theorem flB_len (i : Nat) : (flB i).length ≤ 5 := by
  unfold flB
  refine Nat.le_trans (List.length_filter_le _ _) ?_
  rw [List.length_map, List.length_take]
  exact Nat.min_le_right _ _
theorem flB_next {i : Nat} {k : Key} {v : V} (h : wordsF[i]? = some (k, v)) : flB (i + 1) = if kV k = .str zTilde then flB i else flB i ++ [kV k] := by
  unfold flB
  rw [take_next h, List.map_append, List.filter_append]
  by_cases e : kV k = .str zTilde
  · rw [if_pos e]
    simp [e]
  · rw [if_neg e]
    simp [e]
section
variable {P : Program} {w : World} {K : PySem.W.Frag} {mg : Str → Option Value} {base : Heap} {f : Addr} {fd : FuncData} {CR CW fI : Addr}
theorem oktake_halved {R : RdTxt K CR} (T : WrTxt K mg CW fI) (X0 : Txt K mg) (M1 : Mth P w K mg base CR "sees" 1 NRd1 (spSees CR)) (M1L : Mth P w K mg base CR "sees" 1 NRd1 (spSeesL K CR)) (M4 : Mth P w K mg base CR "take" 2 NRd1 (spTake CR))
    (M5 : Mth P w K mg base CR "skip_spaces" 2 NRd2 (spSkip CR)) (Ctake_leaf : Cal P w K mg base "take_leaf" 4 Ptake_leaf (spTakeLeaf K CR CW)) (Cgrouped : Cal P w K mg base "grouped" 3 Pgrouped (spGrouped K CW)) (Ctake_sign : Cal P w K mg base "take_sign" 3 Ptake_sign (spTakeSign K CR))
    (F : Fun K "take_halved" "take_halved" stake_halved f fd) : FnOk P w K mg base CX0 5 f fd Ptake_halved (spTakeHalved K CR CW) := by
  refine F.ok sctake_halved (fun vs H Q E h => ?_) (fun cdv A outer s H vs Q E hr h => ?_)
  · obtain ⟨p, dx, W, pre, txt, rest, R, k, k2, fr, t, rfl, _⟩ := h
    rfl
  obtain ⟨p, dx, W, pre, txt, rest, R0, k, k2, fr, t, rfl, hp, hW, hh, hR, hR2, ht, hfr, hl, q⟩ := h
  refine ⟨_, (pss_cons (ps_lock (ps_setLc (i := 2) (own := [("sign", 5)]) (g := (gName 5)) rfl sctake_halved.nd rfl rfl (sw_true rfl rfl rfl (by decide +kernel)) (pi_keys (pv 1)) (blkOk_by (own := [("sign", 5)]) (N := Ntake_halved) (sc := defScope stake_halved) (by decide +kernel)) (fun _ _ _ _ _ => (pg_name (i := 5) sctake_halved.nd rfl (Or.inl rfl))) (fun _ _ _ _ _ => (pts_one (pt_cmpR op_ne (pv 5) pe_str (nomark _)))) (fun _ _ _ _ _ => (pe_ix ix_str (pv 5) pe_int (fun _ _ => rfl)))))
  (pss_cons (ps_set (i := 3) sctake_halved.nd rfl (Or.inl rfl) (pe_lst (pa_cons pe_non pa_nil)))
  (pss_one (ps_while PassesOwn.never (pt_truth pe_bl (by intro _; rfl))
    (pss_cons (ps_expr (pe_methM0 M5 (pv 0) R.cl hr))
    (pss_cons (ps_if (pt_val (pe_methM M1 (pv 0) R.cl hr (pa_cons pe_str pa_nil)))
      (pss_cons (ps_expr (pe_methM M4 (pv 0) R.cl hr (pa_cons pe_str pa_nil)))
      (pss_cons (ps_expr (pe_bm PySem.F.plainAttrs_list PySem.F.slot_list_append PySem.F.type_list_append mt_append (pv 3) (pa_cons pe_non pa_nil)))
      (pss_one ps_continue)))
      pss_nil)
    (pss_cons (ps_set (i := 4) sctake_halved.nd rfl (Or.inl rfl) (pe_callC Ctake_leaf hr (pa_cons (pv 0) (pa_cons (pv 1) pa_nil))))
    (pss_cons (ps_expr (pe_methM0 M5 (pv 0) R.cl hr))
    (pss_cons (ps_while PassesOwn.never (PW.pt (pw_and (pt_cmpR op_gt (pe_callB call_len rfl X0.len (by decide +kernel) (pa_cons (pv 3) pa_nil)) pe_int (nomark _)) (pw_and1 (pt_cmpR op_notN (pe_ix ix_list (pv 3) (pe_un un_neg pe_int) (fun _ _ => rfl)) pe_non (nomark _)))))
      (pss_cons (ps_expr (pe_methM M4 (pv 0) R.cl hr (pa_cons pe_str pa_nil)))
      (pss_cons (ps_expr (pe_methM0 M5 (pv 0) R.cl hr))
      (pss_one (ps_set (i := 4) sctake_halved.nd rfl (Or.inl rfl) (pe_callC Cgrouped hr (pa_cons (pe_bm0 PySem.F.plainAttrs_list PySem.F.slot_list_pop PySem.F.type_list_pop mt_pop (pv 3)) (pa_cons (pv 4) pa_nil))))))))
    (pss_cons (ps_if (pt_cmpR op_notN (pe_ix ix_list (pv 3) (pe_un un_neg pe_int) (fun _ _ => rfl)) pe_non (nomark _))
      (pss_one (ps_ret (pe_callC Cgrouped hr (pa_cons (pe_ix ix_list (pv 3) (pe_un un_neg pe_int) (fun _ _ => rfl)) (pa_cons (pv 4) pa_nil)))))
      pss_nil)
    (pss_cons (ps_if (PW.pt (pw_and (pt_cmpR op_eq (pe_callB call_len rfl X0.len (by decide +kernel) (pa_cons (pv 3) pa_nil)) pe_int (nomark _)) (pw_and (pt_cmpR op_eq (pe_fld (pv 4) rfl) pe_int (nomark _)) (pw_and1 (pt_not (pt_val (pe_methM M1L (pv 0) R.cl hr (pa_cons (pv 2) pa_nil))))))))
      (pss_one (ps_ret (pv 4)))
      pss_nil)
    (pss_one (ps_asg (pe_tupN (pa_cons (pv 4) (pa_cons (pe_callC Ctake_sign hr (pa_cons (pv 0) (pa_cons (pv 1) (pa_cons (pv 2) pa_nil)))) pa_nil))) (pg_sub (pv 3) (pe_un un_neg pe_int) set_list)))))))))))))), ?_⟩
  have nWp : W ≠ p := fun e => by rw [e, hp] at hW; cases hW
  refine ⟨W, .dK wordsF, hW, trivial, fun od => ?_⟩
  obtain ⟨G, hG⟩ : ∃ G, G = upd H W (.frz od (.dK wordsF)) := ⟨_, rfl⟩
  rw [← hG]
  have gW : G W = some (.frz od (.dK wordsF)) := by rw [hG]; exact upd_same
  refine ⟨_, rfl, W, od, rfl, .inl ⟨wordsF, gW, fun B nB => ?_⟩⟩
  have nBW : B ≠ W := fun e => by rw [e, gW] at nB; cases nB
  have nBH : H B = none := by
    have e := nB
    rw [hG, upd_ne nBW] at e
    exact e
  refine lc_it walk_keys (fun i H' => Same G H' ∧ H' B = some (.lst (flB i))) ⟨same_new nB _, upd_same⟩ (fun i H' _ z => z.1 _ _ gW) (fun i x H2 H3 hi z y => ?_) (fun H' z => ?_)
  · obtain ⟨rfl, kk, v, hk, rfl⟩ := y
    obtain ⟨c, rfl, _⟩ := words_key hk
    refine ⟨rfl, _, rfl, rfl, _, rfl, ?_⟩
    have fn := flB_next hk
    refine ite2 (fun e => ?_) (fun e => ?_)
    · have e' : ¬ kV (.inr ⟨#[c]⟩) = .str zTilde := fun u => by
        have u' : kV (.inr ⟨#[c]⟩) = V.str (Str.ofString "~") := u
        rw [decide_eq_true u'] at e
        cases e
      rw [if_neg e'] at fn
      refine ⟨_, rfl, ⟨#[c]⟩, 0, c, rfl, rfl, (by show 1 ≤ sizeLine; decide), rfl, _, z.2, Nat.lt_of_le_of_lt (flB_len i) (by decide), same_fresh z.1 nB, ?_⟩
      rw [upd_same, fn]
      rfl
    · have e' : kV (.inr ⟨#[c]⟩) = .str zTilde := by
        refine Decidable.byContradiction fun u => e ?_
        have u' : ¬ kV (.inr ⟨#[c]⟩) = V.str (Str.ofString "~") := u
        rw [decide_eq_false u']
        rfl
      rw [if_pos e'] at fn
      refine ⟨z.1, ?_⟩
      rw [fn]
      exact z.2
  refine ⟨z.1 _ _ gW, ?_⟩
  have zB : H' B = some (.lst (signsL forkC)) := by rw [z.2]; exact congrArg (fun u => some (HO.lst u)) flB_5
  have hB1 : upd H' W (.dK wordsF) B = some (.lst (signsL forkC)) := by rw [upd_ne nBW]; exact zB
  have s0 : Same H (upd H' W (.dK wordsF)) := fun b o e => by
    by_cases eb : b = W
    · subst eb
      rw [upd_same]
      rw [hW] at e
      exact e
    · rw [upd_ne eb]
      refine z.1 _ _ ?_
      rw [hG, upd_ne eb]
      exact e
  clear z zB gW hG
  generalize upd H' W (.dK wordsF) = H0 at hB1 s0 ⊢
  clear H' nB G
  have hp := s0 _ _ hp
  have hW := s0 _ _ hW
  have nBp : B ≠ p := fun e => by rw [e, hp] at hB1; cases hB1
  refine ⟨(by show 1 ≤ sizeLine; decide), fun L nL => ?_⟩
  have nLp : L ≠ p := fun e => by rw [e, hp] at nL; cases nL
  have q : ∀ H' v pre', Keep p H0 H' → H' p = some (rO CR dx pre' R0) → pre' ++ R0 = pre ++ (spc k ++ (txt ++ (spc k2 ++ rest))) → Wr K CW H' (plug fr t) v → Q v H' := fun H' v pre' kp => q H' v pre' ((Same.toKeep s0).trans kp)
  obtain ⟨whole, hw⟩ : ∃ whole, whole = pre ++ (spc k ++ (txt ++ (spc k2 ++ rest))) := ⟨_, rfl⟩
  rw [← hw] at hl q
  obtain ⟨T0, hT⟩ : ∃ T0, T0 = plug fr t := ⟨_, rfl⟩
  rw [← hT] at q
  have st0 : Stk K CW (upd H0 L (.lst [.non])) fr [.non] := by
    rcases hfr with ⟨rfl, _⟩ | ⟨s, r, rfl⟩
    · rfl
    · exact ⟨_, _, rfl, rfl, .inl ⟨rfl, rfl⟩⟩
  have hfr2 : fr = [] → ∃ co n, t = .leaf co n := fun e => by
    rcases hfr with ⟨_, h⟩ | ⟨s, r, h⟩
    · exact h
    · rw [h] at e; cases e
  refine ⟨fun m σ H' => ∃ (o : Option V) (fr : List Fr) (t : FT) (pre' txt rest : List Nat) (k k2 : Nat) (xs : List V), σ = [some (.ref p), some (.ref W), some (.ref B), some (.ref L), o, none] ∧ Keep p H0 H' ∧ H' p = some (rO CR dx pre' (spc k ++ (txt ++ (spc k2 ++ rest)))) ∧
    whole = pre' ++ (spc k ++ (txt ++ (spc k2 ++ rest))) ∧ (spc k ++ (txt ++ (spc k2 ++ rest))).length ≤ m ∧ Half t txt ∧ Tail R0 fr rest ∧ (fr = [] → ∃ co n, t = .leaf co n) ∧ T0 = plug fr t ∧ Stk K CW H' fr xs ∧ H' L = some (.lst xs.reverse) ∧ xs.length ≤ pre'.length + 1,
    ⟨_, none, fr, t, pre, txt, rest, k, k2, [.non], rfl, fun b o n e => by rw [upd_ne (fun z => by rw [z, nL] at e; cases e)]; exact e, by rw [upd_ne (Ne.symm nLp)]; exact hp, hw, Nat.le_refl _, hh, ht, hfr2, hT, st0, upd_same, Nat.le_add_left _ _⟩, ?_⟩
  clear hh ht hfr hT hfr2 hw st0 hp
  rintro m σ H' ⟨o, fr, t, pre', txt, rest, k, k2, xs, rfl, kp, hp, hw, hm, hh, ht, hfr, hT, st, hL, hx⟩
  refine ⟨_, rfl, ?_⟩
  refine iteT ?_
  have hl1 : pre'.length + (k + (txt.length + (k2 + rest.length))) + 2 ≤ sizeLine := by
    rw [hw] at hl
    simp only [List.length_append, List.length_replicate] at hl
    exact hl
  refine ⟨_, fun _ _ h => h, ?_⟩
  have gR : Gd CW H' H' := Gd.of_same (Same.refl H')
  refine ⟨_, rfl, p, dx, _, rfl, hp, rF_no, p, dx, pre', txt ++ (spc k2 ++ rest), k, rfl, hp, hh.space _, by simp only [List.length_append, List.length_replicate]; omega, fun H1 m1 h1 => ?_⟩
  replace h1 : H1 p = some (rO CR dx (pre' ++ spc k) (txt ++ (spc k2 ++ rest))) := h1
  have g1 : Gd CW H' H1 := Gd.of_keep hp m1.keep
  have hL1 : H1 L = some (.lst xs.reverse) := by rw [m1 L nLp]; exact hL
  have hw1 : whole = pre' ++ spc k ++ (txt ++ (spc k2 ++ rest)) := by rw [hw, List.append_assoc]
  have hl2 : (pre' ++ spc k).length + (txt ++ (spc k2 ++ rest)).length + 2 ≤ sizeLine := by
    simp only [List.length_append, List.length_replicate]
    omega
  refine ⟨_, rfl, p, dx, _, rfl, h1, rF_no, p, dx, _, _, zOpen, rfl, h1, by omega, _, rfl, ?_⟩
  have hm1 : (txt ++ (spc k2 ++ rest)).length ≤ m := by
    simp only [List.length_append, List.length_replicate] at hm ⊢
    omega
  cases hh with
  | @node s l r a b c d tl tr hl3 hr3 =>
    rw [show seesB (40 :: (spc a ++ (tl ++ (spc b ++ (s.code :: (spc c ++ (tr ++ (spc d ++ [41]))))))) ++ (spc k2 ++ rest)) zOpen = true from (by show oneOf zOpen 40 = true; decide +kernel)]
    obtain ⟨f0, fs, rfl⟩ : ∃ f0 fs, fr = f0 :: fs := by
      cases fr with
      | nil =>
        obtain ⟨_, _, e⟩ := hfr rfl
        cases e
      | cons f0 fs => exact ⟨f0, fs, rfl⟩
    have e0 : 40 :: (spc a ++ (tl ++ (spc b ++ (s.code :: (spc c ++ (tr ++ (spc d ++ [41]))))))) ++ (spc k2 ++ rest) = 40 :: (spc a ++ (tl ++ (spc b ++ (s.code :: (spc c ++ (tr ++ (spc d ++ (41 :: (spc k2 ++ rest))))))))) := by
      simp only [List.append_assoc, List.cons_append, List.nil_append]
    rw [e0] at h1 hw1 hl2 hm1
    refine iteT ⟨_, rfl, p, dx, _, rfl, h1, rF_no, p, dx, _, _, 40, zOpen, rfl, h1, by decide +kernel, by simp only [List.length_cons] at hl2; omega, fun H2 m2 h2 => ?_⟩
    have hL2 : H2 L = some (.lst xs.reverse) := by rw [m2 L nLp]; exact hL1
    have g2 : Gd CW H1 H2 := Gd.of_keep h1 m2.keep
    refine ⟨_, rfl, .inl ⟨rfl, _, SqL.of hL2⟩, L, _, .non, rfl, rfl, hL2, ?_, ?_⟩
    · rw [List.length_reverse]
      have : pre'.length + 2 < sizeLine := by
        simp only [List.length_append, List.length_replicate, List.length_cons] at hl2
        omega
      omega
    refine ⟨(spc a ++ (tl ++ (spc b ++ (s.code :: (spc c ++ (tr ++ (spc d ++ (41 :: (spc k2 ++ rest))))))))).length, ?_, o, .lf s r :: f0 :: fs, l, pre' ++ spc k ++ [40], tl, s.code :: (spc c ++ (tr ++ (spc d ++ (41 :: (spc k2 ++ rest))))), a, b, .non :: xs, rfl, ?_, ?_, ?_, Nat.le_refl _, hl3, .lf s l c d hr3 (.rt s l k2 ht), (fun e => by cases e), hT, ?_, ?_, ?_⟩
    · simp only [List.length_cons] at hm1 ⊢
      omega
    · intro b o' n e
      rw [upd_ne (fun z => by rw [z, nL] at e; cases e)]
      exact ((kp.trans m1.keep).trans m2.keep) b o' n e
    · rw [upd_ne (Ne.symm nLp)]
      exact h2
    · rw [hw1]
      simp only [List.append_assoc, List.cons_append, List.nil_append]
    · exact ⟨.non, xs, rfl, rfl, .inr ⟨(by intro z; cases z), ((st.gd g1).gd g2).gd (Gd.of_lst hL2)⟩⟩
    · rw [upd_same, List.reverse_cons]
    · simp only [List.length_cons, List.length_append, List.length_nil, List.length_replicate]
      omega
  | leaf co n hn =>
    rw [(leaf_head hn).1]
    refine iteF ?_
    have hn0 : 0 < n.length := by
      cases n with
      | nil => exact absurd hn (by decide)
      | cons => exact Nat.succ_pos _
    have ls : n.length ≤ (leafS co n).length := by
      unfold leafS
      rw [List.length_append]
      omega
    refine ⟨_, rfl, _, rfl, p, dx, W, _, n, _, co, rfl, h1, (kp.trans m1.keep) W _ nWp hW, hn, (spc_stops (ht.stops hR)).1, (spc_stops (ht.stops hR)).2, by simp only [List.length_append, List.length_replicate] at hl2 ⊢; omega, fun H2 v kp2 h2 w2 => ?_⟩
    refine ⟨_, rfl, p, dx, _, rfl, h2, rF_no, p, dx, _, rest, k2, rfl, h2, (ht.stops hR).2.2, by simp only [List.length_append, List.length_replicate] at hl2 ⊢; omega, fun H3 m3 h3 => ?_⟩
    replace h3 : H3 p = some (rO CR dx (pre' ++ spc k ++ leafS co n ++ spc k2) rest) := h3
    have g2 : Gd CW H1 H2 := Gd.of_keep h1 kp2
    have g3 : Gd CW H2 H3 := Gd.of_keep h2 m3.keep
    have hL3 : H3 L = some (.lst xs.reverse) := by
      rw [m3 L nLp]
      exact kp2 _ _ nLp hL1
    have k3 : Keep p H0 H3 := ((kp.trans m1.keep).trans kp2).trans m3.keep
    have hw3 : whole = pre' ++ spc k ++ leafS co n ++ spc k2 ++ rest := by rw [hw1]; simp only [List.append_assoc]
    refine ⟨fun m2 σ H' => ∃ (fr : List Fr) (t : FT) (v : V) (pre2 rest : List Nat) (xs : List V), σ = [some (.ref p), some (.ref W), some (.ref B), some (.ref L), some v, none] ∧ Keep p H0 H' ∧ H' p = some (rO CR dx pre2 rest) ∧ whole = pre2 ++ rest ∧ rest.length ≤ m2 ∧ rest.length < m ∧ Tail R0 fr rest ∧ (fr = [] → ∃ co n, t = .leaf co n) ∧
      T0 = plug fr t ∧ Wr K CW H' t v ∧ Stk K CW H' fr xs ∧ H' L = some (.lst xs.reverse) ∧ xs.length ≤ pre2.length + 1, ⟨_, fr, .leaf co n, v, _, rest, xs, rfl, k3, h3, hw3, Nat.le_refl _, ?_, ht, fun _ => ⟨co, n, rfl⟩, hT, w2.gd g3, ((st.gd g1).gd g2).gd g3, hL3, ?_⟩, ?_⟩
    · simp only [List.length_append, List.length_replicate] at hm1
      omega
    · simp only [List.length_append, List.length_replicate]
      omega
    clear hw3 k3 hL3 g3 g2 h3 m3 w2 h2 kp2 v H2 H3 ls hn0 hn hm1 hl2 hw1 hL1 g1 h1 H1 m1 gR hl1 hx hL st hT hfr ht hm hw hp kp H' fr pre' co n xs k k2 rest
    rintro m2 σ H' ⟨fr, t, v, pre2, rest, xs, rfl, kp, hp, hw, hm2, hm, ht, hfr, hT, w1, st, hL, hx⟩
    refine ⟨_, rfl, _, _, rfl, .inl ⟨_, SqL.of hL, rfl⟩, _, _, rfl, rfl, _, rfl, ?_⟩
    have hlw : pre2.length + rest.length + 2 ≤ sizeLine := by
      rw [hw, List.length_append] at hl
      exact hl
    cases fr with
    | nil =>
      have ex : xs = [.non] := st
      subst ex
      obtain rfl : rest = R0 := by cases ht; rfl
      obtain ⟨co, n, rfl⟩ := hfr rfl
      obtain ⟨aw, dw, uw, rfl, kw, hw1, hw2⟩ := w1
      refine iteF ?_
      refine ⟨_, rfl, _, rfl, L, _, _, _, rfl, rfl, SqL.of hL, atI_last [] V.non, rfl, _, rfl, iteF ?_⟩
      refine ⟨_, rfl, _, _, rfl, .inl ⟨_, SqL.of hL, rfl⟩, rfl, _, rfl, ?_⟩
      refine iteT ⟨_, rfl, _, CW, _, _, _, rfl, kw, T.cl, T.nDepth, wF_depth _ _ _, rfl, _, rfl, ?_⟩
      refine iteT ⟨_, rfl, p, dx, _, rfl, hp, rF_no, _, rfl, p, dx, B, _, _, forkC, rfl, hp, SqL.of (kp B _ nBp hB1), by omega, _, rfl, ?_⟩
      rw [hR2]
      refine iteT ?_
      exact ⟨_, rfl, q H' _ _ kp hp hw.symm (by rw [hT]; exact ⟨aw, dw, uw, rfl, kw, hw1, hw2⟩)⟩
    | cons f0 fs =>
      obtain ⟨v0, vs, rfl, hf, hrest⟩ := st
      rw [List.reverse_cons] at hL
      cases f0 with
      | lf s r =>
        cases hf
        cases ht with
        | @lf _ l0 c d _ tr _ t' hr2 ht2 =>
        refine ite2 (fun c1 => ⟨_, rfl, _, rfl, L, _, _, _, rfl, rfl, SqL.of hL, atI_last _ _, rfl, _, rfl, ?_⟩) (fun c1 => ?_)
        all_goals refine iteF ?_
        all_goals refine ⟨_, rfl, _, rfl, L, _, _, _, rfl, rfl, SqL.of hL, atI_last _ _, rfl, _, rfl, iteF ?_⟩
        all_goals obtain ⟨aw, dw, uw, rfl, kw, hw1, hw2⟩ := w1
        all_goals refine ⟨_, rfl, _, _, rfl, .inl ⟨_, SqL.of hL, rfl⟩, rfl, _, rfl, ?_⟩
        all_goals refine ite2 (fun c2 => ⟨_, rfl, _, CW, _, _, _, rfl, kw, T.cl, T.nDepth, wF_depth _ _ _, rfl, _, rfl, ?_⟩) (fun c2 => iteF ?_)
        all_goals first
          | refine ite2 (fun c3 => ⟨_, rfl, p, dx, _, rfl, hp, rF_no, _, rfl, p, dx, B, _, _, forkC, rfl, hp, SqL.of (kp B _ nBp hB1), by omega, _, rfl, ?_⟩) (fun c3 => iteF ?_)
          | skip
        all_goals first
          | (rw [s.sees]; refine iteF ?_)
          | skip
        all_goals refine ⟨_, rfl, _, rfl, _, rfl, _, rfl, p, dx, W, B, pre2, _, s, rfl, hp, kp W _ nWp hW, SqL.of (kp B _ nBp hB1), by simp only [List.length_cons] at hlw; omega, fun H4 k4 h4 => ⟨le1k, fun a H5 s5 e5 => ?_⟩⟩
        all_goals refine ⟨_, rfl, _, rfl, L, _, _, vs.reverse.length, rfl, rfl, s5 _ _ (k4 L _ nLp hL), ixN_last _ _, ?_⟩
        all_goals
          have hL5 : H5 L = some (.lst (vs.reverse ++ [V.non])) := s5 _ _ (k4 L _ nLp hL)
          have g5 : Gd CW H' H5 := (Gd.of_keep hp k4).trans (Gd.of_same s5)
          have g6 : Gd CW H' (upd H5 L (.lst ((vs.reverse ++ [V.non]).set vs.reverse.length (.ref a)))) := g5.trans (Gd.of_lst hL5)
          have hwt : Wr K CW H' t (.ref aw) := ⟨aw, dw, uw, rfl, kw, hw1, hw2⟩
          have kp5 : Keep p H0 (upd H5 L (.lst ((vs.reverse ++ [V.non]).set vs.reverse.length (.ref a)))) := fun b o' n e => by
            rw [upd_ne (fun z => by rw [z, nL] at e; cases e)]
            exact ((kp.trans k4).trans (Same.toKeep s5)) b o' n e
          have hp5 : upd H5 L (.lst ((vs.reverse ++ [V.non]).set vs.reverse.length (.ref a))) p = some (rO CR dx (pre2 ++ [s.code]) (spc c ++ (tr ++ (spc d ++ t')))) := by
            rw [upd_ne (Ne.symm nLp)]
            exact s5 _ _ h4
          have hw5 : whole = pre2 ++ [s.code] ++ (spc c ++ (tr ++ (spc d ++ t'))) := by
            rw [hw]
            simp only [List.append_assoc, List.cons_append, List.nil_append]
          have hlt : (spc c ++ (tr ++ (spc d ++ t'))).length < m := by
            rw [List.length_cons] at hm
            omega
          have hx5 : (V.ref a :: vs).length ≤ (pre2 ++ [s.code]).length + 1 := by
            simp only [List.length_cons, List.length_append, List.length_nil] at hx ⊢
            omega
          have st5 : Stk K CW (upd H5 L (.lst ((vs.reverse ++ [V.non]).set vs.reverse.length (.ref a)))) (.rt s t :: fs) (V.ref a :: vs) := ⟨_, _, rfl, ⟨a, .ref aw, rfl, (Gd.of_lst (CW := CW) hL5).kt.seq e5, hwt.gd g6⟩, hrest.imp id (fun h => ⟨h.1, h.2.gd g6⟩)⟩
        all_goals exact ⟨_, hlt, _, .rt s t :: fs, r, pre2 ++ [s.code], tr, t', c, d, .ref a :: vs, rfl, kp5, hp5, hw5, Nat.le_refl _, hr2, ht2.swap, (fun e => by cases e), hT, st5, by rw [upd_same, set_last, List.reverse_cons], hx5⟩
      | rt s l =>
        obtain ⟨h, v1, rfl, hs, hwl⟩ := hf
        cases fs with
        | nil =>
          have ev : vs = [] := by
            rcases hrest with ⟨_, e⟩ | ⟨e, _⟩
            · exact e
            · exact absurd rfl e
          subst ev
          obtain rfl : rest = R0 := by cases ht; rfl
          refine iteF ?_
          refine ⟨_, rfl, _, rfl, L, _, _, _, rfl, rfl, SqL.of hL, atI_last _ _, rfl, _, rfl, iteT ?_⟩
          refine ⟨_, rfl, _, rfl, L, _, _, _, rfl, rfl, SqL.of hL, atI_last _ _, _, rfl, h, v1, v, s, l, t, rfl, hs, hwl, w1, fun H4 v4 s4 w4 => ?_⟩
          exact q H4 _ _ (kp.trans (Same.toKeep s4)) (s4 _ _ hp) hw.symm (by rw [hT]; exact w4)
        | cons f1 fs =>
          have hst2 : Stk K CW H' (f1 :: fs) vs := by
            rcases hrest with ⟨e, _⟩ | ⟨_, e⟩
            · cases e
            · exact e
          have hvs : 0 < vs.length := by
            obtain ⟨_, _, rfl, _⟩ := hst2
            exact Nat.succ_pos _
          cases ht with
          | @rt _ _ k _ _ t' ht2 =>
          have hlong : (1 : Int) < ((((V.ref h :: vs).reverse).length : Nat) : Int) := by
            simp only [List.length_reverse, List.length_cons]
            omega
          refine ite2 (fun _ => ⟨_, rfl, _, rfl, L, _, _, _, rfl, rfl, SqL.of hL, atI_last _ _, rfl, _, rfl, iteT ?_⟩) (fun c1 => absurd (decide_eq_true hlong) c1)
          refine ⟨_, fun _ _ h => h, ?_⟩
          refine ⟨_, rfl, p, dx, _, rfl, hp, rF_no, p, dx, pre2, _, 41, zClose, rfl, hp, by decide +kernel, by simp only [List.length_cons] at hlw; omega, fun H4 m4 h4 => ?_⟩
          refine ⟨_, rfl, p, dx, _, rfl, h4, rF_no, p, dx, _, t', k, rfl, h4, (ht2.stops hR).2.2, by simp only [List.length_cons, List.length_append, List.length_replicate, List.length_nil] at hlw ⊢; omega, fun H5 m5 h5 => ?_⟩
          have hL5 : H5 L = some (.lst (vs.reverse ++ [V.ref h])) := by rw [m5 L nLp, m4 L nLp]; exact hL
          have g5 : Gd CW H' H5 := (Gd.of_keep hp m4.keep).trans (Gd.of_keep h4 m5.keep)
          have g6 : Gd CW H' (upd H5 L (.lst (vs.reverse ++ [V.ref h]).dropLast)) := g5.trans (Gd.of_lst hL5)
          refine ⟨_, rfl, .inl ⟨rfl, _, SqL.of hL5⟩, L, _, .ref h, rfl, rfl, hL5, by simp, _, rfl, h, v1, v, s, l, t, rfl, g6.kt.seq hs, hwl.gd g6, w1.gd g6, fun H6 v6 s6 w6 => ?_⟩
          refine ⟨t'.length, ?_, f1 :: fs, .node s l t, v6, pre2 ++ [41] ++ spc k, t', vs, rfl, ?_, ?_, ?_, Nat.le_refl _, ?_, ht2, (fun e => by cases e), hT, w6, (hst2.gd g6).gd (Gd.of_same s6), ?_, ?_⟩
          · simp only [List.length_cons, List.length_append, List.length_replicate] at hm2
            omega
          · intro b o' n e
            refine s6 _ _ ?_
            rw [upd_ne (fun z => by rw [z, nL] at e; cases e)]
            exact ((kp.trans m4.keep).trans m5.keep) b o' n e
          · refine s6 _ _ ?_
            rw [upd_ne (Ne.symm nLp)]
            exact h5
          · rw [hw]
            simp only [List.append_assoc, List.cons_append, List.nil_append]
          · simp only [List.length_cons, List.length_append, List.length_replicate] at hm
            omega
          · refine s6 _ _ ?_
            rw [upd_same, List.dropLast_concat]
          · simp only [List.length_cons, List.length_append, List.length_replicate] at hx ⊢
            omega
theorem oktake_form (Y : TxtW K mg w) (Ctake_halved : Cal P w K mg base "take_halved" 5 Ptake_halved (spTakeHalved K CR CW)) (F : Fun K "take_form" "take_form" stake_form f fd) : FnOk P w K mg base CX0 6 f fd Ptake_form (spTakeForm K CR CW) := by
  refine F.ok sctake_form (fun vs H Q E h => ?_) (fun cdv A outer s H vs Q E hr h => ?_)
  · obtain ⟨p, dx, pre, txt, rest, R, k, k2, fr, t, rfl, _⟩ := h
    rfl
  obtain ⟨p, dx, pre, txt, rest, R, k, k2, fr, t, rfl, hp, hh, hR, hR2, ht, hfr, hl, q⟩ := h
  refine ⟨_, (pss_one (ps_ret (pe_callC Ctake_halved hr (pa_cons (pv 0) (pa_cons (pe_callTy call_dictS rfl Y.dict (by decide +kernel) (pa_cons (pe_globE Y.FORM_WORDS) pa_nil)) pa_nil))))), ?_⟩
  refine ⟨_, rfl, _, wordsF, rfl, Y.dFW, fun W nW => ?_⟩
  have s1 := same_new nW (.dK wordsF)
  exact ⟨p, dx, W, pre, txt, rest, R, k, k2, fr, t, rfl, s1 _ _ hp, upd_same, hh, hR, hR2, ht, hfr, hl, fun H' v pre' kp => q H' v pre' ((Same.toKeep s1).trans kp)⟩
end
end My

set_option Elab.async false
set_option linter.all false
set_option maxRecDepth 100000
namespace My
open PySem L2
abbrev sis_leaf : Stmt := top 18
abbrev Nis_leaf : List Str := ["form"]
theorem scis_leaf : FnScope Nis_leaf Nis_leaf (defScope sis_leaf) := ⟨rfl, rfl, rfl, by decide +kernel, rfl, by decide +kernel, by decide +kernel⟩
abbrev scheck_text : Stmt := top 22
abbrev Ncheck_text : List Str := ["text"]
theorem sccheck_text : FnScope Ncheck_text Ncheck_text (defScope scheck_text) := ⟨rfl, rfl, rfl, by decide +kernel, rfl, by decide +kernel, by decide +kernel⟩
abbrev swritten : Stmt := top 38
theorem scwritten : FnScope Nis_leaf Nis_leaf (defScope swritten) := ⟨rfl, rfl, rfl, by decide +kernel, rfl, by decide +kernel, by decide +kernel⟩
abbrev swritten_half : Stmt := top 39
theorem scwritten_half : FnScope Nis_leaf Nis_leaf (defScope swritten_half) := ⟨rfl, rfl, rfl, by decide +kernel, rfl, by decide +kernel, by decide +kernel⟩
abbrev Nread_form : List Str := ["text", "reader", "part"]
structure CalX (P : Program) (w : World) (K : PySem.W.Frag) (mg : Str → Option Value) (base : Heap) (x : Str) (k : Nat) (ps : List Str) (sp : Sp) where
  f : Addr
  fd : FuncData
  ok : FnOk P w K mg base (L2.CX P w) k f fd ps sp
  m : mg x = some (.ref f)
  kp : PySem.W.keepIn K (.ref f) = true
  b : Binds K fd ps []
/-- the text of a form; of a half -/
def wrt : Bool → FT → List Nat
  | _, .leaf co n => leafS co n
  | false, .node s l r => wrt true l ++ (32 :: s.code :: 32 :: wrt true r)
  | true, .node s l r => 40 :: (wrt true l ++ (32 :: s.code :: 32 :: wrt true r) ++ [41])
def FT.isLeaf : FT → Bool | .leaf _ _ => true | .node _ _ _ => false
def isDictV (H : Hp) (v : V) : Prop := ∃ (a : Addr) (kvs : List (Key × V)), v = .ref a ∧ H a = some (.dK kvs)
def badE (C : Addr) (fld : Str) (v : V) (H : Hp) (E : XK) : Prop := ∀ (d : Addr) (H' : Hp), Same H H' → H' d = none → E (.ref C) (some d) (upd H' d (.xd [(fld, v)]))
def spLeafT (K : PySem.W.Frag) : Sp := fun vs H Q _ => ∃ v t, vs = [v] ∧ Fm K H t v ∧ Q (.bl t.isLeaf) H
def spWritten (K : PySem.W.Frag) (h : Bool) (n : Nat) : Sp := fun vs H Q _ => ∃ v t, vs = [v] ∧ Fm K H t v ∧ t.dep < n ∧ (wrt h t).length + 10 ≤ sizeLine ∧ Q (.str (Z (wrt h t))) H
def spToldX (K : PySem.W.Frag) (CW CD : Addr) : Sp := fun vs H Q E => ∃ (v : V) (t : FT), vs = [v] ∧ Wr K CW H t v ∧ (t.dep ≤ 12 → ∀ u, Fm K H t u → Q u H) ∧ (12 < t.dep → badE CD "most" (.int 12) H E)
def spCheckForm (K : PySem.W.Frag) (CB : Addr) : Sp := fun vs H Q E => ∃ v, vs = [v] ∧ ((∃ D, Dp K H v D ∧ (∀ z, D = .str z → z.length ≤ 1000) ∧ shortD D = true ∧ D.depth ≤ 60 ∧ (isForm 12 D = true → ∀ H', Same H H' → Q .non H') ∧ (isForm 12 D = false → badE CB "value" v H E)) ∨ (isDictV H v ∧ badE CB "value" v H E))
def spCheckText (K : PySem.W.Frag) (CB : Addr) : Sp := fun vs H Q E => ∃ v, vs = [v] ∧ ((∃ D, Dp K H v D ∧ (isStrD D = true → Q .non H) ∧ (isStrD D = false → badE CB "value" v H E)) ∨ (isDictV H v ∧ badE CB "value" v H E))
structure TxtS (K : PySem.W.Frag) (mg : Str → Option Value) (w : World) where
  aWS : Addr
  WORD_SIGNS : ∃ u, mg "WORD_SIGNS" = some u ∧ RelV (.ref aWS) u
  kWS : ∀ s : Sg, KDct K w aWS s.word (.str ⟨#[s.code]⟩)
theorem Z_cat (a b : List Nat) : Z a ++ Z b = Z (a ++ b) := by
  have : (Z a ++ Z b).cps.toList = (Z (a ++ b)).cps.toList := TL.tl_append (Z a) (Z b)
  exact TL.ext_tl this
section
variable {P : Program} {w : World} {K : PySem.W.Frag} {mg : Str → Option Value} {base : Heap} {f : Addr} {fd : FuncData} {CR CW fI : Addr}
theorem okis_leaf (T : Txt K mg) (F : Fun K "is_leaf" "is_leaf" sis_leaf f fd) : FnOk P w K mg base CX0 1 f fd Nis_leaf (spLeafT K) := by
  refine F.ok scis_leaf (fun vs H Q E h => ?_) (fun cdv A outer s H vs Q E hr h => ?_)
  · obtain ⟨v, t, rfl, _⟩ := h
    rfl
  obtain ⟨v, t, rfl, hf, q⟩ := h
  refine ⟨_, (pss_one (ps_ret (pe_cmpR op_eq (pe_callB call_len rfl T.len (by decide +kernel) (pa_cons (pv 0) pa_nil)) pe_int (nomark _)))), ?_⟩
  cases t with
  | leaf co n =>
    obtain ⟨a, rfl, hs⟩ := hf
    exact ⟨_, rfl, _, _, rfl, .inr ⟨_, hs, rfl⟩, rfl, q⟩
  | node s l r =>
    obtain ⟨a, x, y, rfl, hs, _⟩ := hf
    exact ⟨_, rfl, _, _, rfl, .inr ⟨_, hs, rfl⟩, rfl, q⟩
theorem okwritten {n : Nat} (Y : TxtS K mg w) (F : Fun K "written" "written" swritten f fd) (Chalf : Cal P w K mg base "written_half" (1 + 2 * n + 1) Nis_leaf (spWritten K true n)) : FnOk P w K mg base CX0 (1 + 2 * n + 1 + 1) f fd Nis_leaf (spWritten K false (n + 1)) := by
  refine F.ok scwritten (fun vs H Q E h => ?_) (fun cdv A outer s H vs Q E hr h => ?_)
  · obtain ⟨v, t, rfl, _⟩ := h
    rfl
  obtain ⟨v, t, rfl, hf, hd, hl, q⟩ := h
  refine ⟨_, (pss_cons (ps_if (pt_cmpR op_eq (pe_ix ix_tup (pv 0) pe_int (fun _ _ => rfl)) pe_str (nomark _))
    (pss_one (ps_ret (pe_ix ix_tup (pv 0) pe_int (fun _ _ => rfl))))
    pss_nil)
  (pss_cons (ps_if (pt_cmpR op_eq (pe_ix ix_tup (pv 0) pe_int (fun _ _ => rfl)) pe_str (nomark _))
    (pss_one (ps_ret (pe_op op_add_str (pe_ix ix_tup (pv 0) pe_int (fun _ _ => rfl)) pe_str)))
    pss_nil)
  (pss_one (ps_ret (pe_op op_add_str (pe_op op_add_str (pe_op op_add_str (pe_op op_add_str (pe_callC Chalf hr (pa_cons (pe_ix ix_tup (pv 0) pe_int (fun _ _ => rfl)) pa_nil)) pe_str) (pe_ix ix_kdict (pe_globE Y.WORD_SIGNS) (pe_ix ix_tup (pv 0) pe_int (fun _ _ => rfl)) (fun _ _ => rfl))) pe_str) (pe_callC Chalf hr (pa_cons (pe_ix ix_tup (pv 0) pe_int (fun _ _ => rfl)) pa_nil))))))), ?_⟩
  cases t with
  | leaf co m =>
    obtain ⟨a, rfl, hs⟩ := hf
    cases co with
    | false =>
      exact ⟨_, rfl, a, _, _, _, rfl, rfl, hs, rfl, rfl, _, rfl, iteT ⟨_, rfl, a, _, _, _, rfl, rfl, hs, rfl, by
        have e : wrt false (.leaf false m) = m := List.append_nil m
        rw [e] at q
        exact q⟩⟩
    | true =>
      refine ⟨_, rfl, a, _, _, _, rfl, rfl, hs, rfl, rfl, _, rfl, iteF ?_⟩
      refine ⟨_, rfl, a, _, _, _, rfl, rfl, hs, rfl, rfl, _, rfl, iteT ?_⟩
      refine ⟨_, rfl, a, _, _, _, rfl, rfl, hs, rfl, _, _, rfl, rfl, ?_, ?_⟩
      · rw [Z_len]
        have e : wrt false (.leaf true m) = m ++ [126] := rfl
        rw [e, List.length_append] at hl
        show m.length + 1 ≤ sizeLine
        have : ([126] : List Nat).length = 1 := rfl
        omega
      · have e : Z m ++ zTilde = Z (wrt false (.leaf true m)) := Z_cat m [126]
        show Q (.str (Z m ++ zTilde)) H
        rw [e]
        exact q
  | node s l r =>
    obtain ⟨a, x, y, rfl, hs, hx, hy⟩ := hf
    have hdd : 1 + max l.dep r.dep < n + 1 := hd
    have e : wrt false (.node s l r) = wrt true l ++ (32 :: s.code :: 32 :: wrt true r) := rfl
    have hl2 : (wrt true l).length + ((wrt true r).length + 3) + 10 ≤ sizeLine := by
      rw [e] at hl
      simp only [List.length_append, List.length_cons] at hl
      omega
    refine ⟨_, rfl, a, _, _, _, rfl, rfl, hs, rfl, rfl, _, rfl, ?_⟩
    refine ite2 (fun c => absurd c (by cases s <;> decide +kernel)) (fun _ => ?_)
    refine ⟨_, rfl, a, _, _, _, rfl, rfl, hs, rfl, rfl, _, rfl, ?_⟩
    refine ite2 (fun c => absurd c (by cases s <;> decide +kernel)) (fun _ => ?_)
    refine ⟨_, rfl, a, _, _, _, rfl, rfl, hs, rfl, x, l, rfl, hx, by omega, by omega, _, _, rfl, rfl, ?_, ?_⟩
    · show (Z (wrt true l)).length + (Z [32]).length ≤ sizeLine
      rw [Z_len, Z_len]
      simp only [List.length_cons, List.length_nil]
      omega
    have z1 : Z (wrt true l) ++ Str.ofString " " = Z (wrt true l ++ [32]) := Z_cat _ [32]
    have z2 : Z (wrt true l ++ [32]) ++ ⟨#[s.code]⟩ = Z (wrt true l ++ [32] ++ [s.code]) := Z_cat _ [s.code]
    have z3 : Z (wrt true l ++ [32] ++ [s.code]) ++ Str.ofString " " = Z (wrt true l ++ [32] ++ [s.code] ++ [32]) := Z_cat _ [32]
    have z4 : Z (wrt true l ++ [32] ++ [s.code] ++ [32]) ++ Z (wrt true r) = Z (wrt false (.node s l r)) := by
      rw [Z_cat, e]
      simp only [List.append_assoc, List.cons_append, List.nil_append]
    rw [z1]
    refine ⟨_, rfl, a, _, _, _, rfl, rfl, hs, rfl, _, _, _, rfl, rfl, Y.kWS s, _, _, rfl, rfl, ?_, ?_⟩
    · show (Z (wrt true l ++ [32])).length + (Z [s.code]).length ≤ sizeLine
      rw [Z_len, Z_len]
      simp only [List.length_append, List.length_cons, List.length_nil]
      omega
    rw [z2]
    refine ⟨_, _, rfl, rfl, ?_, ?_⟩
    · show (Z (wrt true l ++ [32] ++ [s.code])).length + (Z [32]).length ≤ sizeLine
      rw [Z_len, Z_len]
      simp only [List.length_append, List.length_cons, List.length_nil]
      omega
    rw [z3]
    refine ⟨_, rfl, a, _, _, _, rfl, rfl, hs, rfl, y, r, rfl, hy, by omega, by omega, _, _, rfl, rfl, ?_, ?_⟩
    · rw [Z_len, Z_len]
      simp only [List.length_append, List.length_cons, List.length_nil]
      omega
    rw [z4]
    exact q
theorem okwritten_half {n k : Nat} (Cleaf : Cal P w K mg base "is_leaf" 1 Nis_leaf (spLeafT K)) (F : Fun K "written_half" "written_half" swritten_half f fd) (Cw : Cal P w K mg base "written" (1 + k) Nis_leaf (spWritten K false n)) : FnOk P w K mg base CX0 (1 + k + 1) f fd Nis_leaf (spWritten K true n) := by
  refine F.ok scwritten_half (fun vs H Q E h => ?_) (fun cdv A outer s H vs Q E hr h => ?_)
  · obtain ⟨v, t, rfl, _⟩ := h
    rfl
  obtain ⟨v, t, rfl, hf, hd, hl, q⟩ := h
  refine ⟨_, (pss_cons (ps_if (pt_val (pe_callC Cleaf hr (pa_cons (pv 0) pa_nil)))
    (pss_one (ps_ret (pe_callC Cw hr (pa_cons (pv 0) pa_nil))))
    pss_nil)
  (pss_one (ps_ret (pe_op op_add_str (pe_op op_add_str pe_str (pe_callC Cw hr (pa_cons (pv 0) pa_nil))) pe_str)))), ?_⟩
  cases t with
  | leaf co m => exact ⟨_, rfl, v, _, rfl, hf, _, rfl, iteT ⟨_, rfl, v, _, rfl, hf, hd, hl, q⟩⟩
  | node s l r =>
    have e : wrt true (.node s l r) = 40 :: (wrt false (.node s l r) ++ [41]) := rfl
    have hl2 : (wrt false (.node s l r)).length + 2 + 10 ≤ sizeLine := by
      rw [e] at hl
      simp only [List.length_append, List.length_cons, List.length_nil] at hl
      omega
    refine ⟨_, rfl, v, _, rfl, hf, _, rfl, iteF ⟨_, rfl, v, _, rfl, hf, hd, by omega, _, _, rfl, rfl, ?_, ?_⟩⟩
    · show (Z [40]).length + (Z (wrt false (.node s l r))).length ≤ sizeLine
      rw [Z_len, Z_len]
      simp only [List.length_cons, List.length_nil]
      omega
    have z1 : Str.ofString "(" ++ Z (wrt false (.node s l r)) = Z (40 :: wrt false (.node s l r)) := Z_cat [40] _
    have z2 : Z (40 :: wrt false (.node s l r)) ++ Str.ofString ")" = Z (wrt true (.node s l r)) := Z_cat _ [41]
    rw [z1]
    refine ⟨_, _, rfl, rfl, ?_, ?_⟩
    · show (Z (40 :: wrt false (.node s l r))).length + (Z [41]).length ≤ sizeLine
      rw [Z_len, Z_len]
      simp only [List.length_cons, List.length_nil]
      omega
    rw [z2]
    exact q
theorem okcheck_text {CB : Addr} (T : Txt K mg) (O : OneE P w K mg base "BadValue" "value" CB) (F : Fun K "check_text" "check_text" scheck_text f fd) : FnOk P w K mg base (L2.CX P w) 4 f fd Ncheck_text (spCheckText K CB) := by
  refine F.okX sccheck_text (fun vs H Q E h => ?_) (fun cdv A outer s H vs Q E hr h => ?_)
  · obtain ⟨v, rfl, _⟩ := h
    rfl
  obtain ⟨v, rfl, h⟩ := h
  refine ⟨_, (pss_one (ps_if (pt_not (pt_val (pe_callB call_isi rfl T.isinstance (by decide +kernel) (pa_cons (pv 0) (pa_cons (pe_bltn (v := .ty "str") rfl T.str (by decide +kernel) rfl) pa_nil)))))
    (pss_one (ps_raise1 (k := 0) O rfl (hr.mono (by decide)) (takes_of rfl rfl rfl rfl) (pv 0)))
    pss_nil)), ?_⟩
  rcases h with ⟨D, hv, q1, q2⟩ | ⟨⟨a, kvs, rfl, ha⟩, q⟩
  · refine ⟨_, rfl, _, _, _, _, _, rfl, .ty "str", tyx_of hv, kit_str D, _, rfl, ?_⟩
    cases c : isStrD D with
    | true => exact iteF (q1 c)
    | false => exact iteT ⟨_, rfl, mk_one O.oex O.no fun d nd => q2 c d H (Same.refl H) nd⟩
  · exact ⟨_, rfl, _, _, _, _, _, rfl, .ty "str", .base (.dK ha), kit_dict_str, _, rfl, iteT ⟨_, rfl, mk_one O.oex O.no fun d nd => q d H (Same.refl H) nd⟩⟩
theorem oktold_formX {CD : Addr} (T : WrTxt K mg CW fI) (Y : TxtW K mg w) (O : OneE P w K mg base "TooDeep" "most" CD) (F : Fun K "told_form" "told_form" stold_form f fd) : FnOk P w K mg base (L2.CX P w) 4 f fd Ntold_form (spToldX K CW CD) := by
  refine F.okX sctold_form (fun vs H Q E h => ?_) (fun cdv A outer s H vs Q E hr h => ?_)
  · obtain ⟨v, t, rfl, _⟩ := h
    rfl
  obtain ⟨v, t, rfl, ⟨a, dx, u, rfl, k, hf, hn⟩, q1, q2⟩ := h
  refine ⟨_, (pss_cons (ps_if (pt_cmpR op_gt (pe_fld (pv 0) rfl) (pe_globE Y.DEEPEST) (nomark _)) (pss_one (ps_raise1 (k := 0) O rfl (hr.mono (by decide)) (takes_of rfl rfl rfl rfl) (pe_globE Y.DEEPEST))) pss_nil) (pss_one (ps_ret (pe_fld (pv 0) rfl)))), ?_⟩
  refine ⟨_, rfl, _, CW, _, _, _, rfl, k, T.cl, T.nDepth, wF_depth _ _ _, _, _, rfl, rfl, _, rfl, ?_⟩
  by_cases c : 12 < t.dep
  · rw [decide_eq_true (by omega)]
    exact iteT (mk_one O.oex O.no fun d nd => q2 c d H (Same.refl H) nd)
  · rw [decide_eq_false (by omega)]
    exact iteF ⟨_, rfl, _, CW, _, _, _, rfl, k, T.cl, T.nForm, wF_form _ _ _, q1 (by omega) _ (hf (by omega))⟩
end
end My

set_option Elab.async false
set_option linter.all false
set_option maxRecDepth 100000
namespace My
open PySem L2
/-- a text of this form -/
def TxR (R : List Nat) (T0 : FT) (cs : List Nat) : Prop := ∃ (k k2 : Nat) (txt rest : List Nat) (fr : List Fr) (t : FT), cs = spc k ++ (txt ++ (spc k2 ++ rest)) ∧ Half t txt ∧ Tail R fr rest ∧ ((fr = [] ∧ ∃ co n, t = .leaf co n) ∨ ∃ s r, fr = [.lf s r]) ∧ T0 = plug fr t
def Tx (T0 : FT) (cs : List Nat) : Prop := TxR [] T0 cs
def spReadForm (K : PySem.W.Frag) (CB CD : Addr) : Sp := fun vs H Q E => ∃ v, vs = [v] ∧ ((∃ T0 cs, v = .str (Z cs) ∧ Tx T0 cs ∧ cs.length + 12 ≤ sizeLine ∧ (T0.dep ≤ 12 → ∀ H' u, Same H H' → Fm K H' T0 u → Q u H') ∧ (12 < T0.dep → badE CD "most" (.int 12) H E)) ∨
  (∃ D, Dp K H v D ∧ isStrD D = false ∧ badE CB "value" v H E) ∨ (isDictV H v ∧ badE CB "value" v H E))
def spFormText (K : PySem.W.Frag) (CB : Addr) : Sp := fun vs H Q E => ∃ v, vs = [v] ∧ ((∃ t, Fm K H t v ∧ t.dep ≤ 12 ∧ t.Ok ∧ (wrt false t).length + 10 ≤ sizeLine ∧ ∀ H', Same H H' → Q (.str (Z (wrt false t))) H') ∨
  (∃ D, Dp K H v D ∧ (∀ z, D = .str z → z.length ≤ 1000) ∧ shortD D = true ∧ D.depth ≤ 60 ∧ isForm 12 D = false ∧ badE CB "value" v H E) ∨ (isDictV H v ∧ badE CB "value" v H E))
structure RdTxt2 (K : PySem.W.Frag) (mg : Str → Option Value) (CR fI : Addr) : Prop where
  made : Mk K CR fI
  g : mg "Reader" = some (.ref CR)
section
variable {P : Program} {w : World} {K : PySem.W.Frag} {mg : Str → Option Value} {base : Heap} {f : Addr} {fd : FuncData} {CR CW fI : Addr}
theorem badE.same {C : Addr} {fld : Str} {v : V} {H H1 : Hp} {E : XK} (b : badE C fld v H E) (s : Same H H1) : badE C fld v H1 E := fun d H' s' n => b d H' (s.trans s') n
end
end My

set_option Elab.async false
set_option linter.all false
set_option maxRecDepth 100000
namespace My
open PySem L2
/-! ### texts that forms have -/
theorem wrt_half : ∀ t : FT, t.Ok → Half t (wrt true t)
  | .leaf co n, h => .leaf co n h
  | .node s l r, h => by
    have := Half.node s 0 1 1 0 (wrt_half l h.1) (wrt_half r h.2)
    have e : wrt true (.node s l r) = 40 :: (spc 0 ++ (wrt true l ++ (spc 1 ++ (s.code :: (spc 1 ++ (wrt true r ++ (spc 0 ++ [41]))))))) := by
      show 40 :: (wrt true l ++ (32 :: s.code :: 32 :: wrt true r) ++ [41]) = _
      simp only [List.append_assoc, List.replicate_succ, List.replicate_zero, List.nil_append, List.cons_append]
    rw [e]
    exact this
theorem wrt_tx (t : FT) (h : t.Ok) : Tx t (wrt false t) := by
  cases t with
  | leaf co n =>
    refine ⟨0, 0, leafS co n, [], [], .leaf co n, ?_, .leaf co n h, .nil, .inl ⟨rfl, co, n, rfl⟩, rfl⟩
    show leafS co n = _
    simp only [List.replicate_zero, List.nil_append, List.append_nil]
  | node s l r =>
    refine ⟨0, 1, wrt true l, _, [.lf s r], l, ?_, wrt_half l h.1, .lf s l 1 0 (wrt_half r h.2) (.rt1 s l), .inr ⟨s, r, rfl⟩, rfl⟩
    show wrt true l ++ (32 :: s.code :: 32 :: wrt true r) = _
    simp only [List.replicate_succ, List.replicate_zero, List.nil_append, List.cons_append, List.append_nil]
/-- tokens, with spaces between -/
inductive Gp : List (List Nat) → List Nat → Prop
  | nil (k : Nat) : Gp [] (spc k)
  | cons (k : Nat) {t : List Nat} {ts : List (List Nat)} {cs : List Nat} : Gp ts cs → Gp (t :: ts) (spc k ++ (t ++ cs))
def toks : Bool → FT → List (List Nat)
  | _, .leaf co n => [leafS co n]
  | false, .node s l r => toks true l ++ ([s.code] :: toks true r)
  | true, .node s l r => [40] :: (toks true l ++ ([s.code] :: toks true r) ++ [[41]])
theorem gp_half : ∀ (t : FT) {ts : List (List Nat)} {cs : List Nat}, t.Ok → Gp (toks true t ++ ts) cs → ∃ k txt cs', cs = spc k ++ (txt ++ cs') ∧ Half t txt ∧ Gp ts cs'
  | .leaf co n, ts, cs, h, g => by
    cases g with
    | cons k g => exact ⟨k, _, _, rfl, .leaf co n h, g⟩
  | .node s l r, ts, cs, h, g => by
    have e : toks true (.node s l r) ++ ts = [40] :: (toks true l ++ ([s.code] :: (toks true r ++ ([41] :: ts)))) := by
      show ([40] :: (toks true l ++ ([s.code] :: toks true r) ++ [[41]])) ++ ts = _
      simp only [List.append_assoc, List.cons_append, List.nil_append]
    rw [e] at g
    cases g with
    | cons k g =>
      obtain ⟨a, tl, c1, rfl, hl, g1⟩ := gp_half l h.1 g
      cases g1 with
      | @cons b _ _ c2 g2 =>
        obtain ⟨c, tr, c3, rfl, hr, g3⟩ := gp_half r h.2 g2
        cases g3 with
        | @cons d _ _ c4 g4 =>
          refine ⟨k, _, c4, ?_, .node s a b c d hl hr, g4⟩
          simp only [List.append_assoc, List.cons_append, List.nil_append]
theorem gp_tx (t : FT) {cs : List Nat} (h : t.Ok) (g : Gp (toks false t) cs) : Tx t cs := by
  cases t with
  | leaf co n =>
    cases g with
    | cons k g =>
      cases g with
      | nil k2 =>
        refine ⟨k, k2, leafS co n, [], [], .leaf co n, ?_, .leaf co n h, .nil, .inl ⟨rfl, co, n, rfl⟩, rfl⟩
        rw [List.append_nil]
  | node s l r =>
    have e : toks false (.node s l r) = toks true l ++ ([s.code] :: (toks true r ++ [])) := by rw [List.append_nil]; rfl
    rw [e] at g
    obtain ⟨a, tl, c1, rfl, hl, g1⟩ := gp_half l h.1 g
    cases g1 with
    | @cons b _ _ c2 g2 =>
      obtain ⟨c, tr, c3, rfl, hr, g3⟩ := gp_half r h.2 g2
      cases g3 with
      | nil d =>
        refine ⟨a, b, tl, _, [.lf s r], l, ?_, hl, .lf s l c d hr (.rt1 s l), .inr ⟨s, r, rfl⟩, rfl⟩
        rw [List.append_nil]
        rfl
theorem gp_flat : ∀ ts : List (List Nat), Gp ts ts.flatten
  | [] => .nil 0
  | t :: ts => by
    have := Gp.cons 0 (t := t) (gp_flat ts)
    rw [List.flatten_cons]
    exact this
theorem half_inner {s : Sg} {l r : FT} {txt : List Nat} (h : Half (.node s l r) txt) : ∃ body, txt = 40 :: (body ++ [41]) ∧ Tx (.node s l r) body := by
  cases h with
  | @node _ _ _ a b c d tl tr hl hr =>
    refine ⟨spc a ++ (tl ++ (spc b ++ (s.code :: (spc c ++ (tr ++ spc d))))), ?_, a, b, tl, _, [.lf s r], l, ?_, hl, .lf s l c d hr (.rt1 s l), .inr ⟨s, r, rfl⟩, rfl⟩
    · simp only [List.append_assoc, List.cons_append, List.nil_append]
    · rw [List.append_nil]
/-- forms within forms -/
def deepL (a : FT) : Nat → FT → FT
  | 0, t => t
  | n + 1, t => .node .mul a (deepL a n t)
def deepR (b : FT) : Nat → FT → FT
  | 0, t => t
  | n + 1, t => .node .amp (deepR b n t) b
def reps (n : Nat) (x : List Nat) : List Nat := (List.replicate n x).flatten
theorem reps_succ (n : Nat) (x : List Nat) : reps (n + 1) x = x ++ reps n x := by
  unfold reps
  rw [List.replicate_succ, List.flatten_cons]
theorem reps_succ' (n : Nat) (x : List Nat) : reps (n + 1) x = reps n x ++ x := by
  unfold reps
  rw [List.replicate_succ', List.flatten_append, List.flatten_cons, List.flatten_nil, List.append_nil]
def ltA : List Nat := [40, 97, 32, 42, 32]
def rtB : List Nat := [32, 38, 32, 98, 126, 41]
def ftA : FT := .leaf false [97]
def ftB : FT := .leaf true [98]
theorem half_deepL (t : FT) {txt : List Nat} (h : Half t txt) : ∀ n, Half (deepL ftA n t) (reps n ltA ++ (txt ++ reps n [41]))
  | 0 => by
    show Half t ([] ++ (txt ++ []))
    rw [List.nil_append, List.append_nil]
    exact h
  | n + 1 => by
    have := Half.node .mul 0 1 1 0 (Half.leaf false [97] (by decide +kernel)) (half_deepL t h n)
    rw [reps_succ, reps_succ']
    have e : ltA ++ reps n ltA ++ (txt ++ (reps n [41] ++ [41])) = 40 :: (spc 0 ++ (leafS false [97] ++ (spc 1 ++ (Sg.mul.code :: (spc 1 ++ ((reps n ltA ++ (txt ++ reps n [41])) ++ (spc 0 ++ [41]))))))) := by
      show [40, 97, 32, 42, 32] ++ reps n ltA ++ (txt ++ (reps n [41] ++ [41])) = 40 :: ([] ++ ([97] ++ ([32] ++ (42 :: ([32] ++ ((reps n ltA ++ (txt ++ reps n [41])) ++ ([] ++ [41])))))))
      simp only [List.append_assoc, List.cons_append, List.nil_append]
    rw [e]
    exact this
theorem half_deepR (t : FT) {txt : List Nat} (h : Half t txt) : ∀ n, Half (deepR ftB n t) (reps n [40] ++ (txt ++ reps n rtB))
  | 0 => by
    show Half t ([] ++ (txt ++ []))
    rw [List.nil_append, List.append_nil]
    exact h
  | n + 1 => by
    have := Half.node .amp 0 1 1 0 (half_deepR t h n) (Half.leaf true [98] (by decide +kernel))
    rw [reps_succ, reps_succ']
    have e : [40] ++ reps n [40] ++ (txt ++ (reps n rtB ++ rtB)) = 40 :: (spc 0 ++ ((reps n [40] ++ (txt ++ reps n rtB)) ++ (spc 1 ++ (Sg.amp.code :: (spc 1 ++ (leafS true [98] ++ (spc 0 ++ [41]))))))) := by
      show [40] ++ reps n [40] ++ (txt ++ (reps n rtB ++ [32, 38, 32, 98, 126, 41])) = 40 :: ([] ++ ((reps n [40] ++ (txt ++ reps n rtB)) ++ ([32] ++ (38 :: ([32] ++ ([98, 126] ++ ([] ++ [41])))))))
      simp only [List.append_assoc, List.cons_append, List.nil_append]
    rw [e]
    exact this
theorem deepL_dep (a : FT) (ha : a.dep = 0) (t : FT) : ∀ n, (deepL a n t).dep = n + t.dep
  | 0 => by show t.dep = _; omega
  | n + 1 => by
    show 1 + max a.dep (deepL a n t).dep = _
    rw [deepL_dep a ha t n, ha]
    omega
theorem deepR_dep (b : FT) (hb : b.dep = 0) (t : FT) : ∀ n, (deepR b n t).dep = n + t.dep
  | 0 => by show t.dep = _; omega
  | n + 1 => by
    show 1 + max (deepR b n t).dep b.dep = _
    rw [deepR_dep b hb t n, hb]
    omega
/-! ### forms as data -/
theorem sg_of {w : Str} (h : w ∈ halfW) : ∃ s : Sg, w = s.word := by
  unfold halfW at h
  simp only [List.mem_cons, List.not_mem_nil, or_false] at h
  rcases h with rfl | rfl | rfl | rfl
  · exact ⟨.mul, rfl⟩
  · exact ⟨.bar, rfl⟩
  · exact ⟨.amp, rfl⟩
  · exact ⟨.plus, rfl⟩
theorem leaf_of {w : Str} (h : w ∈ leafW) : ∃ co, w = leafZ co := by
  unfold leafW at h
  simp only [List.mem_cons, List.not_mem_nil, or_false] at h
  rcases h with rfl | rfl
  · exact ⟨false, rfl⟩
  · exact ⟨true, rfl⟩
theorem ft_of : ∀ {k : Nat} {D : PyData}, isForm k D = true → ∃ t : FT, D = t.data ∧ t.Ok ∧ t.dep ≤ k := by
  intro k
  induction k with
  | zero =>
    intro D h
    rcases isForm_inv h with ⟨w, n, rfl, hw, hn⟩ | ⟨j, w, a, b, e, _⟩
    · obtain ⟨co, rfl⟩ := leaf_of hw
      exact ⟨.leaf co n.cps.toList, rfl, hn, Nat.le_refl _⟩
    · cases e
  | succ k ih =>
    intro D h
    rcases isForm_inv h with ⟨w, n, rfl, hw, hn⟩ | ⟨j, w, a, b, e, rfl, hw, ha, hb⟩
    · obtain ⟨co, rfl⟩ := leaf_of hw
      exact ⟨.leaf co n.cps.toList, rfl, hn, Nat.zero_le _⟩
    · cases e
      obtain ⟨s, rfl⟩ := sg_of hw
      obtain ⟨l, rfl, ol, dl⟩ := ih ha
      obtain ⟨r, rfl, or', dr⟩ := ih hb
      exact ⟨.node s l r, rfl, ⟨ol, or'⟩, by show 1 + max l.dep r.dep ≤ k + 1; omega⟩
theorem fm_of_dp {K : PySem.W.Frag} {H : Hp} : ∀ (t : FT) {v : V}, Dp K H v t.data → Fm K H t v
  | .leaf co n, v, h => by
    cases h with | tup hT hA => cases hA with | cons h1 hA => cases hA with | cons h2 hN =>
    cases hN
    cases h1
    cases h2
    exact ⟨_, rfl, hT⟩
  | .node s l r, v, h => by
    cases h with | tup hT hA => cases hA with | cons h1 hA => cases hA with | cons h2 hA => cases hA with | cons h3 hN =>
    cases hN
    cases h1
    exact ⟨_, _, _, rfl, hT, fm_of_dp l h2, fm_of_dp r h3⟩
end My

set_option Elab.async false
set_option linter.all false
set_option maxRecDepth 100000
namespace My
open PySem PySem.Spec PyProof.Rows L2 SX
section
variable {X : Cx}
def rMulT : R2 := fun x y H Q => ∃ (cs : List Nat) (n : Nat), x = .str (Z cs) ∧ y = .int n ∧ cs.length ≤ 16 ∧ n ≤ 2000 ∧ Q (.str (Z (reps n cs))) H
theorem fold_list (a : Array Nat) : ∀ (k : Nat) (b : Array Nat), ((List.replicate k a).foldl (· ++ ·) b).toList = b.toList ++ reps k a.toList
  | 0, b => by
    show b.toList = b.toList ++ []
    rw [List.append_nil]
  | k + 1, b => by
    rw [List.replicate_succ, List.foldl_cons, fold_list a k (b ++ a), reps_succ, Array.toList_append, List.append_assoc]
theorem mul_Z (cs : List Nat) (n : Nat) : Txt.mul (Z cs) (n : Int) = Z (reps n cs) := by
  unfold Txt.mul
  by_cases h0 : (n : Int) < 1
  · have e : n = 0 := by omega
    subst e
    rw [if_pos h0]
    rfl
  · rw [if_neg h0]
    by_cases h1 : ((n : Int) == 1 || (Z cs).length == 0) = true
    · rw [if_pos h1]
      rw [Bool.or_eq_true] at h1
      rcases h1 with h1 | h1
      · have e : n = 1 := by have := eq_of_beq h1; omega
        subst e
        show Z cs = Z (reps 1 cs)
        rw [reps_succ]
        show Z cs = Z (cs ++ [])
        rw [List.append_nil]
      · have e : cs = [] := by
          have := eq_of_beq h1
          rw [Z_len] at this
          exact List.eq_nil_of_length_eq_zero this
        subst e
        have : ∀ n, reps n [] = [] := fun n => by
          induction n with
          | zero => rfl
          | succ n ih => rw [reps_succ, ih]; rfl
        rw [this]
    · rw [if_neg h1]
      refine TL.ext_tl ?_
      show ((List.replicate (n : Int).toNat (Z cs).cps).foldl (· ++ ·) #[]).toList = reps n cs
      rw [fold_list]
      rfl
theorem op_mulT : OpR X (binaryOp .Mult) rMulT := by
  intro pins s σ H x y v u Q I rx ry ⟨cs, n, ex, ey, hz, hn, q⟩
  subst ex ey
  obtain ⟨t, rfl⟩ := rx
  obtain ⟨t2, rfl⟩ := ry
  exact PySem.SB.mul (mulOk_of 16 2000 (by rw [Z_len]; exact hz) (by omega) (by omega) (by decide) (by decide)) fun t' k => ⟨.str (Txt.mul (Z cs) n), H, I.tok _, ⟨_, rfl⟩, by rw [mul_Z]; exact q⟩
end
abbrev s_law_form_text : Stmt := top 48
abbrev N_law_form_text : List Str := ["_law_form", "_law_is_half", "_law_sign", "_law_text"]
abbrev P_law_form_text : List Str := ["_law_form", "_law_is_half"]
theorem sc_law_form_text : FnScope N_law_form_text P_law_form_text (defScope s_law_form_text) := ⟨rfl, rfl, rfl, by decide +kernel, rfl, by decide +kernel, by decide +kernel⟩
def spLText (K : PySem.W.Frag) (n : Nat) : Sp := fun vs H Q _ => ∃ (v : V) (t : FT) (h : Bool), vs = [v, .bl h] ∧ Fm K H t v ∧ t.dep < n ∧ (wrt true t).length + 20 ≤ sizeLine ∧ ∀ H', Same H H' → Q (.str (Z (wrt h t))) H'
def signD : List (Key × V) := [(.inr "both", .str "*"), (.inr "between", .str "|"), (.inr "offered", .str "&"), (.inr "chosen", .str "+")]
theorem signD_get (s : Sg) : valV (mergeK [] signD) (.inr s.word) = some (.str (Z [s.code])) := by cases s <;> rfl
theorem sl {n m : Nat} (a : List Nat) (b : List Nat) (h : a.length + b.length ≤ sizeLine) : (Z a).length + (Z b).length ≤ sizeLine := by rw [Z_len, Z_len]; exact h
theorem leafS_eq (co : Bool) (n : List Nat) : leafS co n = n ++ reps (if co then 1 else 0) [126] := by cases co <;> rfl
theorem wrt_short (h : Bool) (t : FT) : (wrt h t).length ≤ (wrt true t).length := by
  cases t with
  | leaf co n => cases h <;> exact Nat.le_refl _
  | node s l r =>
    cases h with
    | true => exact Nat.le_refl _
    | false =>
      show (wrt true l ++ (32 :: s.code :: 32 :: wrt true r)).length ≤ (40 :: (wrt true l ++ (32 :: s.code :: 32 :: wrt true r) ++ [41])).length
      simp only [List.length_append, List.length_cons, List.length_nil]
      omega
theorem same_disp {H : Hp} {p : Addr} {o o' : HO} (n : H p = none) : Same H (upd (upd H p o) p o') := fun b u e => by
  rw [upd_ne (ne_of_none e n), upd_ne (ne_of_none e n)]
  exact e
section
variable {P : Program} {w : World} {K : PySem.W.Frag} {mg : Str → Option Value} {base : Heap} {f : Addr} {fd : FuncData} {CR CW fI : Addr}
theorem ok_law_form_text {n : Nat} (T : Txt K mg) (F : Fun K "_law_form_text" "_law_form_text" s_law_form_text f fd) (C_law_form_text : Cal P w K mg base "_law_form_text" (1 + n) P_law_form_text (spLText K n)) : FnOk P w K mg base CX0 (1 + n + 1) f fd P_law_form_text (spLText K (n + 1)) := by
  refine F.ok sc_law_form_text (fun vs H Q E h => ?_) (fun cdv A outer s H vs Q E hr h => ?_)
  · obtain ⟨v, t, h, rfl, _⟩ := h
    rfl
  obtain ⟨v, t, b, rfl, hf, hd, hl, q⟩ := h
  refine ⟨_, (pss_cons (ps_if (pt_cmpR op_eq (pe_callB call_len rfl T.len (by decide +kernel) (pa_cons (pv 0) pa_nil)) pe_int (nomark _))
    (pss_one (ps_ret (pe_op op_add_str (pe_ix ix_tup (pv 0) pe_int (fun _ _ => rfl)) (pe_op op_mulT pe_str (pe_callTy call_int1 rfl T.int (by decide +kernel) (pa_cons (pe_cmpR op_eq (pe_ix ix_tup (pv 0) pe_int (fun _ _ => rfl)) pe_str (nomark _)) pa_nil))))))
    pss_nil)
  (pss_cons (ps_set (i := 2) sc_law_form_text.nd rfl (Or.inl rfl) (pe_dget (hu_of hr) (pe_disp (pps_cons pe_str pe_str (pps_cons pe_str pe_str (pps_cons pe_str pe_str (pps_cons pe_str pe_str pps_nil)))) (by rfl) (by rfl) (fun z => by cases z) (by decide)) (pe_ix ix_tup (pv 0) pe_int (fun _ _ => rfl)) (fun _ _ => rfl)))
  (pss_cons (ps_set (i := 3) sc_law_form_text.nd rfl (Or.inl rfl) (pe_op op_add_str (pe_op op_add_str (pe_op op_add_str (pe_op op_add_str (pe_callC C_law_form_text hr (pa_cons (pe_ix ix_tup (pv 0) pe_int (fun _ _ => rfl)) (pa_cons pe_bl pa_nil))) pe_str) (pv 2)) pe_str) (pe_callC C_law_form_text hr (pa_cons (pe_ix ix_tup (pv 0) pe_int (fun _ _ => rfl)) (pa_cons pe_bl pa_nil)))))
  (pss_one (ps_ret (pe_ifExp (pt_truth (pv 1) (by intro _; rfl)) (pe_op op_add_str (pe_op op_add_str pe_str (pv 3)) pe_str) (pv 3))))))), ?_⟩
  cases t with
  | leaf co m =>
    obtain ⟨a, rfl, hs⟩ := hf
    have hl2 : (leafS co m).length + 20 ≤ sizeLine := hl
    have hl3 : m.length ≤ (leafS co m).length := by
      unfold leafS
      rw [List.length_append]
      omega
    refine ⟨_, rfl, _, _, rfl, .inr ⟨_, hs, rfl⟩, rfl, _, rfl, iteT ?_⟩
    refine ⟨_, rfl, a, _, _, _, rfl, rfl, hs, rfl, ?_⟩
    refine ⟨_, rfl, a, _, _, _, rfl, rfl, hs, rfl, rfl, .inr ⟨_, rfl, [126], (if co then 1 else 0), rfl, ?_, by decide, by cases co <;> decide, _, _, rfl, rfl, ?_, ?_⟩⟩
    · cases co <;> rfl
    · refine sl (n := 0) (m := 0) _ _ ?_
      have : (reps (if co then 1 else 0) [126]).length ≤ 1 := by cases co <;> decide
      omega
    · show Q (.str (Z m ++ Z (reps (if co then 1 else 0) [126]))) H
      rw [Z_cat, ← leafS_eq]
      exact q H (Same.refl H)
  | node s l r =>
    obtain ⟨a, x, y, rfl, hs, hx, hy⟩ := hf
    have hdd : 1 + max l.dep r.dep < n + 1 := hd
    have hl2 : (wrt true l).length + (wrt true r).length + 25 ≤ sizeLine := by
      have e : wrt true (.node s l r) = 40 :: (wrt true l ++ (32 :: s.code :: 32 :: wrt true r) ++ [41]) := rfl
      rw [e] at hl
      simp only [List.length_append, List.length_cons, List.length_nil] at hl
      omega
    refine ⟨_, rfl, _, _, rfl, .inr ⟨_, hs, rfl⟩, rfl, _, rfl, iteF ?_⟩
    intro p5 np5
    refine ⟨upd_same, signD, rfl, by decide, ?_⟩
    have s5 : Same H (upd (upd H p5 (.dK [])) p5 (.dK (mergeK [] signD))) := same_disp np5
    refine ⟨_, rfl, a, _, _, _, rfl, rfl, (Same.kt s5).seq hs, rfl, p5, .str (Z [s.code]), rfl, .inl ⟨_, .inr s.word, .inl upd_same, rfl, (signD_get s).symm⟩, ?_⟩
    refine ⟨_, rfl, a, _, _, _, rfl, rfl, (Same.kt s5).seq hs, rfl, x, l, true, rfl, (Same.kt s5).fm l hx, by omega, by omega, fun H1 s1 => ?_⟩
    have k1 := Same.kt (s5.trans s1)
    have z1 : Z (wrt true l) ++ Str.ofString " " = Z (wrt true l ++ [32]) := Z_cat _ [32]
    have z2 : Z (wrt true l ++ [32]) ++ Z [s.code] = Z (wrt true l ++ [32] ++ [s.code]) := Z_cat _ [s.code]
    have z3 : Z (wrt true l ++ [32] ++ [s.code]) ++ Str.ofString " " = Z (wrt true l ++ [32] ++ [s.code] ++ [32]) := Z_cat _ [32]
    have z4 : Z (wrt true l ++ [32] ++ [s.code] ++ [32]) ++ Z (wrt true r) = Z (wrt false (.node s l r)) := by
      rw [Z_cat, show wrt false (.node s l r) = wrt true l ++ (32 :: s.code :: 32 :: wrt true r) from rfl]
      simp only [List.append_assoc, List.cons_append, List.nil_append]
    refine ⟨_, _, rfl, rfl, sl (n := 0) (m := 0) _ [32] (by simp only [List.length_cons, List.length_nil]; omega), ?_⟩
    rw [z1]
    refine ⟨_, rfl, _, _, rfl, rfl, sl (n := 0) (m := 0) _ [s.code] (by simp only [List.length_append, List.length_cons, List.length_nil]; omega), ?_⟩
    rw [z2]
    refine ⟨_, _, rfl, rfl, sl (n := 0) (m := 0) _ [32] (by simp only [List.length_append, List.length_cons, List.length_nil]; omega), ?_⟩
    rw [z3]
    refine ⟨_, rfl, a, _, _, _, rfl, rfl, k1.seq hs, rfl, y, r, true, rfl, k1.fm r hy, by omega, by omega, fun H2 s2 => ⟨_, _, rfl, rfl, sl (n := 0) (m := 0) _ _ (by simp only [List.length_append, List.length_cons, List.length_nil]; omega), ?_⟩⟩
    rw [z4]
    have s6 : Same H H2 := (s5.trans s1).trans s2
    have hb : (wrt false (.node s l r)).length + 2 ≤ sizeLine := by
      have := wrt_short false (.node s l r)
      omega
    refine ⟨_, rfl, b, rfl, ?_⟩
    cases b with
    | false => exact iteF ⟨_, rfl, q H2 s6⟩
    | true =>
      have y1 : Str.ofString "(" ++ Z (wrt false (.node s l r)) = Z (40 :: wrt false (.node s l r)) := Z_cat [40] _
      have y2 : Z (40 :: wrt false (.node s l r)) ++ Str.ofString ")" = Z (wrt true (.node s l r)) := Z_cat _ [41]
      refine iteT ⟨_, rfl, _, _, rfl, rfl, sl (n := 0) (m := 0) [40] _ (by simp only [List.length_cons, List.length_nil]; omega), ?_⟩
      rw [y1]
      refine ⟨_, _, rfl, rfl, sl (n := 0) (m := 0) _ [41] (by simp only [List.length_cons, List.length_nil]; omega), ?_⟩
      rw [y2]
      exact q H2 s6
end
end My

set_option Elab.async false
set_option linter.all false
set_option maxRecDepth 100000
namespace My
open PySem L2
abbrev s_law_tokens : Stmt := top 65
abbrev N_law_tokens : List Str := ["_law_form", "_law_is_half", "_law_sign", "_law_tokens_here"]
theorem sc_law_tokens : FnScope N_law_tokens P_law_form_text (defScope s_law_tokens) := ⟨rfl, rfl, rfl, by decide +kernel, rfl, by decide +kernel, by decide +kernel⟩
abbrev s_law_spaced : Stmt := top 66
abbrev N_law_spaced : List Str := ["_law_pen", "_law_tokens_here", "_law_most", "_law_out", "_law_token"]
abbrev P_law_spaced : List Str := ["_law_pen", "_law_tokens_here"]
theorem sc_law_spaced : FnScope N_law_spaced P_law_spaced (defScope s_law_spaced) := ⟨rfl, rfl, rfl, by decide +kernel, rfl, by decide +kernel, by decide +kernel⟩
def zsV (ts : List (List Nat)) : List V := ts.map fun t => V.str (Z t)
def spTokens (K : PySem.W.Frag) (n : Nat) : Sp := fun vs H Q _ => ∃ (v : V) (t : FT) (h : Bool), vs = [v, .bl h] ∧ Fm K H t v ∧ t.dep < n ∧ (toks true t).length + 20 ≤ 1000 ∧ (wrt true t).length + 20 ≤ sizeLine ∧ ∀ H' p, Same H H' → H' p = some (.lst (zsV (toks h t))) → Q (.ref p) H'
theorem zsV_len (ts : List (List Nat)) : (zsV ts).length = ts.length := by unfold zsV; rw [List.length_map]
theorem zsV_cat (a b : List (List Nat)) : zsV (a ++ b) = zsV a ++ zsV b := by unfold zsV; rw [List.map_append]
section
variable {P : Program} {w : World} {K : PySem.W.Frag} {mg : Str → Option Value} {base : Heap} {f : Addr} {fd : FuncData} {CR CW fI : Addr}
theorem ok_law_tokens {n : Nat} (T : Txt K mg) (F : Fun K "_law_tokens" "_law_tokens" s_law_tokens f fd) (C_law_tokens : Cal P w K mg base "_law_tokens" (1 + n) P_law_form_text (spTokens K n)) : FnOk P w K mg base CX0 (1 + n + 1) f fd P_law_form_text (spTokens K (n + 1)) := by
  refine F.ok sc_law_tokens (fun vs H Q E h => ?_) (fun cdv A outer s H vs Q E hr h => ?_)
  · obtain ⟨v, t, h, rfl, _⟩ := h
    rfl
  obtain ⟨v, t, b, rfl, hf, hd, hn, hl, q⟩ := h
  refine ⟨_, (pss_cons (ps_if (pt_cmpR op_eq (pe_callB call_len rfl T.len (by decide +kernel) (pa_cons (pv 0) pa_nil)) pe_int (nomark _))
    (pss_one (ps_ret (pe_lstN (pa_cons (pe_op op_add_str (pe_ix ix_tup (pv 0) pe_int (fun _ _ => rfl)) (pe_op op_mulT pe_str (pe_callTy call_int1 rfl T.int (by decide +kernel) (pa_cons (pe_cmpR op_eq (pe_ix ix_tup (pv 0) pe_int (fun _ _ => rfl)) pe_str (nomark _)) pa_nil)))) pa_nil))))
    pss_nil)
  (pss_cons (ps_set (i := 2) sc_law_tokens.nd rfl (Or.inl rfl) (pe_dget (hu_of hr) (pe_disp (pps_cons pe_str pe_str (pps_cons pe_str pe_str (pps_cons pe_str pe_str (pps_cons pe_str pe_str pps_nil)))) (by rfl) (by rfl) (fun z => by cases z) (by decide)) (pe_ix ix_tup (pv 0) pe_int (fun _ _ => rfl)) (fun _ _ => rfl)))
  (pss_cons (ps_set (i := 3) sc_law_tokens.nd rfl (Or.inl rfl) (pe_op op_catLN (pe_op op_catLN (pe_callC C_law_tokens hr (pa_cons (pe_ix ix_tup (pv 0) pe_int (fun _ _ => rfl)) (pa_cons pe_bl pa_nil))) (pe_lstN (pa_cons (pv 2) pa_nil))) (pe_callC C_law_tokens hr (pa_cons (pe_ix ix_tup (pv 0) pe_int (fun _ _ => rfl)) (pa_cons pe_bl pa_nil)))))
  (pss_one (ps_ret (pe_ifExp (pt_truth (pv 1) (by intro _; rfl)) (pe_op op_catLN (pe_op op_catLN (pe_lstN (pa_cons pe_str pa_nil)) (pv 3)) (pe_lstN (pa_cons pe_str pa_nil))) (pv 3))))))), ?_⟩
  cases t with
  | leaf co m =>
    obtain ⟨a, rfl, hs⟩ := hf
    have hl2 : (leafS co m).length + 20 ≤ sizeLine := hl
    have hl3 : m.length ≤ (leafS co m).length := by
      unfold leafS
      rw [List.length_append]
      omega
    refine ⟨_, rfl, _, _, rfl, .inr ⟨_, hs, rfl⟩, rfl, _, rfl, iteT ?_⟩
    refine ⟨_, rfl, a, _, _, _, rfl, rfl, hs, rfl, ?_⟩
    refine ⟨_, rfl, a, _, _, _, rfl, rfl, hs, rfl, rfl, .inr ⟨_, rfl, [126], (if co then 1 else 0), rfl, ?_, by decide, by cases co <;> decide, _, _, rfl, rfl, ?_, le1k, fun p H1 s1 h1 => q H1 p s1 ?_⟩⟩
    · cases co <;> rfl
    · refine sl (n := 0) (m := 0) _ _ ?_
      have : (reps (if co then 1 else 0) [126]).length ≤ 1 := by cases co <;> decide
      omega
    · have e : Z m ++ Z (reps (if co then 1 else 0) [126]) = Z (leafS co m) := by rw [Z_cat, ← leafS_eq]
      have h1 : H1 p = some (.lst [V.str (Z m ++ Z (reps (if co then 1 else 0) [126]))]) := h1
      rw [e] at h1
      cases b <;> exact h1
  | node s l r =>
    obtain ⟨a, x, y, rfl, hs, hx, hy⟩ := hf
    have hdd : 1 + max l.dep r.dep < n + 1 := hd
    have hl2 : (wrt true l).length + (wrt true r).length + 25 ≤ sizeLine := by
      have e : wrt true (.node s l r) = 40 :: (wrt true l ++ (32 :: s.code :: 32 :: wrt true r) ++ [41]) := rfl
      rw [e] at hl
      simp only [List.length_append, List.length_cons, List.length_nil] at hl
      omega
    have hn2 : (toks true l).length + (toks true r).length + 23 ≤ 1000 := by
      have e : toks true (.node s l r) = [40] :: (toks true l ++ ([s.code] :: toks true r) ++ [[41]]) := rfl
      rw [e] at hn
      simp only [List.length_append, List.length_cons, List.length_nil] at hn
      omega
    refine ⟨_, rfl, _, _, rfl, .inr ⟨_, hs, rfl⟩, rfl, _, rfl, iteF ?_⟩
    intro p5 np5
    refine ⟨upd_same, signD, rfl, by decide, ?_⟩
    have s5 : Same H (upd (upd H p5 (.dK [])) p5 (.dK (mergeK [] signD))) := same_disp np5
    refine ⟨_, rfl, a, _, _, _, rfl, rfl, (Same.kt s5).seq hs, rfl, p5, .str (Z [s.code]), rfl, .inl ⟨_, .inr s.word, .inl upd_same, rfl, (signD_get s).symm⟩, ?_⟩
    refine ⟨_, rfl, a, _, _, _, rfl, rfl, (Same.kt s5).seq hs, rfl, x, l, true, rfl, (Same.kt s5).fm l hx, by omega, by omega, by omega, fun H1 p1 s1 h1 => ?_⟩
    refine ⟨_, rfl, le1k, fun p2 H2 s2 h2 => ⟨p1, p2, _, _, rfl, rfl, s2 _ _ h1, h2, by rw [zsV_len]; simp only [List.length_cons, List.length_nil]; omega, fun p3 H3 s3 h3 => ?_⟩⟩
    have k3 := Same.kt (((s5.trans s1).trans s2).trans s3)
    refine ⟨_, rfl, a, _, _, _, rfl, rfl, k3.seq hs, rfl, y, r, true, rfl, k3.fm r hy, by omega, by omega, by omega, fun H4 p4 s4 h4 => ?_⟩
    refine ⟨p3, p4, _, _, rfl, rfl, s4 _ _ h3, h4, by simp only [List.length_append, zsV_len, List.length_cons, List.length_nil]; omega, fun p6 H6 s6 h6 => ?_⟩
    have sA : Same H H6 := ((((s5.trans s1).trans s2).trans s3).trans s4).trans s6
    have e6 : zsV (toks true l) ++ [V.str (Z [s.code])] ++ zsV (toks true r) = zsV (toks false (.node s l r)) := by
      show _ = zsV (toks true l ++ ([s.code] :: toks true r))
      rw [zsV_cat, List.append_assoc]
      rfl
    rw [e6] at h6
    have hb : (toks false (.node s l r)).length + 2 ≤ 1000 := by
      show (toks true l ++ ([s.code] :: toks true r)).length + 2 ≤ 1000
      simp only [List.length_append, List.length_cons]
      omega
    refine ⟨_, rfl, b, rfl, ?_⟩
    cases b with
    | false => exact iteF ⟨_, rfl, q H6 p6 sA h6⟩
    | true =>
      refine iteT ⟨le1k, fun p7 H7 s7 h7 => ⟨_, rfl, p7, p6, _, _, rfl, rfl, h7, s7 _ _ h6, by rw [zsV_len]; simp only [List.length_cons, List.length_nil]; omega, fun p8 H8 s8 h8 => ⟨le1k, fun p9 H9 s9 h9 => ⟨p8, p9, _, _, rfl, rfl, s9 _ _ h8, h9, by simp only [List.length_append, zsV_len, List.length_cons, List.length_nil]; omega, fun p10 H10 s10 h10 => ?_⟩⟩⟩⟩
      refine q H10 p10 ((((sA.trans s7).trans s8).trans s9).trans s10) ?_
      rw [h10]
      have e8 : [V.str (Str.ofString "(")] ++ zsV (toks false (.node s l r)) ++ [V.str (Str.ofString ")")] = zsV (toks true (.node s l r)) := by
        show _ = zsV ([40] :: (toks false (.node s l r) ++ [[41]]))
        show _ = V.str (Z [40]) :: zsV (toks false (.node s l r) ++ [[41]])
        rw [zsV_cat]
        rfl
      rw [e8]
end
end My

set_option Elab.async false
set_option linter.all false
set_option maxRecDepth 100000
namespace My
open PySem L2
theorem reps_one (x : Nat) : ∀ n, reps n [x] = List.replicate n x
  | 0 => rfl
  | n + 1 => by rw [reps_succ, reps_one x n]; rfl
/-- the tokens up to here are laid -/
def Go (ts : List (List Nat)) (cs : List Nat) : Prop := ∀ ts' cs', Gp ts' cs' → Gp (ts ++ ts') (cs ++ cs')
theorem Go.nil : Go [] [] := fun _ _ h => h
theorem Go.snoc {ts : List (List Nat)} {cs t : List Nat} (g : Go ts cs) (k : Nat) : Go (ts ++ [t]) (cs ++ spc k ++ t) := fun ts' cs' h => by
  have := g (t :: ts') _ (.cons k h)
  rw [List.append_assoc, List.append_assoc, List.append_assoc]
  exact this
theorem Go.done {ts : List (List Nat)} {cs : List Nat} (g : Go ts cs) (k : Nat) : Gp ts (cs ++ spc k) := by
  have := g [] _ (.nil k)
  rw [List.append_nil] at this
  exact this
def spSpaced (K : PySem.W.Frag) : Sp := fun vs H Q _ => ∃ (d L a : Addr) (ns : List Int) (n : Nat) (ts : List (List Nat)), vs = [.ref d, .ref a] ∧ Pen K H d L ns n ∧ n + ts.length + 2 < 2 ^ 39 ∧ H a = some (.lst (zsV ts)) ∧ ts.length ≤ 1000 ∧ ts.flatten.length + 4 * ts.length + 10 ≤ sizeLine ∧
  ∀ cs H', Gp ts cs → cs.length ≤ ts.flatten.length + 4 * ts.length + 4 → Keep d H H' → Pen K H' d L ns (n + ts.length + 2) → Q (.str (Z cs)) H'
theorem flat_take (ts : List (List Nat)) (i : Nat) : (ts.take i).flatten.length ≤ ts.flatten.length := by
  have : ts.flatten = (ts.take i).flatten ++ (ts.drop i).flatten := by rw [← List.flatten_append, List.take_append_drop]
  rw [this, List.length_append]
  omega
section
variable {P : Program} {w : World} {K : PySem.W.Frag} {mg : Str → Option Value} {base : Heap} {f : Addr} {fd : FuncData}
theorem ok_law_spaced (F : Fun K "_law_spaced" "_law_spaced" s_law_spaced f fd) (C_law_draw : Cal P w K mg base "_law_draw" 1 ["_law_pen", "_law_span"] (spDraw K)) (C_law_pick : Cal P w K mg base "_law_pick" 2 ["_law_pen", "_law_some"] (spPick K)) :
    FnOk P w K mg base CX0 3 f fd P_law_spaced (spSpaced K) := by
  refine F.ok sc_law_spaced (fun vs H Q E h => ?_) (fun cdv A outer s H vs Q E hr h => ?_)
  · obtain ⟨d, L, a, ns, n, ts, rfl, _⟩ := h
    rfl
  obtain ⟨d, L, a, ns, n, ts, rfl, p, hn, ha, ht, hl, q⟩ := h
  refine ⟨_, (pss_cons (ps_par (i := 2) (j := 3) (by rfl) sc_law_spaced.nd rfl rfl (by decide) rfl rfl (pa_cons (pe_callC C_law_pick hr (pa_cons (pv 0) (pa_cons (pe_lst (pa_cons pe_int (pa_cons pe_int (pa_cons pe_int pa_nil)))) pa_nil))) (pa_cons pe_str pa_nil)) (by rfl))
  (pss_cons (ps_for PassesOwn.never rfl (pi_list (pv 1)) (pg_name (i := 4) sc_law_spaced.nd rfl (Or.inl rfl))
    (pss_one (ps_set (i := 3) sc_law_spaced.nd rfl (Or.inl rfl) (pe_op op_add_str (pe_op op_add_str (pv 3) (pe_op op_mulT pe_str (pe_callC C_law_draw hr (pa_cons (pv 0) (pa_cons (pv 2) pa_nil))))) (pv 4)))))
  (pss_one (ps_ret (pe_op op_add_str (pv 3) (pe_op op_mulT pe_str (pe_callC C_law_draw hr (pa_cons (pv 0) (pa_cons (pv 2) pa_nil))))))))), ?_⟩
  have nad : a ≠ d := fun e => by
    obtain ⟨kvs, h⟩ := p.isDk
    rw [← e, ha] at h
    cases h
  refine ⟨_, rfl, by show 3 ≤ sizeLine; decide, fun p0 np0 => ?_⟩
  refine ⟨d, L, ns, n, _, rfl, p.same (same_new np0 _), by omega, .inl ⟨p0, _, rfl, SqL.of upd_same, by simp, by show 3 ≤ 1000; decide, fun x H1 hx k1 p1 => ?_⟩⟩
  have k1' : Keep d H H1 := (Same.toKeep (same_new np0 _)).trans k1
  obtain ⟨m, rfl, m0, m4⟩ : ∃ m : Int, x = .int m ∧ 0 < m ∧ m ≤ 4 := by
    simp only [List.mem_cons, List.not_mem_nil, or_false] at hx
    rcases hx with rfl | rfl | rfl
    · exact ⟨1, rfl, by decide, by decide⟩
    · exact ⟨2, rfl, by decide, by decide⟩
    · exact ⟨4, rfl, by decide, by decide⟩
  have ha1 : H1 a = some (.lst (zsV ts)) := k1' _ _ nad ha
  refine ⟨_, _, rfl, _, rfl, a, rfl, ⟨_, SqL.of ha1⟩, ?_⟩
  have zl := zsV_len ts
  refine for_it walk_list (fun i σ H' => ∃ cs o, σ = [some (.ref d), some (.ref a), some (.int m), some (.str (Z cs)), o] ∧ Keep d H H' ∧ Pen K H' d L ns (n + 1 + i) ∧ Go (ts.take i) cs ∧ cs.length ≤ (ts.take i).flatten.length + 4 * i)
    ⟨[], none, rfl, k1', p1, Go.nil, Nat.zero_le _⟩ (fun i σ H' _ ⟨_, _, _, k, _⟩ => SqL.of (k _ _ nad ha)) (fun i x σ H9 H10 hi pv y => ?_) (fun σ H' pv => ?_)
  · obtain ⟨rfl, hx⟩ := y
    obtain ⟨cs, o, rfl, k9, p9, g9, l9⟩ := pv
    rw [zl] at hi
    obtain ⟨t, ht1, rfl⟩ : ∃ t, ts[i]? = some t ∧ x = .str (Z t) := by
      unfold zsV at hx
      rw [List.getElem?_map] at hx
      cases e : ts[i]? with
      | none => rw [e] at hx; cases hx
      | some t =>
        rw [e] at hx
        exact ⟨t, rfl, (Option.some.inj hx).symm⟩
    refine ⟨_, rfl, _, rfl, _, rfl, d, L, ns, _, m, rfl, p9, by omega, m0, by omega, fun r H11 r0 r1 k11 p11 => ?_⟩
    obtain ⟨k, rfl⟩ : ∃ k : Nat, r = k := ⟨r.toNat, by omega⟩
    have htk : ts.take (i + 1) = ts.take i ++ [t] := take_next ht1
    have hf := flat_take ts (i + 1)
    rw [htk, List.flatten_append, List.length_append, List.flatten_cons, List.flatten_nil, List.append_nil] at hf
    have hi4 : 4 * i + 4 ≤ 4 * ts.length := by omega
    refine ⟨[32], k, rfl, rfl, by decide, by omega, _, _, rfl, rfl, ?_, ?_⟩
    · rw [Z_len, Z_len, reps_one, List.length_replicate]
      omega
    rw [Z_cat, reps_one]
    refine ⟨_, rfl, _, _, rfl, rfl, ?_, ?_⟩
    · rw [Z_len, Z_len, List.length_append, List.length_replicate]
      omega
    rw [Z_cat]
    refine ⟨_, _, rfl, k9.trans k11, p11, ?_, ?_⟩
    · rw [htk]
      exact g9.snoc k
    · rw [htk, List.flatten_append, List.length_append, List.flatten_cons, List.flatten_nil, List.append_nil, List.length_append, List.length_append, List.length_replicate]
      omega
  · obtain ⟨cs, o, rfl, k9, p9, g9, l9⟩ := pv
    rw [zl] at p9 g9 l9
    rw [List.take_length] at g9 l9
    refine ⟨_, rfl, _, rfl, _, rfl, d, L, ns, _, m, rfl, p9, by omega, m0, by omega, fun r H11 r0 r1 k11 p11 => ?_⟩
    obtain ⟨k, rfl⟩ : ∃ k : Nat, r = k := ⟨r.toNat, by omega⟩
    refine ⟨[32], k, rfl, rfl, by decide, by omega, _, _, rfl, rfl, ?_, ?_⟩
    · rw [Z_len, Z_len, reps_one, List.length_replicate]
      omega
    rw [Z_cat, reps_one]
    exact q _ H11 (g9.done k) (by rw [List.length_append, List.length_replicate]; omega) (k9.trans k11) (p11.mono (by omega))
end
end My

set_option Elab.async false
set_option linter.all false
set_option maxRecDepth 100000
namespace My
open PySem L2
namespace Told
variable {X : Cx} {k j : Nat} {ps : List Str} {sp : Sp} {x : Str} {p pos : Pos} {e : Expr} {es : List Expr} {t : TA}
/-- a call of a def that may raise, where it does not -/
theorem pe_callV (C : CalX X.prog X.w X.K X.mg X.base x k ps sp) (hr : Room j X.A) (ha : PA X (e :: es) t) (hk : k ≤ j := by omega) (hg : Gl X x := by rfl) (hdb : (x == ("__debug__" : Str)) = false := by decide)
    (he : starEach (e :: es) X.env = (false, eval e X.env) :: starEach es X.env := by rfl) (hpl : (backTo pos (starEach es X.env)).any (·.1) = false := by rfl) :
    PE X (.Call (.Name x p) (e :: es) [] pos) (tCall sp [] E0 t) := pe_call C.ok (hr.mono hk) hg C.m C.kp C.b .nil passL ha hdb he hpl
end Told
abbrev N_law_text_right : List Str := ["_law_pen", "_law_form", "_law_text", "_law_tokens_here", "_law_spaced_here"]
abbrev P_law_text_right : List Str := ["_law_pen", "_law_form"]
theorem tw_fm {K : PySem.W.Frag} {H : Hp} : ∀ (t : FT) (n : Nat) {v u : V}, t.dep + 2 ≤ n → Fm K H t v → Fm K H t u → Tw K H n v u := by
  intro t
  induction t with
  | leaf co m =>
    intro n v u h hv hu
    obtain ⟨a, ea, ha⟩ := hv
    obtain ⟨b, eb, hb⟩ := hu
    obtain ⟨k, rfl⟩ : ∃ k, n = k + 2 := ⟨n - 2, by omega⟩
    have w1 : ∀ z : Str, Tw K H (k + 1) (.str z) (.str z) := fun z => .inl ⟨rfl, rfl⟩
    exact .inr (.inr (.inl ⟨a, b, _, _, ea, eb, ha, hb, le1k, .cons (w1 _) (.cons (w1 _) .nil)⟩))
  | node s l r ihl ihr =>
    intro n v u h hv hu
    obtain ⟨a, x, y, ea, ha, hx, hy⟩ := hv
    obtain ⟨b, x', y', eb, hb, hx', hy'⟩ := hu
    have hd : 1 + max l.dep r.dep + 2 ≤ n := h
    obtain ⟨k, rfl⟩ : ∃ k, n = k + 1 := ⟨n - 1, by omega⟩
    obtain ⟨k, rfl⟩ : ∃ j, k = j + 1 := ⟨k - 1, by omega⟩
    have w1 : ∀ z : Str, Tw K H (k + 1) (.str z) (.str z) := fun z => .inl ⟨rfl, rfl⟩
    exact .inr (.inr (.inl ⟨a, b, _, _, ea, eb, ha, hb, le1k, .cons (w1 _) (.cons (ihl (k + 1) (by omega) hx hx') (.cons (ihr (k + 1) (by omega) hy hy') .nil))⟩))
theorem toks_flat : ∀ (t : FT) (h : Bool), (toks h t).flatten.length ≤ (wrt h t).length
  | .leaf co n, h => by
    have : (toks h (.leaf co n)).flatten = leafS co n ++ [] := by cases h <;> rfl
    rw [this, List.append_nil]
    cases h <;> exact Nat.le_refl _
  | .node s l r, h => by
    have hl := toks_flat l true
    have hr := toks_flat r true
    cases h with
    | false =>
      show (toks true l ++ ([s.code] :: toks true r)).flatten.length ≤ (wrt true l ++ (32 :: s.code :: 32 :: wrt true r)).length
      simp only [List.flatten_append, List.flatten_cons, List.length_append, List.length_cons, List.length_nil]
      omega
    | true =>
      show ([40] :: (toks true l ++ ([s.code] :: toks true r) ++ [[41]])).flatten.length ≤ (40 :: (wrt true l ++ (32 :: s.code :: 32 :: wrt true r) ++ [41])).length
      simp only [List.flatten_append, List.flatten_cons, List.flatten_nil, List.length_append, List.length_cons, List.length_nil]
      omega
theorem toks_short (h : Bool) (t : FT) : (toks h t).length ≤ (toks true t).length := by
  cases t with
  | leaf co n => cases h <;> exact Nat.le_refl _
  | node s l r =>
    cases h with
    | true => exact Nat.le_refl _
    | false =>
      show (toks true l ++ ([s.code] :: toks true r)).length ≤ ([40] :: (toks true l ++ ([s.code] :: toks true r) ++ [[41]])).length
      simp only [List.length_append, List.length_cons, List.length_nil]
      omega
theorem big : 100000 ≤ sizeLine := by decide
def spTextRight (K : PySem.W.Frag) : Sp := fun vs H Q _ => ∃ (d L : Addr) (ns : List Int) (n : Nat) (v : V) (t : FT), vs = [.ref d, v] ∧ Pen K H d L ns n ∧ n < 2 ^ 38 ∧ Fm K H t v ∧ t.Ok ∧ t.dep ≤ 12 ∧ (toks true t).length ≤ 900 ∧ (wrt true t).length ≤ 10000 ∧
  ∀ H', Keep d H H' → Pen K H' d L ns (n + 2000) → Q (.bl true) H'
section
variable {P : Program} {w : World} {K : PySem.W.Frag} {mg : Str → Option Value} {base : Heap} {f : Addr} {fd : FuncData}
theorem kt_pen {d L : Addr} {ns : List Int} {n : Nat} {H H' : Hp} (p : Pen K H d L ns n) (k : Keep d H H') : KT H H' := fun a o h e => by
  obtain ⟨kvs, hd⟩ := p.isDk
  refine k a o (fun z => ?_) e
  subst z
  rw [hd] at e
  have e := Option.some.inj e
  subst e
  rcases h with ⟨_, e⟩ | ⟨_, _, e⟩ <;> cases e
theorem sum_flat : ∀ ts : List (List Nat), ((ts.map Z).map (·.length)).sum = ts.flatten.length
  | [] => rfl
  | t :: ts => by
    rw [List.map_cons, List.map_cons, List.sum_cons, sum_flat ts, List.flatten_cons, List.length_append, Z_len]
theorem join_Z (ts : List (List Nat)) : Txt.join Str.empty (ts.map Z) = Z ts.flatten := by
  have e0 : Txt.join Str.empty (ts.map Z) = Str.join Str.empty (ts.map Z) := TL.join_eq _ _
  rw [e0]
  clear e0
  induction ts with
  | nil => rfl
  | cons t ts ih =>
    cases ts with
    | nil =>
      show Z t = Z (t ++ [])
      rw [List.append_nil]
    | cons t2 ts =>
      have e : Str.join Str.empty ((t :: t2 :: ts).map Z) = Z t ++ Z [] ++ Str.join Str.empty ((t2 :: ts).map Z) := rfl
      rw [e, ih, Z_cat t [], List.append_nil, Z_cat t _]
      rfl
end
end My

set_option Elab.async false
set_option linter.all false
set_option maxRecDepth 100000
namespace My
open PySem L2
abbrev s_law_no_form : Stmt := top 63
abbrev N_law_no_form : List Str := ["_law_pen", "_law_form", "_law_odd"]
abbrev P_law_no_form : List Str := ["_law_pen", "_law_form"]
theorem sc_law_no_form : FnScope N_law_no_form P_law_no_form (defScope s_law_no_form) := ⟨rfl, rfl, rfl, by decide +kernel, rfl, by decide +kernel, by decide +kernel⟩
def spNoForm (K : PySem.W.Frag) : Sp := fun vs H Q _ => ∃ (d L : Addr) (ns : List Int) (n : Nat) (v : V) (D : PyData), vs = [.ref d, v] ∧ Pen K H d L ns n ∧ n < 2 ^ 37 + 100 ∧ Dp K H v D ∧ isForm 12 D = true ∧
  ∀ v' D' H', Dp K H' v' D' → shortD D' = true → widD D' = true → D'.depth ≤ 20 → isForm 12 D' = false → Keep d H H' → Q v' H'
theorem deep_not {D : PyData} (h : Deep 13 D) : isForm 12 D = false := h.2 12 (by decide)
section
variable {P : Program} {w : World} {K : PySem.W.Frag} {mg : Str → Option Value} {base : Heap} {f : Addr} {fd : FuncData}
theorem ok_law_no_form (T : Txt K mg) (F : Fun K "_law_no_form" "_law_no_form" s_law_no_form f fd) (C_law_pick : Cal P w K mg base "_law_pick" 2 P_law_pick (spPick K)) (C_law_bent : Cal P w K mg base "_law_bent" 16 P_law_bent (spBent K 13)) (C_law_is_form : Cal P w K mg base "_law_is_form" 15 P_law_is_form (spFormL K 13))
    (C_law_deeper : Cal P w K mg base "_law_deeper" 14 P_law_deeper (spDeeper K)) : FnOk P w K mg base CX0 17 f fd P_law_no_form (spNoForm K) := by
  refine F.ok sc_law_no_form (fun vs H Q E h => ?_) (fun cdv A outer s H vs Q E hr h => ?_)
  · obtain ⟨d, L, ns, n, v, D, rfl, _⟩ := h
    rfl
  obtain ⟨d, L, ns, n, v, D, rfl, hp, hn, hv, hD, q⟩ := h
  refine ⟨_, (pss_cons (ps_set (i := 2) sc_law_no_form.nd rfl (Or.inl rfl) (pe_callC C_law_bent hr (pa_cons (pv 0) (pa_cons (pv 1) pa_nil))))
  (pss_cons (ps_if (pt_val (pe_callC C_law_is_form hr (pa_cons (pv 2) (pa_cons pe_int pa_nil))))
    (pss_one (ps_set (i := 2) sc_law_no_form.nd rfl (Or.inl rfl) (pe_callC C_law_pick hr (pa_cons (pv 0) (pa_cons (pe_lstN (pa_cons pe_non (pa_cons (pe_callTy call_listN rfl T.list (by decide +kernel) (pa_cons (pv 1) pa_nil)) (pa_cons (pe_tupN (pa_cons pe_str (pa_cons pe_str pa_nil))) (pa_cons (pe_callC C_law_deeper hr (pa_cons (pv 1) (pa_cons pe_int pa_nil))) pa_nil))))) pa_nil)))))
    pss_nil)
  (pss_one (ps_ret (pv 2))))), ?_⟩
  refine ⟨_, rfl, _, rfl, d, L, ns, n, v, D, 12, rfl, by omega, by omega, hp, by omega, hv, hD, fun v1 D1 H1 h1 s1 w1 dp1 k1 p1 => ?_⟩
  refine ⟨_, rfl, v1, 12, D1, rfl, by omega, h1, s1, by omega, fun H2 s2 => ⟨_, rfl, ?_⟩⟩
  have hd1 := p1.isDk
  have k2 := k1.trans (Same.toKeep s2)
  cases c : isForm 12 D1 with
  | false => exact ⟨_, rfl, q v1 D1 H2 (dp_same s2 _ _ h1) s1 w1 (by omega) c k2⟩
  | true =>
    obtain ⟨a, xs, ds, rfl, hT, hA, rfl⟩ : ∃ a xs ds, v = .ref a ∧ SqT K H a xs ∧ DpAll K H xs ds ∧ D = .tuple ds := by
      rcases isForm_inv hD with ⟨y, m, rfl, hy, hm⟩ | ⟨j, y, b, e, _, rfl, hy, hc, hd⟩
      · cases hv with | tup g1 g2 => exact ⟨_, _, _, rfl, g1, g2, rfl⟩
      · cases hv with | tup g1 g2 => exact ⟨_, _, _, rfl, g1, g2, rfl⟩
    have kd := hp.isDk
    refine ⟨_, rfl, _, rfl, a, xs, rfl, .inr (seqT_keep kd k2 hT), fun l1 H3 s3 e3 => ?_⟩
    refine ⟨le1k, fun t1 H4 s4 e4 => ?_⟩
    have s24 := Same.trans s3 s4
    have k4 := k2.trans (Same.toKeep s24)
    refine ⟨_, rfl, .ref a, .tuple ds, 13, rfl, by decide, by decide, dp_keep kd k4 _ _ (.tup hT hA), hD, fun v5 D5 H5 h5 d5 _ s5 => ⟨le1k, fun l6 H6 s6 e6 => ?_⟩⟩
    have s26 := Same.trans s24 (Same.trans s5 s6)
    have p6 := p1.same (Same.trans s2 s26)
    refine ⟨d, L, ns, _, .ref l6, rfl, p6, by omega, .inl ⟨l6, _, rfl, SqL.of e6, by simp, le1k, fun x H7 hx k7 p7 => ⟨_, rfl, ?_⟩⟩⟩
    have kd6 := p6.isDk
    have k07 := (k2.trans (Same.toKeep s26)).trans k7
    have dsl : ds.length ≤ 3 := by
      rcases isForm_inv hD with ⟨y, m, e, _⟩ | ⟨j, y, b, e, _, e2, _⟩
      · cases e
        show 2 ≤ 3
        decide
      · cases e2
        show 3 ≤ 3
        decide
    simp only [List.mem_cons, List.not_mem_nil, or_false] at hx
    rcases hx with rfl | rfl | rfl | rfl
    · exact q .non .none H7 .non rfl rfl (by simp [PyData.depth]) rfl k07
    · refine q (.ref l1) (.list ds) H7 (.lst (seqL_keep kd6 k7 ((Same.trans s4 (Same.trans s5 s6)).seq (SqL.of e3))) (dpAll_keep kd k07 _ _ hA)) (show shortD (.tuple ds) = true from short_form hD) (show widD (.tuple ds) = true from wid_form hD) ?_ (isForm_not_tup 12 _ rfl) k07
      have := depth_form hD
      simp only [PyData.depth] at this ⊢
      omega
    · exact q (.ref t1) (.tuple [.str "good", .str "A"]) H7 (.tup (seqT_keep kd6 k7 (seqT_same (Same.trans s5 s6) e4)) (.cons (.str _) (.cons (.str _) .nil))) (by decide +kernel) rfl (by simp [PyData.depth, PyData.depthAll]) (by decide +kernel) k07
    · rcases d5 with d5 | ⟨z, _⟩
      · have dd := depth_form d5.1
        exact q x D5 H7 (dp_keep kd6 k7 _ _ (dp_same s6 _ _ h5)) (short_form d5.1) (wid_form d5.1) (by omega) (deep_not d5) k07
      · exact absurd z (by decide)
end
end My

set_option Elab.async false
set_option linter.all false
set_option maxRecDepth 100000
namespace My
open PySem L2
/-- a def of the text whose code object is known -/
structure FunC (K : PySem.W.Frag) (x qual : Str) (st : Stmt) (f : Addr) (fd : FuncData) (cdv : Value) : Prop where
  ex : ∃ (oc : Value) (od : Option Addr) (kV doc pm : Value) (an : Option Addr) (ct : Value) (osl : Array (Option Value)),
    fd = PySem.W.fnOf x qual (defArgs st) (defBody st) (defScope st) .none kV doc pm an cdv ct ∧ K.lookup f = some ⟨oc, od, .func fd, osl⟩ ∧ PySem.W.codeIn K cdv qual = true
theorem FunC.ok {P : Program} {w : World} {K : PySem.W.Frag} {mg : Str → Option Value} {base : Heap} {x qual : Str} {st : Stmt} {f : Addr} {fd : FuncData} {cdv : Value} {N ps : List Str} {k : Nat} {sp : Sp} (F : FunC K x qual st f fd cdv) (S : FnScope N ps (defScope st))
    (len : ∀ vs H Q E, sp vs H Q E → vs.length = ps.length)
    (hbody : ∀ (A : Around) (outer : List Env) (s : Shared) (H : Hp) (vs : List V) (Q : VK) (E : XK), Room k (A.deeper (PyProof.Rows.envOfC qual (defScope st) s.heap.objs.size f cdv)) → sp vs H Q E →
      ∃ t, PSs (cxOf CX0 P w K mg base N qual (defScope st) f cdv A outer s H E).nox (defBody st) t ∧ t { nx := fun _ H' => Q .non H', rt := Q } (L2.start N vs) H) : FnOk P w K mg base CX0 (k + 1) f fd ps sp := by
  obtain ⟨oc, od, kV, doc, pm, an, ct, osl, rfl, lk, hcd⟩ := F.ex
  refine fn_of lk hcd S len fun A outer s H vs Q E hr hsp => ?_
  obtain ⟨t, h, q⟩ := hbody A outer s H vs Q E hr hsp
  exact ⟨t, h.nox, q⟩
theorem cells_mono {env : Env} {N : List Str} {σ τ : L2.St} {C : Addr → Option Obj} (h : ∀ (i : Nat) (x : Str) (v : V), N[i]? = some x → σ[i]? = some (some v) → (env.kindOf x = some .cell ∨ env.kindOf x = some .free) → τ[i]? = some (some v)) (K : Clo.CellsAt env N τ C) : Clo.CellsAt env N σ C :=
  ⟨K.all, fun i x v c hn hs hk e => K.val i x v c hn (h i x v hn hs hk) hk e⟩
theorem minus_plus {C : Addr → Option Obj} {H : Hp} (h : ∀ c o, C c = some o → H c = none) : Clo.minus C (Clo.plus C H) = H := by
  funext b
  cases e : C b with
  | none => rw [Clo.minus_out e, Clo.plus_out e]
  | some o => rw [Clo.minus_in e, h b o e]
section
variable {K : PySem.W.Frag}
theorem seqT_x {H H' : Hp} (k : LamX.ExtN H H') {a : Addr} {xs : List V} (h : SqT K H a xs) : SqT K H' a xs := by
  rcases h with (h | ⟨o, h⟩) | h
  · exact .inl (.inl (k _ _ h fun _ z => nomatch z))
  · exact .inl (.inr ⟨o, k _ _ h fun _ z => nomatch z⟩)
  · exact .inr h
theorem seqL_x {H H' : Hp} (k : LamX.ExtN H H') {a : Addr} {xs : List V} (h : SqL K H a xs) : SqL K H' a xs := by
  rcases h with (h | ⟨o, h⟩) | h
  · exact .inl (.inl (k _ _ h fun _ z => nomatch z))
  · exact .inl (.inr ⟨o, k _ _ h fun _ z => nomatch z⟩)
  · exact .inr h
mutual
theorem dp_x {H H' : Hp} (k : LamX.ExtN H H') : ∀ (D : PyData) (v : V), Dp K H v D → Dp K H' v D
  | .none, _, h => by cases h; exact .non
  | .bool b, _, h => by cases h; exact .bl b
  | .int i, _, h => by cases h; exact .int i
  | .str x, _, h => by cases h; exact .str x
  | .list ds, _, h => by cases h with | lst hs ha => exact .lst (seqL_x k hs) (dpAll_x k ds _ ha)
  | .tuple ds, _, h => by cases h with | tup hs ha => exact .tup (seqT_x k hs) (dpAll_x k ds _ ha)
  | .dict _, _, h => by cases h
theorem dpAll_x {H H' : Hp} (k : LamX.ExtN H H') : ∀ (Ds : List PyData) (vs : List V), DpAll K H vs Ds → DpAll K H' vs Ds
  | [], _, h => by cases h; exact .nil
  | D :: Ds, _, h => by cases h with | cons h1 h2 => exact .cons (dp_x k D _ h1) (dpAll_x k Ds _ h2)
end
end
theorem tabs_keep {d : Addr} {H H' : Hp} {Tb : List (Addr × Str)} (hd : IsDk H d) (k : Keep d H H') (t : LamX.Tabs Tb H) : LamX.Tabs Tb H' := fun p hp => by
  obtain ⟨kvs, hd⟩ := hd
  obtain ⟨ps, h1, h2, h3⟩ := t p hp
  refine ⟨ps, k _ _ (fun z => by rw [z, hd] at h1; cases h1) h1, h2, fun pos cv hc => ?_⟩
  obtain ⟨c, e, hc2⟩ := h3 pos cv hc
  exact ⟨c, e, k _ _ (fun z => by
    rw [z, hd] at hc2
    have z' := Option.some.inj hc2
    unfold LamX.CodeO at z'
    cases z') hc2⟩
theorem kt_x {H H' : Hp} (k : LamX.ExtN H H') : KT H H' := fun a o n h => by
  rcases n with ⟨_, rfl⟩ | ⟨_, _, rfl⟩
  · exact k _ _ h fun _ z => nomatch z
  · exact k _ _ h fun _ z => nomatch z
end My

set_option Elab.async false
set_option linter.all false
set_option maxRecDepth 100000
namespace My
open PySem L2
/-! ### leaves of forms; ends -/
def isEnds : PyData → Bool
  | .list ds => decide (1 ≤ ds.length) && decide (ds.length ≤ 40) && ds.all (isForm 12) && decide ((ds.flatMap lvs).length ≤ 40)
  | .tuple ds => decide (1 ≤ ds.length) && decide (ds.length ≤ 40) && ds.all (isForm 12) && decide ((ds.flatMap lvs).length ≤ 40)
  | _ => false
section
variable {X : Cx}
theorem pi_orR {tg e : Expr} {w1 w2 : TI} (a : PI X tg e w1) (b : PI X tg e w2) : PI X tg e (fun σ H R => w1 σ H R ∨ w2 σ H R) :=
  ⟨fun pins s σ H R I h => h.elim (a.run pins s σ H R I) (b.run pins s σ H R I)⟩
end
abbrev Pis_leaf : List Str := ["form"]
abbrev sleaf_count : Stmt := top 19
abbrev Nleaf_count : List Str := ["form"]
abbrev Pleaf_count : List Str := ["form"]
theorem scleaf_count : FnScope Nleaf_count Pleaf_count (defScope sleaf_count) := ⟨rfl, rfl, rfl, by decide +kernel, rfl, by decide +kernel, by decide +kernel⟩
abbrev sfits_ends : Stmt := top 17
abbrev Nfits_ends : List Str := ["value", "many", "form"]
abbrev Pfits_ends : List Str := ["value"]
theorem scfits_ends : FnScope Nfits_ends Pfits_ends (defScope sfits_ends) := ⟨rfl, rfl, rfl, by decide +kernel, rfl, by decide +kernel, by decide +kernel⟩
abbrev scheck_ends : Stmt := top 21
abbrev Ncheck_ends : List Str := ["ends"]
abbrev Pcheck_ends : List Str := ["ends"]
theorem sccheck_ends : FnScope Ncheck_ends Pcheck_ends (defScope scheck_ends) := ⟨rfl, rfl, rfl, by decide +kernel, rfl, by decide +kernel, by decide +kernel⟩
def spIsLeaf (K : PySem.W.Frag) : Sp := fun vs H Q _ => ∃ (a : Addr) (xs : List V), vs = [.ref a] ∧ SqT K H a xs ∧ Q (.bl (decide (xs.length = 2))) H
def spLeafCount (K : PySem.W.Frag) (n : Nat) : Sp := fun vs H Q _ => ∃ (v : V) (k : Nat) (D : PyData), vs = [v] ∧ k < n ∧ Dp K H v D ∧ isForm k D = true ∧ Q (.int (lvs D).length) H
section
variable {P : Program} {w : World} {K : PySem.W.Frag} {mg : Str → Option Value} {base : Heap} {f : Addr} {fd : FuncData}
theorem okis_leafA (T : Txt K mg) (F : Fun K "is_leaf" "is_leaf" sis_leaf f fd) : FnOk P w K mg base CX0 1 f fd Pis_leaf (spIsLeaf K) := by
  refine F.ok scis_leaf (fun vs H Q E h => ?_) (fun cdv A outer s H vs Q E hr h => ?_)
  · obtain ⟨a, xs, rfl, _⟩ := h
    rfl
  obtain ⟨a, xs, rfl, hS, q⟩ := h
  refine ⟨_, (pss_one (ps_ret (pe_cmpR op_eq (pe_callB call_len rfl T.len (by decide +kernel) (pa_cons (pv 0) pa_nil)) pe_int (nomark _)))), ?_⟩
  refine ⟨_, rfl, _, _, rfl, .inr ⟨xs, hS, rfl⟩, rfl, ?_⟩
  have e : decide (V.int (xs.length : Int) = V.int 2) = decide (xs.length = 2) := by
    rw [dec_int, Bool.eq_iff_iff]
    simp
    omega
  show Q (.bl (decide (V.int (xs.length : Int) = V.int 2))) H
  rw [e]
  exact q
theorem okleaf_count {n : Nat} (F : Fun K "leaf_count" "leaf_count" sleaf_count f fd) (Cis_leaf : Cal P w K mg base "is_leaf" 1 Pis_leaf (spIsLeaf K)) (Cleaf_count : Cal P w K mg base "leaf_count" (1 + n) Pleaf_count (spLeafCount K n)) :
    FnOk P w K mg base CX0 (1 + n + 1) f fd Pleaf_count (spLeafCount K (n + 1)) := by
  refine F.ok scleaf_count (fun vs H Q E h => ?_) (fun cdv A outer s H vs Q E hr h => ?_)
  · obtain ⟨v, k, D, rfl, _⟩ := h
    rfl
  obtain ⟨v, k, D, rfl, hk, hv, hD, q⟩ := h
  refine ⟨_, (pss_cons (ps_if (pt_val (pe_callC Cis_leaf hr (pa_cons (pv 0) pa_nil)))
    (pss_one (ps_ret pe_int))
    pss_nil)
  (pss_one (ps_ret (pe_op op_add (pe_callC Cleaf_count hr (pa_cons (pe_ix ix_tup (pv 0) pe_int (fun _ _ => rfl)) pa_nil)) (pe_callC Cleaf_count hr (pa_cons (pe_ix ix_tup (pv 0) pe_int (fun _ _ => rfl)) pa_nil)))))), ?_⟩
  rcases isForm_inv hD with ⟨x, m, rfl, hx, hn⟩ | ⟨j, x, a, b, rfl, rfl, hx, ha, hb⟩
  · cases hv with | @tup p xs _ hT hA => cases hA with | cons h1 hA => cases hA with | cons h2 hN =>
    cases hN
    refine ⟨_, rfl, p, _, rfl, hT, true, rfl, ?_⟩
    rw [lvs2] at q
    exact q
  · cases hv with | @tup p xs _ hT hA => cases hA with | cons h1 hA => cases hA with | cons h2 hA => cases hA with | cons h3 hN =>
    cases hN
    refine ⟨_, rfl, p, _, rfl, hT, false, rfl, ?_⟩
    refine ⟨_, rfl, p, _, _, _, rfl, rfl, hT, rfl, _, j, a, rfl, by omega, h2, ha, ?_⟩
    refine ⟨_, rfl, p, _, _, _, rfl, rfl, hT, rfl, _, j, b, rfl, by omega, h3, hb, ?_⟩
    refine ⟨_, _, rfl, rfl, ?_⟩
    rw [lvs3, List.length_append, Int.natCast_add] at q
    exact q
end
structure Txt7 (K : PySem.W.Frag) (mg : Str → Option Value) extends Txt K mg where
  zip : mg "zip" = none
  enumerate : mg "enumerate" = none
  MOST_LEAVES : ∃ u, mg "MOST_LEAVES" = some u ∧ RelV (.int 40) u
theorem kit2r {K : PySem.W.Frag} {g : String} {b1 b2 : Bool} (h1 : kitB g "list" = some b1) (h2 : kitB g "tuple" = some b2) : PySem.W.kitAny K (.type g) [.type "list", .type "tuple"] = some (b1 || b2) := by
  cases b1 with
  | true => exact kitAny_cons (kit_ty h1) (fun z => nomatch z) fun _ => rfl
  | false =>
    refine kitAny_cons (kit_ty h1) (fun _ => ?_) fun z => nomatch z
    cases b2 with
    | true => exact kitAny_cons (kit_ty h2) (fun z => nomatch z) fun _ => rfl
    | false => exact kitAny_cons (kit_ty h2) (fun _ => kitAny_nil) fun z => nomatch z
def isSeqD : PyData → Bool
  | .list _ => true
  | .tuple _ => true
  | _ => false
theorem kit_seq {K : PySem.W.Frag} (D : PyData) : PySem.W.kitAny K (.type (tagOf D)) [.type "list", .type "tuple"] = some (isSeqD D) := by
  cases D with
  | list ds => exact kit2r (g := "list") (b1 := true) (b2 := false) (by decide +kernel) (by decide +kernel)
  | tuple ds => exact kit2r (g := "tuple") (b1 := false) (b2 := true) (by decide +kernel) (by decide +kernel)
  | none => exact kit2r (g := "NoneType") (b1 := false) (b2 := false) (by decide +kernel) (by decide +kernel)
  | bool b => exact kit2r (g := "bool") (b1 := false) (b2 := false) (by decide +kernel) (by decide +kernel)
  | int b => exact kit2r (g := "int") (b1 := false) (b2 := false) (by decide +kernel) (by decide +kernel)
  | str b => exact kit2r (g := "str") (b1 := false) (b2 := false) (by decide +kernel) (by decide +kernel)
  | dict b => exact kit2r (g := "dict") (b1 := false) (b2 := false) (by decide +kernel) (by decide +kernel)
theorem dpAll_at {K : PySem.W.Frag} {H : Hp} : ∀ {xs : List V} {ds : List PyData} {i : Nat} {x : V}, DpAll K H xs ds → xs[i]? = some x → ∃ d, ds[i]? = some d ∧ Dp K H x d
  | _, _, _, _, .nil, e => by simp at e
  | _, _, 0, _, .cons h _, e => by
    simp at e
    subst e
    exact ⟨_, rfl, h⟩
  | _, _, i + 1, _, .cons _ h, e => by
    obtain ⟨d, h1, h2⟩ := dpAll_at (i := i) h (by simpa using e)
    exact ⟨d, by simpa using h1, h2⟩
theorem short_in : ∀ {ds : List PyData} {d : PyData}, shortAll ds = true → d ∈ ds → shortD d = true
  | x :: ds, d, h, m => by
    obtain ⟨h1, h2⟩ := shortAll_cons h
    rcases List.mem_cons.mp m with rfl | m
    · exact h1
    · exact short_in h2 m
/-- ends that are none -/
theorem isEnds_bad {D : PyData} {ds : List PyData} (hD : D = .list ds ∨ D = .tuple ds) (h : ¬ (1 ≤ ds.length ∧ ds.length ≤ 40) ∨ (∃ d ∈ ds, isForm 12 d = false) ∨ ∃ i, 40 < ((ds.take i).flatMap lvs).length) : isEnds D = false := by
  have key : (decide (1 ≤ ds.length) && decide (ds.length ≤ 40) && ds.all (isForm 12) && decide ((ds.flatMap lvs).length ≤ 40)) = false := by
    rw [Bool.eq_false_iff]
    intro z
    simp only [Bool.and_eq_true, decide_eq_true_eq, List.all_eq_true] at z
    obtain ⟨⟨⟨z1, z2⟩, z3⟩, z4⟩ := z
    rcases h with h | ⟨d, hd, h⟩ | ⟨i, h⟩
    · exact h ⟨z1, z2⟩
    · rw [z3 d hd] at h
      cases h
    · have e : (ds.flatMap lvs).length = ((ds.take i).flatMap lvs).length + ((ds.drop i).flatMap lvs).length := by
        rw [← List.length_append, ← List.flatMap_append, List.take_append_drop]
      omega
  rcases hD with rfl | rfl <;> exact key
theorem isEnds_good {D : PyData} {ds : List PyData} (hD : D = .list ds ∨ D = .tuple ds) (h1 : 1 ≤ ds.length) (h2 : ds.length ≤ 40) (h3 : ds.all (isForm 12) = true) (h4 : (ds.flatMap lvs).length ≤ 40) : isEnds D = true := by
  have key : (decide (1 ≤ ds.length) && decide (ds.length ≤ 40) && ds.all (isForm 12) && decide ((ds.flatMap lvs).length ≤ 40)) = true := by
    simp only [Bool.and_eq_true, decide_eq_true_eq]
    exact ⟨⟨⟨h1, h2⟩, h3⟩, h4⟩
  rcases hD with rfl | rfl <;> exact key
def isDict (H : Hp) (v : V) : Prop := ∃ (a : Addr) (kvs : List (Key × V)), v = .ref a ∧ H a = some (.dK kvs)
def spEnds (K : PySem.W.Frag) : Sp := fun vs H Q _ => ∃ v, vs = [v] ∧ ((∃ D, Dp K H v D ∧ shortD D = true ∧ widD D = true ∧ ∀ H', Same H H' → Q (.bl (isEnds D)) H') ∨ (isDict H v ∧ ∀ H', Same H H' → Q (.bl false) H'))
section
variable {P : Program} {w : World} {K : PySem.W.Frag} {mg : Str → Option Value} {base : Heap} {f : Addr} {fd : FuncData}
theorem okfits_ends (T : Txt7 K mg) (F : Fun K "fits_ends" "fits_ends" sfits_ends f fd) (Cfits_form : Cal P w K mg base "fits_form" 15 Pfits_form (spForm K 13)) (Cleaf_count : Cal P w K mg base "leaf_count" 14 Pleaf_count (spLeafCount K 13)) :
    FnOk P w K mg base CX0 16 f fd Pfits_ends (spEnds K) := by
  refine F.ok scfits_ends (fun vs H Q E h => ?_) (fun cdv A outer s H vs Q E hr h => ?_)
  · obtain ⟨v, rfl, _⟩ := h
    rfl
  obtain ⟨v, rfl, h⟩ := h
  refine ⟨_, (pss_cons (ps_if (PW.pt (pw_or (pt_not (pt_val (pe_callB call_isiT rfl T.isinstance (by decide +kernel) (pa_cons (pv 0) (pa_cons (pe_tup (pa_cons (pe_bltn (v := .ty "list") rfl T.list (by decide +kernel) rfl) (pa_cons (pe_bltn (v := .ty "tuple") rfl T.tuple (by decide +kernel) rfl) pa_nil))) pa_nil))))) (pw_or1 (pt_not (pt_chain op_le op_le pe_int (pe_callB call_len rfl T.len (by decide +kernel) (pa_cons (pv 0) pa_nil)) (pe_globE T.MOST_LEAVES))))))
    (pss_one (ps_ret pe_bl))
    pss_nil)
  (pss_cons (ps_set (i := 1) scfits_ends.nd rfl (Or.inl rfl) pe_int)
  (pss_cons (ps_for PassesOwn.never rfl (pi_orR (pi_list (pv 0)) (pi_tup (pv 0))) (pg_name (i := 2) scfits_ends.nd rfl (Or.inl rfl))
    (pss_cons (ps_if (pt_not (pt_val (pe_callC Cfits_form hr (pa_cons (pv 2) (pa_cons (pe_globE T.DEEPEST) pa_nil)))))
      (pss_one (ps_ret pe_bl))
      pss_nil)
    (pss_cons (ps_aug (i := 1) scfits_ends.nd rfl (Or.inl rfl) (pe_callC Cleaf_count hr (pa_cons (pv 2) pa_nil)) ip_add)
    (pss_one (ps_if (pt_cmpR op_gt (pv 1) (pe_globE T.MOST_LEAVES) (nomark _))
      (pss_one (ps_ret pe_bl))
      pss_nil)))))
  (pss_one (ps_ret pe_bl))))), ?_⟩
  refine ⟨_, rfl, by show 2 ≤ sizeLine; decide, fun tp np => ?_⟩
  have s0 := same_new np (.tup [.ty "list", .ty "tuple"])
  rcases h with ⟨D, hv, hz, hw, q⟩ | ⟨⟨a, kvs, rfl, ha⟩, q⟩
  · refine ⟨_, tp, [.ty "list", .ty "tuple"], .type (tagOf D), [.type "list", .type "tuple"], isSeqD D, rfl, upd_same, .cons (.ty _) (.cons (.ty _) .nil), tyx_of (dp_same s0 _ _ hv), kit_seq D, _, rfl, ?_⟩
    by_cases hs : isSeqD D = true
    · cases D with
      | list ds =>
        cases hv with | @lst p xs _ hT hA =>
        have hl := dpAll_len hA
        have hzz : shortAll ds = true := by
          unfold shortD at hz
          exact hz
        refine iteF ⟨_, rfl, _, _, rfl, .inl ⟨xs, s0.seq hT, rfl⟩, 1, _, rfl, rfl, _, rfl, ?_⟩
        refine ite2 (fun c1 => ?_) (fun c1 => ?_)
        · refine ⟨_, _, rfl, rfl, _, rfl, ?_⟩
          by_cases c2 : (xs.length : Int) ≤ 40
          · rw [decide_eq_true c2]
            refine iteF ?_
            have c1' : (1 : Int) ≤ xs.length := of_decide_eq_true c1
            refine .inl ⟨_, rfl, p, rfl, ⟨xs, s0.seq hT⟩, ?_⟩
            refine for_it walk_list (fun i σ H' => Same H H' ∧ σ[0]? = some (some (.ref p)) ∧ σ[1]? = some (some (.int (((ds.take i).flatMap lvs).length : Nat))) ∧ σ.length = 3 ∧ (ds.take i).all (isForm 12) = true ∧ ((ds.take i).flatMap lvs).length ≤ 40) ⟨s0, rfl, rfl, rfl, rfl, Nat.zero_le _⟩ (fun i σ H' _ pv => pv.1.seq hT) (fun i x σ H1 H2 hi pv y => ?_) (fun σ H' pv => ?_)
            · obtain ⟨rfl, hx⟩ := y
              obtain ⟨d, hd, hxd⟩ := dpAll_at hA hx
              obtain ⟨s1, g0, g1, gl, ga, gc⟩ := pv
              have hm : d ∈ ds := List.mem_of_getElem? hd
              refine ⟨x, by rw [List.getElem?_set_self (by omega)], x, 12, rfl, by omega, .inl ⟨d, dp_same s1 _ _ hxd, short_in hzz hm, fun H3 s3 => ⟨_, rfl, ?_⟩⟩⟩
              by_cases c : isForm 12 d = true
              · rw [c]
                refine ⟨_, by rw [List.getElem?_set_ne (by omega)]; exact g1, x, by rw [List.getElem?_set_self (by omega)], x, 12, d, rfl, by omega, dp_same (s1.trans s3) _ _ hxd, c, ?_⟩
                refine ⟨_, _, rfl, rfl, ?_⟩
                have e1 : ds.take (i + 1) = ds.take i ++ [d] := take_next hd
                have e2 : ((ds.take (i + 1)).flatMap lvs).length = ((ds.take i).flatMap lvs).length + (lvs d).length := by
                  rw [e1, List.flatMap_append, List.length_append]
                  simp
                have e3 : ((((ds.take i).flatMap lvs).length : Nat) : Int) + ((lvs d).length : Nat) = (((ds.take (i + 1)).flatMap lvs).length : Nat) := by
                  rw [e2]
                  omega
                refine ⟨_, by rw [List.getElem?_set_self (by rw [List.length_set]; omega)], _, _, rfl, rfl, _, rfl, ?_⟩
                dsimp only
                by_cases c3 : (40 : Int) < ((((ds.take i).flatMap lvs).length : Nat) : Int) + ((lvs d).length : Nat)
                · rw [decide_eq_true c3]
                  have e : isEnds (.list ds) = false := isEnds_bad (ds := ds) (.inl rfl) (.inr (.inr ⟨i + 1, by omega⟩))
                  rw [e] at q
                  exact q _ (s1.trans s3)
                · rw [decide_eq_false c3]
                  refine ⟨s1.trans s3, by rw [List.getElem?_set_ne (by omega), List.getElem?_set_ne (by omega)]; exact g0, by rw [List.getElem?_set_self (by rw [List.length_set]; omega), e3], by rw [List.length_set, List.length_set]; exact gl, ?_, by omega⟩
                  rw [e1, List.all_append, ga]
                  show (isForm 12 d && true) = true
                  rw [c]
                  rfl
              · rw [Bool.eq_false_iff.mpr c]
                have e : isEnds (.list ds) = false := isEnds_bad (ds := ds) (.inl rfl) (.inr (.inl ⟨d, hm, Bool.eq_false_iff.mpr c⟩))
                rw [e] at q
                exact q _ (s1.trans s3)
            · obtain ⟨s1, g0, g1, gl, ga, gc⟩ := pv
              rw [List.take_of_length_le (by omega)] at ga gc
              have e : isEnds (.list ds) = true := isEnds_good (ds := ds) (.inl rfl) (by omega) (by omega) ga gc
              rw [e] at q
              exact q _ s1
          · rw [decide_eq_false c2]
            have e : isEnds (.list ds) = false := isEnds_bad (ds := ds) (.inl rfl) (.inl (by omega))
            rw [e] at q
            exact q _ s0
        · have c1' : ¬ (1 : Int) ≤ xs.length := of_decide_eq_false (Bool.eq_false_iff.mpr c1)
          have e : isEnds (.list ds) = false := isEnds_bad (ds := ds) (.inl rfl) (.inl (by omega))
          rw [e] at q
          exact ⟨false, rfl, q _ s0⟩
      | tuple ds =>
        cases hv with | @tup p xs _ hT hA =>
        have hl := dpAll_len hA
        have hzz : shortAll ds = true := by
          unfold shortD at hz
          exact hz
        refine iteF ⟨_, rfl, _, _, rfl, .inr ⟨xs, seqT_same s0 hT, rfl⟩, 1, _, rfl, rfl, _, rfl, ?_⟩
        refine ite2 (fun c1 => ?_) (fun c1 => ?_)
        · refine ⟨_, _, rfl, rfl, _, rfl, ?_⟩
          by_cases c2 : (xs.length : Int) ≤ 40
          · rw [decide_eq_true c2]
            refine iteF ?_
            have c1' : (1 : Int) ≤ xs.length := of_decide_eq_true c1
            refine .inr ⟨_, rfl, p, rfl, ⟨xs, seqT_same s0 hT⟩, ?_⟩
            refine for_it walk_tup (fun i σ H' => Same H H' ∧ σ[0]? = some (some (.ref p)) ∧ σ[1]? = some (some (.int (((ds.take i).flatMap lvs).length : Nat))) ∧ σ.length = 3 ∧ (ds.take i).all (isForm 12) = true ∧ ((ds.take i).flatMap lvs).length ≤ 40) ⟨s0, rfl, rfl, rfl, rfl, Nat.zero_le _⟩ (fun i σ H' _ pv => seqT_same pv.1 hT) (fun i x σ H1 H2 hi pv y => ?_) (fun σ H' pv => ?_)
            · obtain ⟨rfl, hx⟩ := y
              obtain ⟨d, hd, hxd⟩ := dpAll_at hA hx
              obtain ⟨s1, g0, g1, gl, ga, gc⟩ := pv
              have hm : d ∈ ds := List.mem_of_getElem? hd
              refine ⟨x, by rw [List.getElem?_set_self (by omega)], x, 12, rfl, by omega, .inl ⟨d, dp_same s1 _ _ hxd, short_in hzz hm, fun H3 s3 => ⟨_, rfl, ?_⟩⟩⟩
              by_cases c : isForm 12 d = true
              · rw [c]
                refine ⟨_, by rw [List.getElem?_set_ne (by omega)]; exact g1, x, by rw [List.getElem?_set_self (by omega)], x, 12, d, rfl, by omega, dp_same (s1.trans s3) _ _ hxd, c, ?_⟩
                refine ⟨_, _, rfl, rfl, ?_⟩
                have e1 : ds.take (i + 1) = ds.take i ++ [d] := take_next hd
                have e2 : ((ds.take (i + 1)).flatMap lvs).length = ((ds.take i).flatMap lvs).length + (lvs d).length := by
                  rw [e1, List.flatMap_append, List.length_append]
                  simp
                have e3 : ((((ds.take i).flatMap lvs).length : Nat) : Int) + ((lvs d).length : Nat) = (((ds.take (i + 1)).flatMap lvs).length : Nat) := by
                  rw [e2]
                  omega
                refine ⟨_, by rw [List.getElem?_set_self (by rw [List.length_set]; omega)], _, _, rfl, rfl, _, rfl, ?_⟩
                dsimp only
                by_cases c3 : (40 : Int) < ((((ds.take i).flatMap lvs).length : Nat) : Int) + ((lvs d).length : Nat)
                · rw [decide_eq_true c3]
                  have e : isEnds (.tuple ds) = false := isEnds_bad (ds := ds) (.inr rfl) (.inr (.inr ⟨i + 1, by omega⟩))
                  rw [e] at q
                  exact q _ (s1.trans s3)
                · rw [decide_eq_false c3]
                  refine ⟨s1.trans s3, by rw [List.getElem?_set_ne (by omega), List.getElem?_set_ne (by omega)]; exact g0, by rw [List.getElem?_set_self (by rw [List.length_set]; omega), e3], by rw [List.length_set, List.length_set]; exact gl, ?_, by omega⟩
                  rw [e1, List.all_append, ga]
                  show (isForm 12 d && true) = true
                  rw [c]
                  rfl
              · rw [Bool.eq_false_iff.mpr c]
                have e : isEnds (.tuple ds) = false := isEnds_bad (ds := ds) (.inr rfl) (.inr (.inl ⟨d, hm, Bool.eq_false_iff.mpr c⟩))
                rw [e] at q
                exact q _ (s1.trans s3)
            · obtain ⟨s1, g0, g1, gl, ga, gc⟩ := pv
              rw [List.take_of_length_le (by omega)] at ga gc
              have e : isEnds (.tuple ds) = true := isEnds_good (ds := ds) (.inr rfl) (by omega) (by omega) ga gc
              rw [e] at q
              exact q _ s1
          · rw [decide_eq_false c2]
            have e : isEnds (.tuple ds) = false := isEnds_bad (ds := ds) (.inr rfl) (.inl (by omega))
            rw [e] at q
            exact q _ s0
        · have c1' : ¬ (1 : Int) ≤ xs.length := of_decide_eq_false (Bool.eq_false_iff.mpr c1)
          have e : isEnds (.tuple ds) = false := isEnds_bad (ds := ds) (.inr rfl) (.inl (by omega))
          rw [e] at q
          exact ⟨false, rfl, q _ s0⟩
      | _ => cases hs
    · have e : isSeqD D = false := Bool.eq_false_iff.mpr hs
      have e2 : isEnds D = false := by
        cases D <;> first | rfl | cases e
      rw [e2] at q
      rw [e]
      exact q _ s0
  · refine ⟨_, tp, [.ty "list", .ty "tuple"], .type "dict", [.type "list", .type "tuple"], false, rfl, upd_same, .cons (.ty _) (.cons (.ty _) .nil), .base (.dK (s0 _ _ ha)), kit2r (g := "dict") (b1 := false) (b2 := false) (by decide +kernel) (by decide +kernel), _, rfl, ?_⟩
    exact q _ s0
end
end My

set_option Elab.async false
set_option linter.all false
set_option maxRecDepth 100000
namespace My
open PySem L2
def badV (CB : Addr) (v : V) (H : Hp) (E : XK) : Prop := ∀ (d : Addr) (H' : Hp), Same H H' → H' d = none → E (.ref CB) (some d) (upd H' d (.xd [(Str.ofString "value", v)]))
def spCheckEnds (K : PySem.W.Frag) (CB : Addr) : Sp := fun vs H Q E => ∃ v, vs = [v] ∧ ((∃ D, Dp K H v D ∧ shortD D = true ∧ widD D = true ∧ (isEnds D = true → ∀ H', Same H H' → Q .non H') ∧ (isEnds D = false → badV CB v H E)) ∨ (isDict H v ∧ badV CB v H E))
section
variable {P : Program} {w : World} {K : PySem.W.Frag} {mg : Str → Option Value} {base : Heap} {f : Addr} {fd : FuncData}
theorem okcheck_ends {CB : Addr} (O : OneE P w K mg base "BadValue" "value" CB) (F : Fun K "check_ends" "check_ends" scheck_ends f fd) (Cfits_ends : Cal P w K mg base "fits_ends" 16 Pfits_ends (spEnds K)) :
    FnOk P w K mg base (L2.CX P w) 17 f fd Pcheck_ends (spCheckEnds K CB) := by
  refine F.okX sccheck_ends (fun vs H Q E h => ?_) (fun cdv A outer s H vs Q E hr h => ?_)
  · obtain ⟨v, rfl, _⟩ := h
    rfl
  obtain ⟨v, rfl, h⟩ := h
  refine ⟨_, (pss_one (ps_if (pt_not (pt_val (pe_callC Cfits_ends hr (pa_cons (pv 0) pa_nil))))
    (pss_one (ps_raise1 (k := 0) O rfl (hr.mono (by decide)) (takes_of rfl rfl rfl rfl) (pv 0)))
    pss_nil)), ?_⟩
  rcases h with ⟨D, hv, hz, hw, q1, q2⟩ | ⟨hd, q⟩
  · refine ⟨_, rfl, v, rfl, .inl ⟨D, hv, hz, hw, fun H1 s1 => ⟨isEnds D, rfl, ?_⟩⟩⟩
    cases c : isEnds D with
    | true => exact q1 c H1 s1
    | false => exact ⟨_, rfl, mk_one O.oex O.no fun d nd => q2 c d H1 s1 nd⟩
  · exact ⟨_, rfl, v, rfl, .inr ⟨hd, fun H1 s1 => ⟨false, rfl, _, rfl, mk_one O.oex O.no fun d nd => q d H1 s1 nd⟩⟩⟩
end
end My

set_option Elab.async false
set_option linter.all false
set_option maxRecDepth 100000
namespace My
open PySem L2
def forkW : List Str := [Str.ofString "offered", Str.ofString "chosen"]
mutual
def noL : PyData → Bool
  | .list _ => false
  | .dict _ => false
  | .tuple ds => noLs ds
  | _ => true
def noLs : List PyData → Bool
  | [] => true
  | d :: ds => noL d && noLs ds
end
/-- the tuples are kept -/
structure KeepT (H H' : Hp) : Prop where
  t : ∀ b xs, H b = some (.tup xs) → H' b = some (.tup xs)
  f : ∀ b o xs, H b = some (.frz o (.tup xs)) → H' b = some (.frz o (.tup xs))
theorem keepT_ins {H : Hp} {x C dx : Addr} {fs : List (Str × V)} {o : HO} (e : H x = some (.ins C dx fs)) : KeepT H (upd H x o) := ⟨fun b xs z => by rw [upd_ne (fun y => by rw [y, e] at z; cases z)]; exact z, fun b u xs z => by rw [upd_ne (fun y => by rw [y, e] at z; cases z)]; exact z⟩
section
variable {K : PySem.W.Frag}
theorem seqT_n {H H' : Hp} (k : KeepT H H') {a : Addr} {xs : List V} (h : SqT K H a xs) : SqT K H' a xs := by
  rcases h with (h | ⟨o, h⟩) | h
  · exact .inl (.inl (k.t _ _ h))
  · exact .inl (.inr ⟨o, k.f _ _ _ h⟩)
  · exact .inr h
mutual
theorem dp_n {H H' : Hp} (k : KeepT H H') : ∀ (D : PyData) (v : V), noL D = true → Dp K H v D → Dp K H' v D
  | .none, _, _, h => by cases h; exact .non
  | .bool b, _, _, h => by cases h; exact .bl b
  | .int i, _, _, h => by cases h; exact .int i
  | .str x, _, _, h => by cases h; exact .str x
  | .list ds, _, n, h => by cases n
  | .tuple ds, _, n, h => by
    have n : noLs ds = true := n
    cases h with | tup hs ha => exact .tup (seqT_n k hs) (dpAll_n k ds _ n ha)
  | .dict _, _, n, h => by cases h
theorem dpAll_n {H H' : Hp} (k : KeepT H H') : ∀ (Ds : List PyData) (vs : List V), noLs Ds = true → DpAll K H vs Ds → DpAll K H' vs Ds
  | [], _, _, h => by cases h; exact .nil
  | D :: Ds, _, n, h => by
    have n : (noL D && noLs Ds) = true := n
    obtain ⟨n1, n2⟩ := Bool.and_eq_true_iff.mp n
    cases h with | cons h1 h2 => exact .cons (dp_n k D _ n1 h1) (dpAll_n k Ds _ n2 h2)
end
theorem noL_form : ∀ {k : Nat} {D : PyData}, isForm k D = true → noL D = true := by
  intro k
  induction k with
  | zero =>
    intro D h
    rcases isForm_inv h with ⟨w, n, rfl, hw, hn⟩ | ⟨j, w, a, b, e, _⟩
    · rfl
    · cases e
  | succ k ih =>
    intro D h
    rcases isForm_inv h with ⟨w, n, rfl, hw, hn⟩ | ⟨j, w, a, b, e, rfl, hw, ha, hb⟩
    · rfl
    · obtain rfl : k = j := by omega
      show (true && (noL a && (noL b && true))) = true
      rw [ih ha, ih hb]
      rfl
end
theorem noLs_map_in {α : Type} {f : α → PyData} : ∀ l : List α, (∀ a ∈ l, noL (f a) = true) → noLs (l.map f) = true
  | [], _ => rfl
  | a :: l, h => by
    show (noL (f a) && noLs (l.map f)) = true
    rw [h a List.mem_cons_self, noLs_map_in l fun b hb => h b (List.mem_cons_of_mem _ hb)]
    rfl
theorem keepT_lst {H : Hp} {x : Addr} {xs : List V} {o : HO} (e : H x = some (.lst xs)) : KeepT H (upd H x o) := ⟨fun b xs z => by rw [upd_ne (fun y => by rw [y, e] at z; cases z)]; exact z, fun b u xs z => by rw [upd_ne (fun y => by rw [y, e] at z; cases z)]; exact z⟩
section
variable {K : PySem.W.Frag}
theorem dpAll_snoc {K : PySem.W.Frag} {H : Hp} {v : V} {D : PyData} (h : Dp K H v D) : ∀ {xs : List V} {ds : List PyData}, DpAll K H xs ds → DpAll K H (xs ++ [v]) (ds ++ [D])
  | _, _, .nil => .cons h .nil
  | _, _, .cons a b => .cons a (dpAll_snoc h b)
end
theorem isEnds_inv {D : PyData} (h : isEnds D = true) : ∃ ds, (D = .list ds ∨ D = .tuple ds) ∧ ds.length ≤ 40 ∧ ds.all (isForm 12) = true ∧ (ds.flatMap lvs).length ≤ 40 ∧ 1 ≤ ds.length := by
  have key : ∀ ds : List PyData, (decide (1 ≤ ds.length) && decide (ds.length ≤ 40) && ds.all (isForm 12) && decide ((ds.flatMap lvs).length ≤ 40)) = true → ds.length ≤ 40 ∧ ds.all (isForm 12) = true ∧ (ds.flatMap lvs).length ≤ 40 ∧ 1 ≤ ds.length := fun ds h => by
    simp only [Bool.and_eq_true, decide_eq_true_eq] at h
    exact ⟨h.1.1.2, h.1.2, h.2, h.1.1.1⟩
  cases D with
  | list ds => exact ⟨ds, .inl rfl, key ds h⟩
  | tuple ds => exact ⟨ds, .inr rfl, key ds h⟩
  | _ => cases h
theorem flat_len {α : Type} (g : PyData → List α) (ds : List PyData) (i : Nat) : ((ds.take i).flatMap g).length ≤ (ds.flatMap g).length := by
  have e : (ds.flatMap g).length = ((ds.take i).flatMap g).length + ((ds.drop i).flatMap g).length := by
    rw [← List.length_append, ← List.flatMap_append, List.take_append_drop]
  omega
theorem flat_snoc {α : Type} (g : PyData → List α) {ds : List PyData} {i : Nat} {d : PyData} (h : ds[i]? = some d) : (ds.take (i + 1)).flatMap g = (ds.take i).flatMap g ++ g d := by
  rw [take_next h, List.flatMap_append]
  simp
theorem paired_get {α β : Type} {r : α → β → Prop} : ∀ {xs : List α} {ys : List β} {i : Nat} {x : α}, Paired r xs ys → xs[i]? = some x → ∃ y, ys[i]? = some y ∧ r x y
  | _, _, _, _, .nil, e => by simp at e
  | _, _, 0, _, .cons a _, e => by
    simp at e
    subst e
    exact ⟨_, rfl, a⟩
  | _, _, i + 1, _, .cons _ b, e => by
    obtain ⟨y, h1, h2⟩ := paired_get (i := i) b (by simpa using e)
    exact ⟨y, by simpa using h1, h2⟩
theorem paired_app {α β : Type} {r : α → β → Prop} : ∀ {xs : List α} {ys : List β} {xs' : List α} {ys' : List β}, Paired r xs ys → Paired r xs' ys' → Paired r (xs ++ xs') (ys ++ ys')
  | _, _, _, _, .nil, h => h
  | _, _, _, _, .cons a b, h => .cons a (paired_app b h)




abbrev s_law_leaves : Stmt := top 46
abbrev N_law_leaves : List Str := ["_law_form"]
abbrev P_law_leaves : List Str := ["_law_form"]
theorem sc_law_leaves : FnScope N_law_leaves P_law_leaves (defScope s_law_leaves) := ⟨rfl, rfl, rfl, by decide +kernel, rfl, by decide +kernel, by decide +kernel⟩


def spLvs (K : PySem.W.Frag) (n : Nat) : Sp := fun vs H Q _ => ∃ (v : V) (k : Nat) (D : PyData), vs = [v] ∧ k < n ∧ Dp K H v D ∧ isForm k D = true ∧ (lvs D).length ≤ 1000 ∧ ∀ (H' : Hp) (p : Addr) (us : List V), Same H H' → H' p = some (.lst us) → DpAll K H' us (lvs D) → Q (.ref p) H'

theorem dpAll_app {K : PySem.W.Frag} {H : Hp} : ∀ {xs : List V} {ds : List PyData} {ys : List V} {es : List PyData}, DpAll K H xs ds → DpAll K H ys es → DpAll K H (xs ++ ys) (ds ++ es)
  | _, _, _, _, .nil, h => h
  | _, _, _, _, .cons a b, h => .cons a (dpAll_app b h)
section
variable {P : Program} {w : World} {K : PySem.W.Frag} {mg : Str → Option Value} {base : Heap} {f : Addr} {fd : FuncData}
theorem ok_law_leaves {n : Nat} (T : Txt7 K mg) (F : Fun K "_law_leaves" "_law_leaves" s_law_leaves f fd) (C_law_leaves : Cal P w K mg base "_law_leaves" n P_law_leaves (spLvs K n)) : FnOk P w K mg base CX0 (n + 1) f fd P_law_leaves (spLvs K (n + 1)) := by
  refine F.ok sc_law_leaves (fun vs H Q E h => ?_) (fun cdv A outer s H vs Q E hr h => ?_)
  · obtain ⟨v, k, D, rfl, _⟩ := h
    rfl
  obtain ⟨v, k, D, rfl, hk, hv, hD, hL, q⟩ := h
  refine ⟨_, (pss_one (ps_ret (pe_ifExp (pt_cmpR op_eq (pe_callB call_len rfl T.len (by decide +kernel) (pa_cons (pv 0) pa_nil)) pe_int (nomark _)) (pe_lstN (pa_cons (pv 0) pa_nil)) (pe_op op_catLN (pe_callC C_law_leaves hr (pa_cons (pe_ix ix_tup (pv 0) pe_int (fun _ _ => rfl)) pa_nil)) (pe_callC C_law_leaves hr (pa_cons (pe_ix ix_tup (pv 0) pe_int (fun _ _ => rfl)) pa_nil)))))), ?_⟩
  rcases isForm_inv hD with ⟨x, m, rfl, hx, hn⟩ | ⟨j, x, a, b, rfl, rfl, hx, ha, hb⟩
  · cases hv with | @tup p xs _ hT hA => cases hA with | cons h1 hA => cases hA with | cons h2 hN =>
    cases hN
    rw [lvs2] at q
    refine ⟨_, rfl, _, _, rfl, .inr ⟨_, hT, rfl⟩, rfl, true, rfl, ?_⟩
    exact ⟨_, rfl, le1k, fun o H1 s1 e1 => q H1 o _ s1 e1 (.cons (.tup (seqT_same s1 hT) (.cons (dp_same s1 _ _ h1) (.cons (dp_same s1 _ _ h2) .nil))) .nil)⟩
  · cases hv with | @tup p xs _ hT hA => cases hA with | cons h1 hA => cases hA with | cons h2 hA => cases hA with | cons h3 hN =>
    cases hN
    rw [lvs3] at q hL
    rw [List.length_append] at hL
    refine ⟨_, rfl, _, _, rfl, .inr ⟨_, hT, rfl⟩, rfl, false, rfl, ?_⟩
    refine ⟨_, rfl, p, _, _, _, rfl, rfl, hT, rfl, _, j, a, rfl, by omega, h2, ha, by omega, fun H1 p1 us1 s1 e1 d1 => ?_⟩
    refine ⟨_, rfl, p, _, _, _, rfl, rfl, seqT_same s1 hT, rfl, _, j, b, rfl, by omega, dp_same s1 _ _ h3, hb, by omega, fun H2 p2 us2 s2 e2 d2 => ?_⟩
    refine ⟨p1, p2, us1, us2, rfl, rfl, s2 _ _ e1, e2, ?_, fun o H3 s3 e3 => ?_⟩
    · rw [dpAll_len d1, dpAll_len d2]
      exact hL
    · exact q H3 o _ (Same.trans s1 (Same.trans s2 s3)) e3 (dpAll_app (dpAll_same (Same.trans s2 s3) _ _ d1) (dpAll_same s3 _ _ d2))
end
end My

set_option Elab.async false
set_option linter.all false
set_option maxRecDepth 100000
namespace My
open PySem L2
abbrev s_law_leaf_many : Stmt := top 49
abbrev N_law_leaf_many : List Str := ["_law_ends", "_law_form"]
abbrev P_law_leaf_many : List Str := ["_law_ends"]
theorem sc_law_leaf_many : FnScope N_law_leaf_many P_law_leaf_many (defScope s_law_leaf_many) := ⟨rfl, rfl, rfl, by decide +kernel, rfl, by decide +kernel, by decide +kernel⟩
def spLeafMany (K : PySem.W.Frag) : Sp := fun vs H Q _ => ∃ (a : Addr) (xs : List V) (ds : List PyData), vs = [.ref a] ∧ SqL K H a xs ∧ DpAll K H xs ds ∧ ds.all (isForm 12) = true ∧ ds.length ≤ 1000 ∧ (ds.flatMap lvs).length ≤ 1000 ∧ ∀ H', Same H H' → Q (.int ((ds.flatMap lvs).length : Nat)) H'
theorem sum_lvs : ∀ ds : List PyData, (ds.map fun d => ((lvs d).length : Int)).sum = (((ds.flatMap lvs).length : Nat) : Int)
  | [] => rfl
  | d :: ds => by
    rw [List.map_cons, List.sum_cons, sum_lvs ds, List.flatMap_cons, List.length_append]
    omega
section
variable {P : Program} {w : World} {K : PySem.W.Frag} {mg : Str → Option Value} {base : Heap} {f : Addr} {fd : FuncData}
theorem ok_law_leaf_many (T : Txt7 K mg) (hsum : mg "sum" = none) (F : Fun K "_law_leaf_many" "_law_leaf_many" s_law_leaf_many f fd) (C_law_leaves : Cal P w K mg base "_law_leaves" 13 P_law_leaves (spLvs K 13)) : FnOk P w K mg base CX0 14 f fd P_law_leaf_many (spLeafMany K) := by
  refine F.ok sc_law_leaf_many (fun vs H Q E h => ?_) (fun cdv A outer s H vs Q E hr h => ?_)
  · obtain ⟨a, xs, ds, rfl, _⟩ := h
    rfl
  obtain ⟨a, xs, ds, rfl, hS, hA, hF, hN, hL, q⟩ := h
  refine ⟨_, (pss_one (ps_ret (pe_callB (cr_sum rfl) rfl hsum (by decide +kernel) (pa_cons (pe_lc (own := [("_law_form", 1)]) (g := (gName 1)) (te := tCB (fun xs H Q => ∃ x n, xs = [x] ∧ LenV K x H n ∧ Q (.int n) H) (tCons (tCall (spLvs K 13) [] E0 (tCons (tVar 1) tNil)) tNil)) rfl sc_law_leaf_many.nd (pi_list (pv 0)) (blkOk_by (own := [("_law_form", 1)]) (N := N_law_leaf_many) (sc := defScope s_law_leaf_many) (by decide +kernel)) (fun _ _ _ _ _ => (pg_name (i := 1) sc_law_leaf_many.nd rfl (Or.inl rfl))) (fun _ _ _ _ _ => pts_nil) (fun _ _ _ _ _ => (pe_callB call_len rfl T.len (by decide +kernel) (pa_cons (pe_callC C_law_leaves hr (pa_cons (pv 1) pa_nil)) pa_nil)))) pa_nil)))), ?_⟩
  have hl := dpAll_len hA
  refine ⟨_, rfl, a, rfl, ⟨xs, hS⟩, fun D nD => ?_⟩
  refine lc_it (walk_list (xs := xs)) (fun i H' => Same H H' ∧ H' D = some (.lst (((ds.take i).map fun d => ((lvs d).length : Int)).map V.int))) ⟨same_new nD _, upd_same⟩ (fun i H' _ p => p.1.seq hS) (fun i y H3 H4 hi p yy => ?_) (fun H3 p => ?_)
  · obtain ⟨rfl, hy⟩ := yy
    obtain ⟨s3, eD⟩ := p
    obtain ⟨d, hd, hyd⟩ := dpAll_at hA hy
    have fd : isForm 12 d = true := List.all_eq_true.mp hF d (List.mem_of_getElem? hd)
    have ln := flat_len lvs ds (i + 1)
    rw [flat_snoc lvs hd, List.length_append] at ln
    refine ⟨rfl, y, rfl, y, 12, d, rfl, by omega, dp_same s3 _ _ hyd, fd, by omega, fun H5 p5 us s5 e5 d5 => ⟨_, _, rfl, .inl ⟨us, SqL.of e5, rfl⟩, _, s5 _ _ eD, small1000 ?_, same_at (Same.trans s3 s5) nD, ?_⟩⟩
    · rw [List.length_map, List.length_map, List.length_take]
      omega
    · rw [upd_same, take_next hd, List.map_append, List.map_append, dpAll_len d5]
      rfl
  · obtain ⟨s3, eD⟩ := p
    rw [List.take_of_length_le (by omega)] at eD
    refine ⟨D, _, rfl, SqL.of eD, ?_⟩
    rw [sum_lvs]
    exact q H3 s3
end
end My

set_option Elab.async false
set_option linter.all false
set_option maxRecDepth 100000
namespace My
open PySem L2
def NoEnds (K : PySem.W.Frag) (H : Hp) (v : V) : Prop := (∃ D, Dp K H v D ∧ shortD D = true ∧ widD D = true ∧ D.depth ≤ 60 ∧ isEnds D = false) ∨ ∃ (a : Addr) (kvs : List (Key × V)), v = .ref a ∧ H a = some (.dK kvs) ∧ (kvs.map (·.1)).Nodup ∧ ∀ p ∈ kvs, flatB p.2 = true
def spNoEnds (K : PySem.W.Frag) : Sp := fun vs H Q _ => ∃ (d L a : Addr) (ns : List Int) (n : Nat) (xs : List V) (ds : List PyData), vs = [.ref d, .ref a] ∧ Pen K H d L ns n ∧ n < 2 ^ 37 ∧ H a = some (.lst xs) ∧ DpAll K H xs ds ∧ isEnds (.list ds) = true ∧ ∀ v H', Keep d H H' → NoEnds K H' v → Q v H'
theorem NoEnds.x {K : PySem.W.Frag} {H H' : Hp} {v : V} (k : LamX.ExtN H H') (h : NoEnds K H v) : NoEnds K H' v := by
  rcases h with ⟨D, h1, h2⟩ | ⟨a, kvs, e, h1, h2⟩
  · exact .inl ⟨D, dp_x k _ _ h1, h2⟩
  · exact .inr ⟨a, kvs, e, k _ _ h1 (fun _ z => nomatch z), h2⟩
theorem shortAll_of : ∀ {ds : List PyData}, (∀ d ∈ ds, shortD d = true) → shortAll ds = true
  | [], _ => rfl
  | d :: ds, h => by
    show (shortD d && shortAll ds) = true
    rw [h d List.mem_cons_self, shortAll_of fun x hx => h x (List.mem_cons_of_mem _ hx)]
    rfl
theorem widAll_of : ∀ {ds : List PyData}, (∀ d ∈ ds, widD d = true) → widAll ds = true
  | [], _ => rfl
  | d :: ds, h => by
    show (widD d && widAll ds) = true
    rw [h d List.mem_cons_self, widAll_of fun x hx => h x (List.mem_cons_of_mem _ hx)]
    rfl
theorem depthAll_of {n : Nat} : ∀ {ds : List PyData}, (∀ d ∈ ds, d.depth ≤ n) → PyData.depthAll ds ≤ n
  | [], _ => by simp [PyData.depthAll]
  | d :: ds, h => by
    have a := h d List.mem_cons_self
    have b := depthAll_of (n := n) (ds := ds) fun x hx => h x (List.mem_cons_of_mem _ hx)
    simp only [PyData.depthAll]
    omega
theorem dpAll_drop {K : PySem.W.Frag} {H : Hp} : ∀ {xs : List V} {ds : List PyData} (n : Nat), DpAll K H xs ds → DpAll K H (xs.drop n) (ds.drop n)
  | _, _, 0, h => h
  | _, _, _ + 1, .nil => .nil
  | _, _, n + 1, .cons _ h => dpAll_drop n h
theorem dpAll_take {K : PySem.W.Frag} {H : Hp} : ∀ {xs : List V} {ds : List PyData} (n : Nat), DpAll K H xs ds → DpAll K H (xs.take n) (ds.take n)
  | _, _, 0, _ => .nil
  | _, _, _ + 1, .nil => .nil
  | _, _, n + 1, .cons a h => .cons a (dpAll_take n h)
/-- a slice's data are among the list's -/
theorem dpAll_cut {K : PySem.W.Frag} {H : Hp} {xs : List V} {ds : List PyData} (lo hi : Option Int) (h : DpAll K H xs ds) : ∃ es, DpAll K H (cutV xs lo hi) es ∧ ∀ d ∈ es, d ∈ ds :=
  ⟨_, dpAll_take _ (dpAll_drop _ h), fun d hd => List.mem_of_mem_drop (List.mem_of_mem_take hd)⟩
theorem dpAll_mem {K : PySem.W.Frag} {H : Hp} : ∀ {xs : List V} {ds : List PyData} {x : V}, DpAll K H xs ds → x ∈ xs → ∃ d ∈ ds, Dp K H x d
  | _, _, x, .nil, hx => by simp at hx
  | _, _, x, .cons a h, hx => by
    rcases List.mem_cons.mp hx with rfl | hx
    · exact ⟨_, List.mem_cons_self, a⟩
    · obtain ⟨d, h1, h2⟩ := dpAll_mem h hx
      exact ⟨d, List.mem_cons_of_mem _ h1, h2⟩
/-- lists that are no ends, as data -/
theorem noEnds_list {K : PySem.W.Frag} {H : Hp} {a : Addr} {xs : List V} {ds : List PyData} (ha : SqL K H a xs) (hd : DpAll K H xs ds) (hs : ∀ d ∈ ds, shortD d = true ∧ widD d = true ∧ d.depth ≤ 30) (hl : ds.length ≤ 1000) (no : isEnds (.list ds) = false) : NoEnds K H (.ref a) := by
  refine .inl ⟨.list ds, .lst ha hd, shortAll_of fun d h => (hs d h).1, ?_, ?_, no⟩
  · show (decide (ds.length ≤ 1000) && widAll ds) = true
    rw [decide_eq_true hl, widAll_of fun d h => (hs d h).2.1]
    rfl
  · have := depthAll_of (n := 30) fun d h => (hs d h).2.2
    simp only [PyData.depth]
    omega
theorem form_ok {k : Nat} {D : PyData} (h : isForm k D = true) (hk : k ≤ 20) : shortD D = true ∧ widD D = true ∧ D.depth ≤ 30 := ⟨short_form h, wid_form h, by have := depth_form h; omega⟩
theorem rep_flat (v : V) : ∀ m : Nat, (List.replicate m [v]).flatten = List.replicate m v
  | 0 => rfl
  | m + 1 => by
    rw [List.replicate_succ, List.flatten_cons, rep_flat v m, List.replicate_succ]
    rfl
theorem dpAll_rep {K : PySem.W.Frag} {H : Hp} {v : V} {D : PyData} (h : Dp K H v D) : ∀ m : Nat, DpAll K H (List.replicate m v) (List.replicate m D)
  | 0 => .nil
  | m + 1 => .cons h (dpAll_rep h m)
theorem rep_lvs (a b : PyData) : ∀ m : Nat, ((List.replicate m (PyData.tuple [a, b])).flatMap lvs).length = m
  | 0 => rfl
  | m + 1 => by
    rw [List.replicate_succ, List.flatMap_cons, List.length_append, rep_lvs a b m, lvs2]
    simp
    omega
theorem noEnds_form {K : PySem.W.Frag} {H : Hp} {v : V} {D : PyData} (h : Dp K H v D) (hD : isForm 12 D = true) : NoEnds K H v := by
  have no : isEnds D = false := by
    rcases isForm_inv hD with ⟨y, m, rfl, hy, hm⟩ | ⟨j, y, b, e, _, rfl, hy, hc, hd⟩
    · exact isEnds_bad (ds := [.str y, .str m]) (.inr rfl) (.inr (.inl ⟨.str y, by simp, rfl⟩))
    · exact isEnds_bad (ds := [.str y, b, e]) (.inr rfl) (.inr (.inl ⟨.str y, by simp, rfl⟩))
  have f := form_ok hD (by decide)
  exact .inl ⟨D, h, f.1, f.2.1, by omega, no⟩
abbrev s_law_no_ends : Stmt := top 64
abbrev N_law_no_ends : List Str := ["_law_pen", "_law_ends", "_law_way", "_law_at"]
abbrev P_law_no_ends : List Str := ["_law_pen", "_law_ends"]
theorem sc_law_no_ends : FnScope N_law_no_ends P_law_no_ends (defScope s_law_no_ends) := ⟨rfl, rfl, rfl, by decide +kernel, rfl, by decide +kernel, by decide +kernel⟩
section
variable {P : Program} {w : World} {K : PySem.W.Frag} {mg : Str → Option Value} {base : Heap} {f : Addr} {fd : FuncData}
theorem ok_law_no_ends (T : Txt7 K mg) (F : Fun K "_law_no_ends" "_law_no_ends" s_law_no_ends f fd) (C_law_draw : Cal P w K mg base "_law_draw" 1 P_law_draw (spDraw K)) (C_law_no_form : Cal P w K mg base "_law_no_form" 17 P_law_no_form (spNoForm K)) (C_law_leaf_many : Cal P w K mg base "_law_leaf_many" 14 P_law_leaf_many (spLeafMany K)) : FnOk P w K mg base CX0 18 f fd P_law_no_ends (spNoEnds K) := by
  refine F.ok sc_law_no_ends (fun vs H Q E h => ?_) (fun cdv A outer s H vs Q E hr h => ?_)
  · obtain ⟨d, L, a, ns, n, xs, ds, rfl, _⟩ := h
    rfl
  obtain ⟨d, L, a, ns, n, xs, ds, rfl, hp, hn, ha, hA, hE, q⟩ := h
  refine ⟨_, (pss_cons (ps_par (i := 2) (j := 3) (by rfl) sc_law_no_ends.nd rfl rfl (by decide) rfl rfl (pa_cons (pe_callC C_law_draw hr (pa_cons (pv 0) (pa_cons pe_int pa_nil))) (pa_cons (pe_callC C_law_draw hr (pa_cons (pv 0) (pa_cons (pe_callB call_len rfl T.len (by decide +kernel) (pa_cons (pv 1) pa_nil)) pa_nil))) pa_nil)) (by rfl))
  (pss_cons (ps_if (pt_cmpR op_lt (pv 2) pe_int (nomark _))
    (pss_one (ps_ret (pe_op op_catLN (pe_op op_catLN (pe_slice sl_list (pv 1) po_none (po_some (pv 3))) (pe_lstN (pa_cons (pe_callC C_law_no_form hr (pa_cons (pv 0) (pa_cons (pe_ix ix_list (pv 1) (pv 3) (fun _ _ => rfl)) pa_nil))) pa_nil))) (pe_slice sl_list (pv 1) (po_some (pe_op op_add (pv 3) pe_int)) po_none))))
    pss_nil)
  (pss_cons (ps_if (pt_cmpR op_eq (pv 2) pe_int (nomark _))
    (pss_one (ps_ret (pe_op op_catLN (pv 1) (pe_op op_rep (pe_lstN (pa_cons (pe_tupN (pa_cons pe_str (pa_cons pe_str pa_nil))) pa_nil)) (pe_op op_sub pe_int (pe_callC C_law_leaf_many hr (pa_cons (pv 1) pa_nil)))))))
    pss_nil)
  (pss_one (ps_ret (pe_ix ix_list (pe_lstN (pa_cons (pe_lstN pa_nil) (pa_cons (pe_tupN pa_nil) (pa_cons pe_non (pa_cons pe_str (pa_cons pe_int (pa_cons (pe_disp (pps_cons pe_str pe_int pps_nil) (by rfl) (by rfl) (fun z => by cases z) (by decide)) (pa_cons (pe_ix ix_list (pv 1) pe_int (fun _ _ => rfl)) pa_nil)))))))) (pe_callC C_law_draw hr (pa_cons (pv 0) (pa_cons pe_int pa_nil))) (fun _ _ => rfl))))))), ?_⟩
  obtain ⟨es, eD, hN, hF, hL, h1⟩ := isEnds_inv hE
  obtain rfl : ds = es := by
    rcases eD with eD | eD
    · injection eD
    · cases eD
  have hl := dpAll_len hA
  have kd := hp.isDk
  have nad : a ≠ d := by
    obtain ⟨kvs, hd⟩ := kd
    intro z
    rw [z, hd] at ha
    cases ha
  have fits : ∀ D ∈ ds, shortD D = true ∧ widD D = true ∧ D.depth ≤ 30 := fun D hD => form_ok (List.all_eq_true.mp hF D hD) (by decide)
  refine ⟨_, rfl, d, L, ns, n, 5, rfl, hp, by omega, by decide, by decide, fun way H1 w0 w1 k1 p1 => ?_⟩
  refine ⟨_, rfl, _, rfl, _, _, rfl, .inl ⟨xs, SqL.of (k1 _ _ nad ha), rfl⟩, d, L, ns, n + 1, _, rfl, p1, by omega, by omega, by omega, fun at_ H2 a0 a1 k2 p2 => ⟨_, _, rfl, ?_⟩⟩
  have k12 := k1.trans k2
  have ha2 := k12 _ _ nad ha
  refine ⟨_, rfl, _, _, rfl, rfl, _, rfl, ?_⟩
  refine ite2 (fun c1 => ?_) (fun c1 => ?_)
  · refine ⟨_, rfl, _, rfl, _, rfl, a, xs, rfl, SqL.of ha2, fun b1 nb1 => ?_⟩
    have s3 := same_new nb1 (.lst (cutV xs none (some at_)))
    have eb1 : upd H2 b1 (.lst (cutV xs none (some at_))) b1 = some (.lst (cutV xs none (some at_))) := upd_same
    generalize upd H2 b1 (.lst (cutV xs none (some at_))) = H3 at *
    have p3 := p2.same s3
    have k3 := k12.trans (Same.toKeep s3)
    obtain ⟨x, hx, hm⟩ := atI_int (xs := xs) a0 (by simpa using a1)
    obtain ⟨D, hDm, hDx⟩ := dpAll_mem hA hm
    refine ⟨_, rfl, _, rfl, _, rfl, a, xs, at_, x, rfl, rfl, SqL.of (s3 _ _ ha2), hx, d, L, ns, _, x, D, rfl, p3, by omega, dp_keep kd k3 _ _ hDx, List.all_eq_true.mp hF D hDm, fun v' D' H4 hd' sh' wd' dp' nf' k4 => ⟨le1k, fun l2 H5 s5 e5 => ?_⟩⟩
    have nb1d : b1 ≠ d := fun z => by
      obtain ⟨kvs, hd⟩ := p3.isDk
      rw [z, hd] at eb1
      cases eb1
    have k5 := (k3.trans k4).trans (Same.toKeep s5)
    have c1l := cutV_length xs none (some at_)
    refine ⟨b1, l2, _, _, rfl, rfl, s5 _ _ (k4 _ _ nb1d eb1), e5, by simp only [List.length_cons, List.length_nil]; omega, fun l3 H6 s6 e6 => ?_⟩
    have k6 := k5.trans (Same.toKeep s6)
    refine ⟨_, rfl, _, rfl, _, _, rfl, rfl, _, rfl, a, xs, rfl, SqL.of (k6 _ _ nad ha), fun b2 nb2 => ?_⟩
    have s7 := same_new nb2 (.lst (cutV xs (some (at_ + 1)) none))
    have c2l := cutV_length xs (some (at_ + 1)) none
    refine ⟨l3, b2, _, _, rfl, rfl, s7 _ _ e6, upd_same, by simp only [List.length_append, List.length_cons, List.length_nil]; omega, fun l4 H8 s8 e8 => ?_⟩
    have s68 := Same.trans s7 s8
    have k8 := k6.trans (Same.toKeep s68)
    have hA8 := dpAll_keep kd k8 _ _ hA
    obtain ⟨es1, ds1, m1⟩ := dpAll_cut none (some at_) hA8
    obtain ⟨es2, ds2, m2⟩ := dpAll_cut (some (at_ + 1)) none hA8
    have lE1 := dpAll_len ds1
    have lE2 := dpAll_len ds2
    refine q (.ref l4) H8 k8 (noEnds_list (ds := (es1 ++ [D']) ++ es2) (SqL.of e8) (dpAll_app (dpAll_app ds1 (.cons (dp_same (Same.trans s5 (Same.trans s6 s68)) _ _ hd') .nil)) ds2) (fun y hy => ?_) ?_ (isEnds_bad (ds := (es1 ++ [D']) ++ es2) (.inl rfl) (.inr (.inl ⟨D', by simp, nf'⟩))))
    · simp only [List.mem_append, List.mem_cons, List.not_mem_nil, or_false] at hy
      rcases hy with (hy | rfl) | hy
      · exact fits y (m1 y hy)
      · exact ⟨sh', wd', by omega⟩
      · exact fits y (m2 y hy)
    · simp only [List.length_append, List.length_cons, List.length_nil]
      omega
  · refine ⟨_, rfl, rfl, _, rfl, ?_⟩
    by_cases c2 : way = 2
    · rw [decide_eq_true (show V.int way = V.int 2 by rw [c2])]
      refine iteT ⟨_, rfl, le1k, fun t3 H3 s3 e3 => ⟨le1k, fun l3 H4 s4 e4 => ?_⟩⟩
      have s34 := Same.trans s3 s4
      have k4 := k12.trans (Same.toKeep s34)
      refine ⟨_, rfl, a, xs, ds, rfl, SqL.of (k4 _ _ nad ha), dpAll_keep kd k4 _ _ hA, hF, by omega, by omega, fun H5 s5 => ⟨_, _, rfl, rfl, ?_⟩⟩
      have k5 := k4.trans (Same.toKeep s5)
      have em : ((41 : Int) - ((ds.flatMap lvs).length : Nat)).toNat = 41 - (ds.flatMap lvs).length := by omega
      refine ⟨l3, _, _, rfl, rfl, s5 _ _ e4, by omega, by omega, ?_, fun p6 np6 => ?_⟩
      · rw [em]
        refine fit1000 ?_
        simp only [List.length_cons, List.length_nil]
        omega
      rw [em, rep_flat]
      have s6 := same_new np6 (.lst (List.replicate (41 - (ds.flatMap lvs).length) (V.ref t3)))
      refine ⟨a, p6, xs, _, rfl, rfl, s6 _ _ (k5 _ _ nad ha), upd_same, by rw [List.length_replicate]; omega, fun l7 H7 s7 e7 => ?_⟩
      have s67 := Same.trans s6 s7
      have k7 := k5.trans (Same.toKeep s67)
      have dg : Dp K H7 (.ref t3) (.tuple [.str "good", .str "a"]) := .tup (seqT_same (Same.trans s4 (Same.trans s5 s67)) e3) (.cons (.str _) (.cons (.str _) .nil))
      refine q (.ref l7) H7 k7 (noEnds_list (ds := ds ++ List.replicate (41 - (ds.flatMap lvs).length) (.tuple [.str "good", .str "a"])) (SqL.of e7) (dpAll_app (dpAll_keep kd k7 _ _ hA) (dpAll_rep dg _)) (fun y hy => ?_) ?_ (isEnds_bad (ds := ds ++ List.replicate (41 - (ds.flatMap lvs).length) (.tuple [.str "good", .str "a"])) (.inl rfl) (.inr (.inr ⟨(ds ++ List.replicate (41 - (ds.flatMap lvs).length) (PyData.tuple [.str "good", .str "a"])).length, ?_⟩))))
      · rcases List.mem_append.mp hy with hy | hy
        · exact fits y hy
        · rw [List.eq_of_mem_replicate hy]
          exact ⟨by decide +kernel, rfl, by simp [PyData.depth, PyData.depthAll]⟩
      · rw [List.length_append, List.length_replicate]
        omega
      · rw [List.take_length, List.flatMap_append, List.length_append, rep_lvs]
        omega
    · rw [decide_eq_false (show ¬ V.int way = V.int 2 from fun z => c2 (by injection z))]
      refine iteF ⟨Nat.zero_le _, fun b3 H3 s3 e3 => ⟨Nat.zero_le _, fun b4 H4 s4 e4 => ?_⟩⟩
      intro p5 np5
      refine ⟨upd_same, [(.inr "a", .int 1)], rfl, by decide, ?_⟩
      have s5 : Same H4 (upd (upd H4 p5 (.dK [])) p5 (.dK (mergeK [] [(.inr "a", .int 1)]))) := fun b o e => by
        rw [upd_ne (ne_of_none e np5), upd_ne (ne_of_none e np5)]
        exact e
      have e5 : upd (upd H4 p5 (.dK [])) p5 (.dK (mergeK [] [(.inr "a", .int 1)])) p5 = some (.dK [(.inr "a", .int 1)]) := upd_same
      generalize upd (upd H4 p5 (.dK [])) p5 (.dK (mergeK [] [(.inr "a", .int 1)])) = H5 at *
      have s35 := Same.trans s3 (Same.trans s4 s5)
      have k5 := k12.trans (Same.toKeep s35)
      have p5' := p2.same s35
      obtain ⟨x, hx, hm⟩ := atI_int (xs := xs) (r := 0) (by decide) (by omega)
      obtain ⟨D, hDm, hDx⟩ := dpAll_mem hA hm
      refine ⟨_, rfl, a, xs, 0, x, rfl, rfl, SqL.of (k5 _ _ nad ha), hx, le1k, fun l6 H6 s6 e6 => ?_⟩
      refine ⟨_, rfl, d, L, ns, _, 7, rfl, p5'.same s6, by omega, by decide, by decide, fun r H7 r0 r1 k7 p7 => ?_⟩
      have kd6 := (p5'.same s6).isDk
      have k67 := k5.trans ((Same.toKeep s6).trans k7)
      have nl6 : l6 ≠ d := fun z => by
        obtain ⟨kvs, hd⟩ := kd6
        rw [z, hd] at e6
        cases e6
      obtain ⟨y, hy, hym⟩ := atI_int (xs := [V.ref b3, .ref b4, .non, .str "a", .int 7, .ref p5, x]) r0 (by show r < 7; exact r1)
      refine ⟨l6, _, r, y, rfl, rfl, SqL.of (k7 _ _ nl6 e6), hy, q y H7 k67 ?_⟩
      simp only [List.mem_cons, List.not_mem_nil, or_false] at hym
      have s36 := Same.trans s4 (Same.trans s5 s6)
      rcases hym with rfl | rfl | rfl | rfl | rfl | rfl | rfl
      · exact noEnds_list (ds := []) (seqL_keep kd6 k7 (s36.seq (SqL.of e3))) .nil (fun y hy => by simp at hy) (by decide) rfl
      · exact .inl ⟨.tuple [], .tup (seqT_keep kd6 k7 (seqT_same (Same.trans s5 s6) e4)) .nil, rfl, rfl, by simp [PyData.depth, PyData.depthAll], rfl⟩
      · exact .inl ⟨.none, .non, rfl, rfl, by simp [PyData.depth], rfl⟩
      · exact .inl ⟨.str "a", .str _, by decide +kernel, rfl, by simp [PyData.depth], rfl⟩
      · exact .inl ⟨.int 7, .int _, rfl, rfl, by simp [PyData.depth], rfl⟩
      · refine .inr ⟨p5, [(.inr "a", .int 1)], rfl, k7 _ _ (fun z => ?_) (s6 _ _ e5), by simp, fun p hp => by
          simp only [List.mem_singleton] at hp
          rw [hp]
          rfl⟩
        obtain ⟨kvs, hd⟩ := (p2.same (Same.trans s3 s4)).isDk
        rw [z, hd] at np5
        cases np5
      · exact noEnds_form (dp_keep kd k67 _ _ hDx) (List.all_eq_true.mp hF D hDm)
end
end My

set_option Elab.async false
set_option linter.all false
set_option maxRecDepth 100000
namespace My
open PySem L2
abbrev s_law_unforked : Stmt := top 56
abbrev N_law_unforked : List Str := ["_law_form", "_law_branches", "_law_word", "_law_one", "_law_other"]
abbrev P_law_unforked : List Str := ["_law_form", "_law_branches"]
theorem sc_law_unforked : FnScope N_law_unforked P_law_unforked (defScope s_law_unforked) := ⟨rfl, rfl, rfl, by decide +kernel, rfl, by decide +kernel, by decide +kernel⟩
def spUnforked (K : PySem.W.Frag) (n : Nat) : Sp := fun vs H Q _ => ∃ (v : V) (D : PyData) (k : Nat) (m : Int), vs = [v, .int m] ∧ k < n ∧ Dp K H v D ∧ isForm k D = true ∧ 0 ≤ m ∧ m ≤ 100 ∧
  ∀ (H' : Hp) (p : Addr) (u : V) (D' : PyData) (m' : Int), Same H H' → SqT K H' p [u, .int m'] → Dp K H' u D' → isForm k D' = true → (lvs D').length = (lvs D).length → 0 ≤ m' → m' ≤ 100 → Q (.ref p) H'
theorem fork_half : ∀ w ∈ forkW, w ∈ halfW := by decide +kernel
section
variable {P : Program} {w : World} {K : PySem.W.Frag} {mg : Str → Option Value} {base : Heap} {f : Addr} {fd : FuncData}
theorem ok_law_unforked {n : Nat} (T : Txt7 K mg) (F : Fun K "_law_unforked" "_law_unforked" s_law_unforked f fd) (C_law_unforked : Cal P w K mg base "_law_unforked" n P_law_unforked (spUnforked K n)) : FnOk P w K mg base CX0 (n + 1) f fd P_law_unforked (spUnforked K (n + 1)) := by
  refine F.ok sc_law_unforked (fun vs H Q E h => ?_) (fun cdv A outer s H vs Q E hr h => ?_)
  · obtain ⟨v, D, k, m, rfl, _⟩ := h
    rfl
  obtain ⟨v, D, k, m, rfl, hk, hv, hD, m0, m1, q⟩ := h
  refine ⟨_, (pss_cons (ps_if (pt_cmpR op_eq (pe_callB call_len rfl T.len (by decide +kernel) (pa_cons (pv 0) pa_nil)) pe_int (nomark _))
    (pss_one (ps_ret (pe_tupN (pa_cons (pv 0) (pa_cons (pv 1) pa_nil)))))
    pss_nil)
  (pss_cons (ps_set (i := 2) sc_law_unforked.nd rfl (Or.inl rfl) (pe_ix ix_tup (pv 0) pe_int (fun _ _ => rfl)))
  (pss_cons (ps_if (pt_cmpR op_in_seq (pv 2) (pe_lstN (pa_cons pe_str (pa_cons pe_str pa_nil))) rfl)
    (pss_cons (ps_set (i := 2) sc_law_unforked.nd rfl (Or.inl rfl) (pe_ifExp (pt_cmpR op_gt (pv 1) pe_int (nomark _)) (pv 2) (pe_dget (hu_of hr) (pe_disp (pps_cons pe_str pe_str (pps_cons pe_str pe_str pps_nil)) (by rfl) (by rfl) (fun z => by cases z) (by decide)) (pv 2) (fun _ _ => rfl))))
    (pss_one (ps_set (i := 1) sc_law_unforked.nd rfl (Or.inl rfl) (pe_callB (call_max2 rfl) rfl T.max (by decide +kernel) (pa_cons pe_int (pa_cons (pe_op op_sub (pv 1) pe_int) pa_nil))))))
    pss_nil)
  (pss_cons (ps_asg (pe_callC C_law_unforked hr (pa_cons (pe_ix ix_tup (pv 0) pe_int (fun _ _ => rfl)) (pa_cons (pv 1) pa_nil))) (pg_tup rfl (pgs_cons (pg_name (i := 3) sc_law_unforked.nd rfl (Or.inl rfl)) (pgs_cons (pg_name (i := 1) sc_law_unforked.nd rfl (Or.inl rfl)) pgs_nil))))
  (pss_cons (ps_asg (pe_callC C_law_unforked hr (pa_cons (pe_ix ix_tup (pv 0) pe_int (fun _ _ => rfl)) (pa_cons (pv 1) pa_nil))) (pg_tup rfl (pgs_cons (pg_name (i := 4) sc_law_unforked.nd rfl (Or.inl rfl)) (pgs_cons (pg_name (i := 1) sc_law_unforked.nd rfl (Or.inl rfl)) pgs_nil))))
  (pss_one (ps_ret (pe_tupN (pa_cons (pe_tupN (pa_cons (pv 2) (pa_cons (pv 3) (pa_cons (pv 4) pa_nil)))) (pa_cons (pv 1) pa_nil)))))))))), ?_⟩
  rcases isForm_inv hD with ⟨x, mm, rfl, hx, hn⟩ | ⟨j, x, a, b, rfl, rfl, hx, ha, hb⟩
  · cases hv with | @tup p xs _ hT hA => cases hA with | cons h1 hA => cases hA with | cons h2 hN =>
    cases hN
    refine ⟨_, rfl, _, _, rfl, .inr ⟨_, hT, rfl⟩, rfl, true, rfl, ?_⟩
    exact ⟨_, rfl, _, rfl, le1k, fun t H1 s1 e1 => q H1 t _ _ m s1 e1 (dp_same s1 _ _ (.tup hT (.cons h1 (.cons h2 .nil)))) hD rfl m0 m1⟩
  · cases hv with | @tup p xs _ hT hA => cases hA with | cons h1 hA => cases hA with | cons h2 hA => cases hA with | cons h3 hN =>
    cases hN
    cases h1
    rename_i v1 v2
    have rest : True := trivial
    refine ⟨_, rfl, _, _, rfl, .inr ⟨_, hT, rfl⟩, rfl, false, rfl, ?_⟩
    refine ⟨_, rfl, p, _, _, _, rfl, rfl, hT, rfl, ?_⟩
    refine ⟨_, rfl, le1k, fun o H1 s1 e1 => ⟨o, _, rfl, .inl (SqL.of e1), rfl, rfl, _, rfl, ?_⟩⟩
    show (if inV (.str x) (forkW.map V.str) = true then _ else _)
    rw [inV_str]
    by_cases hy2 : x ∈ forkW
    · rw [decide_eq_true hy2]
      have max0 : ∀ i : Int, (if i - 1 > 0 then i - 1 else 0) ≤ 100 ∨ i > 101 := fun i => by
        by_cases c : i - 1 > 0
        · rw [if_pos c]; omega
        · rw [if_neg c]; omega
      refine iteT ⟨_, rfl, _, _, rfl, rfl, _, rfl, ?_⟩
      by_cases cm : (0 : Int) < m
      · rw [decide_eq_true cm]
        refine iteT ⟨_, rfl, ?_⟩
        obtain ⟨M, eM⟩ : ∃ M : Int, M = (if m - 1 > 0 then m - 1 else 0) := ⟨_, rfl⟩
        have M0 : 0 ≤ M := by
          rw [eM]
          by_cases c : m - 1 > 0
          · rw [if_pos c]; omega
          · rw [if_neg c]; omega
        have M1 : M ≤ 100 := by
          rw [eM]
          by_cases c : m - 1 > 0
          · rw [if_pos c]; omega
          · rw [if_neg c]; omega
        refine ⟨_, rfl, _, _, rfl, rfl, 0, m - 1, rfl, ?_⟩
        rw [← eM]
        refine ⟨_, rfl, p, _, _, _, rfl, rfl, seqT_same s1 hT, rfl, _, rfl, v1, a, j, M, rfl, by omega, dp_same s1 _ _ h2, ha, M0, M1, fun H2 t2 u2 D2 m2 s2 e2 d2 f2 l2 m20 m21 => ?_⟩
        have s12 := Same.trans s1 s2
        refine ⟨t2, _, rfl, e2, rfl, _, _, rfl, _, _, rfl, rfl, ?_⟩
        refine ⟨_, rfl, p, _, _, _, rfl, rfl, seqT_same s12 hT, rfl, _, rfl, v2, b, j, m2, rfl, by omega, dp_same s12 _ _ h3, hb, m20, m21, fun H3 t3 u3 D3 m3 s3 e3 d3 f3 l3 m30 m31 => ?_⟩
        refine ⟨t3, _, rfl, e3, rfl, _, _, rfl, _, _, rfl, rfl, ?_⟩
        refine ⟨_, rfl, _, rfl, _, rfl, le1k, fun t4 H4 s4 e4 => ⟨_, rfl, le1k, fun t5 H5 s5 e5 => ?_⟩⟩
        have s35 := Same.trans s4 s5
        refine q H5 t5 (.ref t4) (.tuple [.str x, D2, D3]) m3 (Same.trans s12 (Same.trans s3 s35)) e5 (.tup (seqT_same s5 e4) (.cons (.str _) (.cons (dp_same (Same.trans s3 s35) _ _ d2) (.cons (dp_same s35 _ _ d3) .nil)))) (isForm_node hx f2 f3) ?_ m30 m31
        rw [lvs3, lvs3, List.length_append, List.length_append, l2, l3]
      · rw [decide_eq_false cm]
        refine iteF ?_
        have hz : ∃ z : Str, z ∈ halfW ∧ valV (mergeK [] [(Sum.inr (Str.ofString "offered"), V.str "between"), (Sum.inr (Str.ofString "chosen"), V.str "both")]) (Sum.inr x) = some (.str z) := by
          simp only [forkW, List.mem_cons, List.not_mem_nil, or_false] at hy2
          rcases hy2 with rfl | rfl
          · exact ⟨"between", by decide +kernel, by rfl⟩
          · exact ⟨"both", by decide +kernel, by rfl⟩
        obtain ⟨z, hz1, hz2⟩ := hz
        intro p5 np5
        refine ⟨upd_same, [(.inr "offered", .str "between"), (.inr "chosen", .str "both")], rfl, by decide, ?_⟩
        have s5' : Same H1 (upd (upd H1 p5 (.dK [])) p5 (.dK (mergeK [] [(.inr "offered", .str "between"), (.inr "chosen", .str "both")]))) := fun b o e => by
          rw [upd_ne (ne_of_none e np5), upd_ne (ne_of_none e np5)]
          exact e
        have sq := Same.trans s1 s5'
        refine ⟨_, rfl, p5, .str z, rfl, .inl ⟨_, .inr x, .inl upd_same, rfl, hz2.symm⟩, ?_⟩
        obtain ⟨M, eM⟩ : ∃ M : Int, M = (if m - 1 > 0 then m - 1 else 0) := ⟨_, rfl⟩
        have M0 : 0 ≤ M := by
          rw [eM]
          by_cases c : m - 1 > 0
          · rw [if_pos c]; omega
          · rw [if_neg c]; omega
        have M1 : M ≤ 100 := by
          rw [eM]
          by_cases c : m - 1 > 0
          · rw [if_pos c]; omega
          · rw [if_neg c]; omega
        refine ⟨_, rfl, _, _, rfl, rfl, 0, m - 1, rfl, ?_⟩
        rw [← eM]
        refine ⟨_, rfl, p, _, _, _, rfl, rfl, seqT_same sq hT, rfl, _, rfl, v1, a, j, M, rfl, by omega, dp_same sq _ _ h2, ha, M0, M1, fun H2 t2 u2 D2 m2 s2 e2 d2 f2 l2 m20 m21 => ?_⟩
        have sq2 := Same.trans sq s2
        refine ⟨t2, _, rfl, e2, rfl, _, _, rfl, _, _, rfl, rfl, ?_⟩
        refine ⟨_, rfl, p, _, _, _, rfl, rfl, seqT_same sq2 hT, rfl, _, rfl, v2, b, j, m2, rfl, by omega, dp_same sq2 _ _ h3, hb, m20, m21, fun H3 t3 u3 D3 m3 s3 e3 d3 f3 l3 m30 m31 => ?_⟩
        refine ⟨t3, _, rfl, e3, rfl, _, _, rfl, _, _, rfl, rfl, ?_⟩
        refine ⟨_, rfl, _, rfl, _, rfl, le1k, fun t4 H4 s4 e4 => ⟨_, rfl, le1k, fun t5 H5 s5 e5 => ?_⟩⟩
        have s35 := Same.trans s4 s5
        refine q H5 t5 (.ref t4) (.tuple [.str z, D2, D3]) m3 (Same.trans sq2 (Same.trans s3 s35)) e5 (.tup (seqT_same s5 e4) (.cons (.str _) (.cons (dp_same (Same.trans s3 s35) _ _ d2) (.cons (dp_same s35 _ _ d3) .nil)))) (isForm_node hz1 f2 f3) ?_ m30 m31
        rw [lvs3, lvs3, List.length_append, List.length_append, l2, l3]
    · rw [decide_eq_false hy2]
      refine iteF ?_
      refine ⟨_, rfl, p, _, _, _, rfl, rfl, seqT_same s1 hT, rfl, _, rfl, v1, a, j, m, rfl, by omega, dp_same s1 _ _ h2, ha, m0, m1, fun H2 t2 u2 D2 m2 s2 e2 d2 f2 l2 m20 m21 => ?_⟩
      have s12 := Same.trans s1 s2
      refine ⟨t2, _, rfl, e2, rfl, _, _, rfl, _, _, rfl, rfl, ?_⟩
      refine ⟨_, rfl, p, _, _, _, rfl, rfl, seqT_same s12 hT, rfl, _, rfl, v2, b, j, m2, rfl, by omega, dp_same s12 _ _ h3, hb, m20, m21, fun H3 t3 u3 D3 m3 s3 e3 d3 f3 l3 m30 m31 => ?_⟩
      refine ⟨t3, _, rfl, e3, rfl, _, _, rfl, _, _, rfl, rfl, ?_⟩
      refine ⟨_, rfl, _, rfl, _, rfl, le1k, fun t4 H4 s4 e4 => ⟨_, rfl, le1k, fun t5 H5 s5 e5 => ?_⟩⟩
      have s35 := Same.trans s4 s5
      refine q H5 t5 (.ref t4) (.tuple [.str x, D2, D3]) m3 (Same.trans s12 (Same.trans s3 s35)) e5 (.tup (seqT_same s5 e4) (.cons (.str _) (.cons (dp_same (Same.trans s3 s35) _ _ d2) (.cons (dp_same s35 _ _ d3) .nil)))) (isForm_node hx f2 f3) ?_ m30 m31
      rw [lvs3, lvs3, List.length_append, List.length_append, l2, l3]
end
end My

set_option Elab.async false
set_option linter.all false
set_option maxRecDepth 100000
namespace My
open PySem L2
abbrev s_law_some_ends : Stmt := top 57
abbrev N_law_some_ends : List Str := ["_law_pen", "_law_most", "_law_branches", "_law_names_here", "_law_left", "_law_ends", "_law_tall", "_law_each", "_law_k", "_law_many", "_law_form"]
abbrev P_law_some_ends : List Str := ["_law_pen", "_law_most", "_law_branches"]
theorem sc_law_some_ends : FnScope N_law_some_ends P_law_some_ends (defScope s_law_some_ends) := ⟨rfl, rfl, rfl, by decide +kernel, rfl, by decide +kernel, by decide +kernel⟩
def spSomeEnds (K : PySem.W.Frag) : Sp := fun vs H Q _ => ∃ (d L : Addr) (ns : List Int) (n most : Nat) (br : Int), vs = [.ref d, .int (most : Nat), .int br] ∧ Pen K H d L ns n ∧ n < 2 ^ 36 ∧ 1 ≤ most ∧ most ≤ 40 ∧ 0 ≤ br ∧ br ≤ 100 ∧
  ∀ (p : Addr) (us : List V) (ds : List PyData) H', Keep d H H' → Pen K H' d L ns (n + 20000) → H' p = some (.lst us) → DpAll K H' us ds → isEnds (.list ds) = true → Q (.ref p) H'
section
variable {P : Program} {w : World} {K : PySem.W.Frag} {mg : Str → Option Value} {base : Heap} {f : Addr} {fd : FuncData}
theorem ok_law_some_ends (T : Txt7 K mg) (F : Fun K "_law_some_ends" "_law_some_ends" s_law_some_ends f fd) (C_law_draw : Cal P w K mg base "_law_draw" 1 P_law_draw (spDraw K)) (C_law_pick : Cal P w K mg base "_law_pick" 2 P_law_pick (spPick K)) (C_law_names : Cal P w K mg base "_law_names" 4 P_law_names (spNames K))
    (C_law_shape : Cal P w K mg base "_law_shape" 15 P_law_shape (spShape K 13)) (C_law_unforked : Cal P w K mg base "_law_unforked" 13 P_law_unforked (spUnforked K 13)) : FnOk P w K mg base CX0 16 f fd P_law_some_ends (spSomeEnds K) := by
  refine F.ok sc_law_some_ends (fun vs H Q E h => ?_) (fun cdv A outer s H vs Q E hr h => ?_)
  · obtain ⟨d, L, ns, n, most, br, rfl, _⟩ := h
    rfl
  obtain ⟨d, L, ns, n, most, br, rfl, hp, hn, o1, o2, br0, br1, q⟩ := h
  refine ⟨_, (pss_cons (ps_par3 (i := 3) (j := 4) (l := 5) (by rfl) sc_law_some_ends.nd rfl rfl rfl (by decide) (by decide) (by decide) rfl rfl rfl (pa_cons (pe_callC C_law_names hr (pa_cons (pv 0) (pa_cons pe_int pa_nil))) (pa_cons (pe_op op_add pe_int (pe_callC C_law_draw hr (pa_cons (pv 0) (pa_cons (pv 1) pa_nil)))) (pa_cons (pe_lst pa_nil) pa_nil))) (by rfl))
  (pss_cons (ps_par (i := 6) (j := 7) (by rfl) sc_law_some_ends.nd rfl rfl (by decide) rfl rfl (pa_cons (pe_callC C_law_pick hr (pa_cons (pv 0) (pa_cons (pe_lstN (pa_cons pe_int (pa_cons pe_int (pa_cons pe_int pa_nil)))) pa_nil))) (pa_cons (pe_callC C_law_pick hr (pa_cons (pv 0) (pa_cons (pe_lstN (pa_cons pe_int (pa_cons pe_int (pa_cons (pv 1) pa_nil)))) pa_nil))) pa_nil)) (by rfl))
  (pss_cons (ps_for PassesOwn.never rfl (pi_range1 rfl T.range (pa_cons (pv 1) pa_nil)) (pg_name (i := 8) sc_law_some_ends.nd rfl (Or.inl rfl))
    (pss_one (ps_if (pt_cmpR op_gt (pv 4) pe_int (nomark _))
      (pss_cons (ps_set (i := 9) sc_law_some_ends.nd rfl (Or.inl rfl) (pe_op op_add pe_int (pe_callC C_law_draw hr (pa_cons (pv 0) (pa_cons (pe_callB (cr_min rfl) rfl T.min (by decide +kernel) (pa_cons (pe_lstN (pa_cons (pv 4) (pa_cons (pv 7) (pa_cons (pe_op op_shl pe_int (pv 6)) pa_nil)))) pa_nil)) pa_nil)))))
      (pss_cons (ps_asg (pe_callC C_law_unforked hr (pa_cons (pe_callC C_law_shape hr (pa_cons (pv 0) (pa_cons (pv 3) (pa_cons (pv 9) (pa_cons (pv 6) pa_nil))))) (pa_cons (pv 2) pa_nil))) (pg_tup rfl (pgs_cons (pg_name (i := 10) sc_law_some_ends.nd rfl (Or.inl rfl)) (pgs_cons (pg_name (i := 2) sc_law_some_ends.nd rfl (Or.inl rfl)) pgs_nil))))
      (pss_cons (ps_expr (pe_bm PySem.F.plainAttrs_list PySem.F.slot_list_append PySem.F.type_list_append mt_append (pv 5) (pa_cons (pv 10) pa_nil)))
      (pss_one (ps_set (i := 4) sc_law_some_ends.nd rfl (Or.inl rfl) (pe_op op_sub (pv 4) (pv 9)))))))
      pss_nil)))
  (pss_one (ps_ret (pv 5)))))), ?_⟩
  refine ⟨_, rfl, d, L, ns, n, 4, rfl, hp, by omega, by decide, by decide, fun na zs H1 z1 z2 z3 sz k1 p1 => ?_⟩
  refine ⟨_, rfl, _, rfl, d, L, ns, _, (most : Int), rfl, p1, by omega, by omega, by omega, fun r H2 r0 r1 k2 p2 => ⟨_, _, rfl, rfl, Nat.zero_le _, fun e ne => ⟨_, _, _, rfl, ?_⟩⟩⟩
  have sz2 := seqL_keep p1.isDk k2 sz
  have k12 := k1.trans k2
  have pe_ := p2.fresh (o := .lst []) (Keep.refl d H2) p2.cells p2.isDk ne
  have ke : Keep d H2 (upd H2 e (.lst [])) := Same.toKeep (same_new ne _)
  have ee : upd H2 e (.lst []) e = some (.lst []) := upd_same
  generalize upd H2 e (.lst []) = H3 at *
  refine ⟨_, rfl, le1k, fun l1 H4 s4 e4 => ⟨d, L, ns, _, .ref l1, rfl, pe_.same s4, by omega, .inl ⟨l1, _, rfl, SqL.of e4, by simp, le1k, fun x H5 hx k5 p5 => ?_⟩⟩⟩
  refine ⟨_, rfl, _, rfl, le1k, fun l2 H6 s6 e6 => ⟨d, L, ns, _, .ref l2, rfl, p5.same s6, by omega, .inl ⟨l2, _, rfl, SqL.of e6, by simp, le1k, fun y H7 hy k7 p7 => ⟨_, _, rfl, ?_⟩⟩⟩⟩
  have hnd : e ≠ d := by
    obtain ⟨kvs, ed⟩ := p2.isDk
    exact (ne_of_none ed ne).symm
  obtain ⟨tall, rfl, t0, t1⟩ : ∃ m : Nat, x = V.int m ∧ 1 ≤ m ∧ m ≤ 12 := by
    simp only [List.mem_cons, List.not_mem_nil, or_false] at hx
    rcases hx with rfl | rfl | rfl <;>
      first | exact ⟨1, rfl, by decide, by decide⟩ | exact ⟨3, rfl, by decide, by decide⟩ | exact ⟨12, rfl, by decide, by decide⟩
  obtain ⟨each, rfl, c0⟩ : ∃ m : Nat, y = V.int m ∧ 1 ≤ m := by
    simp only [List.mem_cons, List.not_mem_nil, or_false] at hy
    rcases hy with rfl | rfl | rfl
    · exact ⟨1, rfl, by decide⟩
    · exact ⟨4, rfl, by decide⟩
    · exact ⟨most, rfl, o1⟩
  have ka : Keep d H2 H7 := ((((ke.trans (Same.toKeep s4)).trans k5).trans (Same.toKeep s6)).trans k7)
  have e7 : H7 e = some (.lst []) := (((((Same.toKeep s4)).trans k5).trans (Same.toKeep s6)).trans k7) _ _ hnd ee
  obtain ⟨tot, htot⟩ : ∃ tot : Nat, (tot : Int) = 1 + r := ⟨(1 + r).toNat, by omega⟩
  refine ⟨_, rfl, (most : Int), rfl, by omega, by omega, ?_⟩
  refine for_range (lo := 0) (n := ((most : Int)).toNat) (fun i σ H' => Keep d H2 H' ∧ ∃ (us : List V) (ds : List PyData) (T : Nat) (b : Int) (x8 x9 x10 : Option V),
    σ = [some (.ref d), some (.int (most : Nat)), some (.int b), some (.ref na), some (.int ((tot : Int) - (T : Int))), some (.ref e), some (.int (tall : Nat)), some (.int (each : Nat)), x8, x9, x10] ∧
    0 ≤ b ∧ b ≤ 100 ∧ Pen K H' d L ns (n + 60 + 5 * T) ∧ H' e = some (.lst us) ∧ DpAll K H' us ds ∧ (ds.flatMap lvs).length = T ∧ ds.length ≤ T ∧ ds.all (isForm 12) = true ∧ T ≤ tot ∧ (1 ≤ i → 1 ≤ ds.length))
    ⟨ka, [], [], 0, br, none, none, none, by show _ = [_, _, _, _, some (V.int ((tot : Int) - 0)), _, _, _, _, _, _]; rw [htot, Int.sub_zero]; rfl, br0, br1, p7.mono (by omega), e7, .nil, rfl, Nat.le_refl _, rfl, Nat.zero_le _, fun z => absurd z (by decide)⟩
    (fun i σ H8 hi ⟨k8, us, ds, T, b, x8, x9, x10, eσ, b0, b1, p8, e8, d8, l8, n8, f8, t8, z8⟩ => ?_) (fun σ H8 ⟨k8, us, ds, T, b, x8, x9, x10, eσ, b0, b1, p8, e8, d8, l8, n8, f8, t8, z8⟩ => ?_)
  · subst eσ
    have sz8 := seqL_keep p2.isDk k8 sz2
    refine ⟨_, rfl, _, _, rfl, rfl, _, rfl, ?_⟩
    refine ite2 (fun c => ?_) (fun c => ?_)
    · have c' : (0 : Int) < (tot : Int) - (T : Int) := of_decide_eq_true c
      refine ⟨_, rfl, _, rfl, _, rfl, _, rfl, _, _, rfl, rfl, ⟨by omega, by omega, by decide⟩, ?_⟩
      refine ⟨le1k, fun l9 H9 s9 e9 => ⟨_, [(tot : Int) - (T : Int), (each : Int), 1 * 2 ^ (tall : Int).toNat], rfl, SqL.of e9, Nat.succ_pos _, fun m hm hle => ?_⟩⟩
      have m1 := hle ((tot : Int) - (T : Int)) (by simp)
      have m2 := hle (1 * 2 ^ (tall : Int).toNat) (by simp)
      have m0 : 1 ≤ m := by
        simp only [List.mem_cons, List.not_mem_nil, or_false] at hm
        rcases hm with rfl | rfl | rfl
        · omega
        · omega
        · have : 0 < (2 : Int) ^ (tall : Int).toNat := Int.pow_pos (by decide)
          omega
      refine ⟨d, L, ns, _, m, rfl, p8.same s9, by omega, by omega, by omega, fun r' H10 r0' r1' k10 p10 => ?_⟩
      have m3 : m ≤ 2 ^ tall := by
        have e2 : (tall : Int).toNat = tall := Int.toNat_natCast tall
        rw [e2] at m2
        omega
      obtain ⟨M, hM⟩ : ∃ M : Nat, 1 + r' = (M : Int) := ⟨(1 + r').toNat, by omega⟩
      have hM2 : M ≤ 2 ^ tall := by
        have : ((2 ^ tall : Nat) : Int) = 2 ^ tall := by push_cast; rfl
        omega
      have k810 : Keep d H8 H10 := (Same.toKeep s9).trans k10
      have sz10 := seqL_keep p8.isDk k810 sz8
      refine ⟨_, _, rfl, rfl, _, rfl, _, rfl, _, rfl, _, rfl, d, L, ns, _, na, zs, M, tall, by show [V.ref d, V.ref na, V.int (1 + r'), V.int (tall : Nat)] = _; rw [hM], by omega, p10, by omega, sz10, z2, by omega, z1, by omega, by omega, hM2, by omega, fun v D H11 dv fv lv k11 p11 => ?_⟩
      refine ⟨_, rfl, v, D, tall, b, rfl, by omega, dv, fv, b0, b1, fun H12 p u D' m' s12 q12 du fu lu m0' m1' => ?_⟩
      have k812 : Keep d H8 H12 := (k810.trans k11).trans (Same.toKeep s12)
      have e12 : H12 e = some (.lst us) := k812 _ _ hnd e8
      refine ⟨_, _, rfl, q12, rfl, ?_⟩
      have kt := keepT_lst (o := .lst (us ++ [u])) e12
      have lus : us.length ≤ 40 := by
        have := dpAll_len d8
        omega
      refine ⟨_, _, rfl, _, _, rfl, rfl, ?_⟩
      refine ⟨_, rfl, .inl ⟨rfl, us, SqL.of e12⟩, _, rfl, e, us, _, rfl, rfl, e12, small1000 (by omega), ?_⟩
      refine ⟨_, rfl, _, rfl, _, _, rfl, rfl, ?_⟩
      refine ⟨keep_fresh (k8.trans k812) ne, us ++ [u], ds ++ [D'], T + M, m', some (V.int (0 + (i : Int))), some (V.int (1 + r')), some u, ?_, m0', m1', ((p11.same s12).fresh (k8.trans k812) p2.cells p2.isDk ne).mono (by omega), upd_same, ?_, ?_, ?_, ?_, by omega, fun _ => by simp⟩
      · show [_, _, _, _, some (V.int ((tot : Int) - (T : Int) - (1 + r'))), _, _, _, _, _, _] = _
        have : (tot : Int) - (T : Int) - (1 + r') = (tot : Int) - ((T + M : Nat) : Int) := by omega
        rw [this]
      · refine dpAll_snoc (dp_n kt _ _ (noL_form fu) du) (dpAll_n kt _ _ ?_ (dpAll_keep p8.isDk k812 _ _ d8))
        have := noLs_map_in (f := fun x : PyData => x) ds (fun a ha => noL_form (List.all_eq_true.mp f8 a ha))
        rwa [List.map_id'] at this
      · rw [List.flatMap_append, List.length_append, l8]
        show T + ([D'].flatMap lvs).length = _
        rw [List.flatMap_cons, List.flatMap_nil, List.append_nil, lu, lv]
      · rw [List.length_append]
        show ds.length + 1 ≤ _
        omega
      · rw [List.all_append, f8]
        show (isForm 12 D' && true) = true
        rw [isForm_le fu (by omega)]
        rfl
    · have c' : ¬ (0 : Int) < (tot : Int) - (T : Int) := of_decide_eq_false (by simpa using c)
      refine ⟨k8, us, ds, T, b, _, x9, x10, rfl, b0, b1, p8, e8, d8, l8, n8, f8, t8, fun _ => ?_⟩
      have : T ≠ 0 := by omega
      by_cases dz : ds = []
      · subst dz
        exact absurd l8.symm this
      · exact List.length_pos_iff.mpr dz
  · subst eσ
    have hne : 1 ≤ ds.length := z8 (by omega)
    refine ⟨_, rfl, q e us ds H8 (k12.trans k8) (p8.mono (by omega)) e8 d8 ?_⟩
    show (decide _ && decide _ && _ && decide _) = true
    rw [f8, l8, decide_eq_true hne, decide_eq_true (show ds.length ≤ 40 by omega), decide_eq_true (show T ≤ 40 by omega)]
    rfl
end
end My

set_option Elab.async false
set_option linter.all false
set_option maxRecDepth 100000
namespace My
open PySem L2
/-- texts of rows of forms -/
inductive RwX : List FT → List Nat → Prop
  | one {t : FT} {cs : List Nat} : Tx t cs → RwX [t] cs
  | cons {t : FT} {ts : List FT} {cs R : List Nat} : TxR (44 :: R) t cs → RwX ts R → RwX (t :: ts) cs
def zComma : Str := Str.ofString ","
theorem comma_stops (t : List Nat) : Stops (44 :: t) := ⟨(by decide +kernel : isLD 44 = false), (by decide +kernel : oneOf zTilde 44 = false), (by decide +kernel : oneOf zSpace 44 = false)⟩
theorem comma_fork (t : List Nat) : seesLB (44 :: t) forkC = false := (by decide +kernel : decide (44 ∈ forkC) = false)
/-- what was written, form by form -/
def WrL (K : PySem.W.Frag) (CW : Addr) (H : Hp) (ts : List FT) (vs : List V) : Prop := Paired (fun v t => Wr K CW H t v) vs ts
abbrev stake_ends : Stmt := top 31
abbrev Ntake_ends : List Str := ["reader", "parts"]
abbrev Ptake_ends : List Str := ["reader"]
theorem sctake_ends : FnScope Ntake_ends Ptake_ends (defScope stake_ends) := ⟨rfl, rfl, rfl, by decide +kernel, rfl, by decide +kernel, by decide +kernel⟩
abbrev stold_ends : Stmt := top 33
abbrev Ntold_ends : List Str := ["parts", "forms", "part"]
abbrev Ptold_ends : List Str := ["parts"]
theorem sctold_ends : FnScope Ntold_ends Ptold_ends (defScope stold_ends) := ⟨rfl, rfl, rfl, by decide +kernel, rfl, by decide +kernel, by decide +kernel⟩
abbrev sends_text : Stmt := top 40
abbrev Nends_text : List Str := ["ends", "form"]
abbrev Pends_text : List Str := ["ends"]
theorem scends_text : FnScope Nends_text Pends_text (defScope sends_text) := ⟨rfl, rfl, rfl, by decide +kernel, rfl, by decide +kernel, by decide +kernel⟩
abbrev sread_ends : Stmt := top 41
abbrev Nread_ends : List Str := ["text", "reader", "parts"]
abbrev Pread_ends : List Str := ["text"]
theorem scread_ends : FnScope Nread_ends Pread_ends (defScope sread_ends) := ⟨rfl, rfl, rfl, by decide +kernel, rfl, by decide +kernel, by decide +kernel⟩
def spTakeEnds (K : PySem.W.Frag) (CR CW : Addr) : Sp := fun vs H Q _ => ∃ (p dx : Addr) (pre cs : List Nat) (ts : List FT), vs = [.ref p] ∧ H p = some (rO CR dx pre cs) ∧ RwX ts cs ∧ (pre ++ cs).length + 2 ≤ sizeLine ∧
  ∀ H' a vs', Keep p H H' → H' p = some (rO CR dx (pre ++ cs) []) → H' a = some (.lst vs') → WrL K CW H' ts vs' → Q (.ref a) H'
def lvsL (ts : List FT) : Nat := (ts.map FT.lvs).sum
def spToldEnds (K : PySem.W.Frag) (CW CD CM : Addr) : Sp := fun vs H Q E => ∃ (a : Addr) (us : List V) (ts : List FT), vs = [.ref a] ∧ SqL K H a us ∧ WrL K CW H ts us ∧ ts.length ≤ 1000 ∧
  ((∀ t ∈ ts, t.dep ≤ 12) → lvsL ts ≤ 40 → ∀ H' b xs, Same H H' → H' b = some (.lst xs) → H b = none → Paired (fun v t => Fm K H' t v) xs ts → Q (.ref b) H') ∧
  ((∃ t ∈ ts, 12 < t.dep) → badE CD "most" (.int 12) H E) ∧ ((∀ t ∈ ts, t.dep ≤ 12) → 40 < lvsL ts → badE CM "most" (.int 40) H E)
theorem TxR.len {R cs : List Nat} {t : FT} (h : TxR R t cs) : R.length ≤ cs.length := by
  obtain ⟨k, k2, txt, rest, fr, t, e, hh, ht, hfr, e2⟩ := h
  have hr : R.length ≤ rest.length := by
    rcases hfr with ⟨rfl, _⟩ | ⟨s, r, rfl⟩
    · cases ht
      exact Nat.le_refl _
    · cases ht with
      | lf _ _ c d hr ht =>
        cases ht
        simp only [List.length_append, List.length_cons, List.length_replicate]
        omega
  rw [e]
  simp only [List.length_append, List.length_replicate]
  omega
theorem RwX.len : ∀ {ts : List FT} {cs : List Nat}, RwX ts cs → ts.length ≤ cs.length + 1
  | _, _, .one _ => by simp
  | _, _, .cons (R := R) hT h => by
    have := RwX.len h
    have h1 := hT.len
    simp only [List.length_cons] at h1 ⊢
    omega
theorem WrL.gd {K : PySem.W.Frag} {CW : Addr} {H H' : Hp} (g : Gd CW H H') {ts : List FT} {vs : List V} (h : WrL K CW H ts vs) : WrL K CW H' ts vs := by
  unfold WrL at h ⊢
  induction h with
  | nil => exact .nil
  | cons h1 _ ih => exact .cons (h1.gd g) ih
section
variable {P : Program} {w : World} {K : PySem.W.Frag} {mg : Str → Option Value} {base : Heap} {f : Addr} {fd : FuncData} {CR CW fI : Addr}
theorem oktake_ends {R : RdTxt K CR} (M1 : Mth P w K mg base CR "sees" 1 NRd1 (spSees CR)) (M4 : Mth P w K mg base CR "take" 2 NRd1 (spTake CR)) (Ctake_form : Cal P w K mg base "take_form" 6 Ptake_form (spTakeForm K CR CW))
    (F : Fun K "take_ends" "take_ends" stake_ends f fd) : FnOk P w K mg base CX0 7 f fd Ptake_ends (spTakeEnds K CR CW) := by
  refine F.ok sctake_ends (fun vs H Q E h => ?_) (fun cdv A outer s H vs Q E hr h => ?_)
  · obtain ⟨p, dx, pre, cs, ts, rfl, _⟩ := h
    rfl
  obtain ⟨p, dx, pre, cs, ts, rfl, hp, ht, hl, q⟩ := h
  refine ⟨_, (pss_cons (ps_set (i := 1) sctake_ends.nd rfl (Or.inl rfl) (pe_lst (pa_cons (pe_callC Ctake_form hr (pa_cons (pv 0) pa_nil)) pa_nil)))
  (pss_cons (ps_while PassesOwn.never (pt_val (pe_methM M1 (pv 0) R.cl hr (pa_cons pe_str pa_nil)))
    (pss_cons (ps_expr (pe_methM M4 (pv 0) R.cl hr (pa_cons pe_str pa_nil)))
    (pss_one (ps_expr (pe_bm PySem.F.plainAttrs_list PySem.F.slot_list_append PySem.F.type_list_append mt_append (pv 1) (pa_cons (pe_callC Ctake_form hr (pa_cons (pv 0) pa_nil)) pa_nil))))))
  (pss_one (ps_ret (pv 1))))), ?_⟩
  obtain ⟨whole, hw⟩ : ∃ whole, whole = pre ++ cs := ⟨_, rfl⟩
  rw [← hw] at hl q
  -- one form, with R behind it
  have one : ∀ (H1 : Hp) (pre1 : List Nat) (cs1 : List Nat) (t : FT) (R1 : List Nat) (Q1 : VK), TxR R1 t cs1 → (R1 = [] ∨ ∃ r, R1 = 44 :: r) → H1 p = some (rO CR dx pre1 cs1) → whole = pre1 ++ cs1 →
      (∀ H' v pre', Keep p H1 H' → H' p = some (rO CR dx pre' R1) → pre' ++ R1 = whole → Wr K CW H' t v → Q1 v H') → spTakeForm K CR CW [V.ref p] H1 Q1 E0 := by
    intro H1 pre1 cs1 t R1 Q1 ⟨k, k2, txt, rest, fr, t0, e, hh, ht, hfr, e2⟩ hR1 h1 hw1 q1
    subst e
    subst e2
    have hs : Stops R1 ∧ seesLB R1 forkC = false := by
      rcases hR1 with rfl | ⟨r, rfl⟩
      · exact ⟨⟨rfl, rfl, rfl⟩, rfl⟩
      · exact ⟨comma_stops r, comma_fork r⟩
    exact ⟨p, dx, pre1, txt, rest, R1, k, k2, fr, t0, rfl, h1, hh, hs.1, hs.2, ht, hfr, by rw [← hw1]; exact hl, fun H' v pre' kp hp' e wv => q1 H' v pre' kp hp' (e.trans hw1.symm) wv⟩
  obtain ⟨t0, us0, R1, rfl, hT, hR1, hus⟩ : ∃ (t : FT) (us : List FT) (R1 : List Nat), ts = t :: us ∧ TxR R1 t cs ∧ (R1 = [] ∨ ∃ r, R1 = 44 :: r) ∧ ((us = [] ∧ R1 = []) ∨ ∃ r, R1 = 44 :: r ∧ RwX us r) := by
    cases ht with
    | one h => exact ⟨_, [], [], rfl, h, .inl rfl, .inl ⟨rfl, rfl⟩⟩
    | cons h h2 => exact ⟨_, _, _, rfl, h, .inr ⟨_, rfl⟩, .inr ⟨_, rfl, h2⟩⟩
  refine ⟨_, rfl, one H pre cs t0 R1 _ hT hR1 hp hw fun H1 v pre1 k1 h1 e1 w1 => ?_⟩
  refine ⟨(by show 1 ≤ sizeLine; decide), fun L nL => ?_⟩
  have nLp : L ≠ p := fun e => by rw [e, h1] at nL; cases nL
  have nLH : ∀ b o, H b = some o → b ≠ L := fun b o e z => by
    subst z
    rw [k1 b o nLp e] at nL
    cases nL
  have g1 : Gd CW H1 (upd H1 L (.lst [v])) := Gd.of_same (same_new nL _)
  refine ⟨fun m σ H' => ∃ (vs' : List V) (ts1 us : List FT) (pre' R' : List Nat), σ = [some (.ref p), some (.ref L)] ∧ Keep p H H' ∧ H' p = some (rO CR dx pre' R') ∧ pre' ++ R' = whole ∧ H' L = some (.lst vs') ∧ WrL K CW H' ts1 vs' ∧ t0 :: us0 = ts1 ++ us ∧ vs'.length ≤ pre'.length + 1 ∧ R'.length ≤ m ∧ ((us = [] ∧ R' = []) ∨ ∃ r, R' = 44 :: r ∧ RwX us r),
    ⟨_, [v], [t0], us0, pre1, R1, rfl, ?_, ?_, e1, upd_same, .cons (w1.gd g1) .nil, rfl, by simp, Nat.le_refl _, hus⟩, ?_⟩
  · intro b o n e
    rw [upd_ne (nLH b o e)]
    exact k1 b o n e
  · rw [upd_ne (Ne.symm nLp)]
    exact h1
  clear hus g1 w1 e1 h1 k1 v pre1 hR1 hT
  rintro m σ H' ⟨vs', ts1, us, pre', R', rfl, kp, hp', hw', hL, hwr, ets, hx, hm, hus⟩
  have hlw : pre'.length + R'.length + 2 ≤ sizeLine := by
    rw [← hw', List.length_append] at hl
    exact hl
  refine ⟨_, rfl, p, dx, _, rfl, hp', rF_no, p, dx, pre', R', zComma, rfl, hp', by omega, _, rfl, ?_⟩
  rcases hus with ⟨rfl, rfl⟩ | ⟨r, rfl, hrw⟩
  · rw [show seesB [] zComma = false from rfl]
    refine iteF ?_
    rw [List.append_nil] at ets hw'
    rw [ets] at q
    rw [hw'] at hp'
    exact ⟨_, rfl, q H' L vs' kp hp' hL hwr⟩
  · rw [show seesB (44 :: r) zComma = true from (by decide +kernel : oneOf zComma 44 = true)]
    refine iteT ⟨_, fun _ _ h => h, _, rfl, p, dx, _, rfl, hp', rF_no, p, dx, _, _, 44, zComma, rfl, hp', by decide +kernel, by simp only [List.length_cons] at hlw; omega, fun H2 m2 h2 => ?_⟩
    have g2 : Gd CW H' H2 := Gd.of_keep hp' m2.keep
    have hL2 : H2 L = some (.lst vs') := by rw [m2 L nLp]; exact hL
    obtain ⟨u, us', R2, rfl, hT2, hR2, hus2⟩ : ∃ (u : FT) (us' : List FT) (R2 : List Nat), us = u :: us' ∧ TxR R2 u r ∧ (R2 = [] ∨ ∃ r, R2 = 44 :: r) ∧ ((us' = [] ∧ R2 = []) ∨ ∃ r, R2 = 44 :: r ∧ RwX us' r) := by
      cases hrw with
      | one h => exact ⟨_, [], [], rfl, h, .inl rfl, .inl ⟨rfl, rfl⟩⟩
      | cons h h2 => exact ⟨_, _, _, rfl, h, .inr ⟨_, rfl⟩, .inr ⟨_, rfl, h2⟩⟩
    have hw2 : whole = (pre' ++ [44]) ++ r := by rw [← hw', List.append_assoc]; rfl
    refine ⟨_, rfl, .inl ⟨rfl, _, SqL.of hL2⟩, _, rfl, one H2 _ r u R2 _ hT2 hR2 h2 hw2 fun H3 v pre3 k3 h3 e3 w3 => ?_⟩
    have g3 : Gd CW H2 H3 := Gd.of_keep h2 k3
    have hL3 : H3 L = some (.lst vs') := k3 L _ nLp hL2
    have l2 := hT2.len
    have e3' : pre3.length + R2.length = pre'.length + 1 + r.length := by
      have := congrArg List.length e3
      rw [hw2] at this
      simp only [List.length_append, List.length_cons, List.length_nil] at this
      omega
    simp only [List.length_cons] at hm hlw
    refine ⟨L, _, _, rfl, rfl, hL3, by omega, ?_⟩
    refine ⟨r.length, by omega, vs' ++ [v], ts1 ++ [u], us', pre3, R2, rfl, ?_, ?_, e3, upd_same, ?_, ?_, ?_, l2, hus2⟩
    · intro b o n e
      rw [upd_ne (nLH b o e)]
      exact ((kp.trans m2.keep).trans k3) b o n e
    · rw [upd_ne (Ne.symm nLp)]
      exact h3
    · have g4 := Gd.of_lst (CW := CW) (ys := vs' ++ [v]) hL3
      exact paired_app (((hwr.gd g2).gd g3).gd g4) (.cons (w3.gd g4) .nil)
    · rw [ets, List.append_assoc]
      rfl
    · rw [List.length_append]
      show vs'.length + 1 ≤ _
      omega
end
end My

set_option Elab.async false
set_option linter.all false
set_option maxRecDepth 100000
namespace My
open PySem L2
def commaS : List Nat := [44, 32]
theorem join_ZS (a : List Nat) (ys : List (List Nat)) : Txt.join (Z a) (ys.map Z) = Z (TL.joinL a ys) := by
  have e := TL.tl_join (Z a) (ys.map Z)
  have m : (ys.map Z).map TL.tl = ys := by
    rw [List.map_map]
    exact List.map_id' _
  rw [m] at e
  exact TL.ext_tl ((congrArg TL.tl (TL.join_eq (Z a) (ys.map Z))).trans e)
def rowS (ts : List FT) : List Nat := TL.joinL commaS (ts.map (wrt false))
def rowN (ts : List FT) : Nat := (ts.map fun t => (wrt false t).length).sum + 2 * ts.length
theorem rowN_take (ts : List FT) {t : FT} (h : t ∈ ts) : (wrt false t).length ≤ rowN ts := by
  induction ts with
  | nil => cases h
  | cons x ts ih =>
    unfold rowN at ih ⊢
    simp only [List.map_cons, List.sum_cons, List.length_cons]
    rcases List.mem_cons.mp h with rfl | h
    · omega
    · have := ih h
      omega
theorem paired_len {α β : Type} {r : α → β → Prop} {xs : List α} {ys : List β} (h : Paired r xs ys) : xs.length = ys.length := by
  induction h with
  | nil => rfl
  | cons _ _ ih => rw [List.length_cons, List.length_cons, ih]
theorem paired_take {α β : Type} {r : α → β → Prop} : ∀ {xs : List α} {ys : List β} {i : Nat} {x : α}, Paired r xs ys → xs[i]? = some x → ∃ y, ys[i]? = some y ∧ r x y
  | _, _, i, x, .nil, e => by simp at e
  | _, _, 0, x, .cons h _, e => by
    simp at e
    subst e
    exact ⟨_, rfl, h⟩
  | _, _, i + 1, x, .cons _ h, e => by
    obtain ⟨y, h1, h2⟩ := paired_take (i := i) h (by simpa using e)
    exact ⟨y, by simpa using h1, h2⟩
def spEndsText (K : PySem.W.Frag) (CB : Addr) : Sp := fun vs H Q E => ∃ v, vs = [v] ∧
  ((∃ (a : Addr) (xs : List V) (ts : List FT), v = .ref a ∧ (SqL K H a xs ∨ SqT K H a xs) ∧ Paired (fun v t => Fm K H t v) xs ts ∧ 1 ≤ ts.length ∧ (∀ t ∈ ts, t.dep ≤ 12 ∧ t.Ok) ∧ lvsL ts ≤ 40 ∧ rowN ts + 100 ≤ sizeLine ∧ ∀ H', Same H H' → Q (.str (Z (rowS ts))) H') ∨
  (∃ D, Dp K H v D ∧ shortD D = true ∧ widD D = true ∧ isEnds D = false ∧ badV CB v H E) ∨ (isDict H v ∧ badV CB v H E))
def spReadEnds (K : PySem.W.Frag) (CB CD CM : Addr) : Sp := fun vs H Q E => ∃ v, vs = [v] ∧ ((∃ ts cs, v = .str (Z cs) ∧ RwX ts cs ∧ cs.length + 12 ≤ sizeLine ∧ ts.length ≤ 1000 ∧
    ((∀ t ∈ ts, t.dep ≤ 12) → lvsL ts ≤ 40 → ∀ H' b xs, Same H H' → H' b = some (.lst xs) → H b = none → Paired (fun v t => Fm K H' t v) xs ts → Q (.ref b) H') ∧
    ((∃ t ∈ ts, 12 < t.dep) → badE CD "most" (.int 12) H E) ∧ ((∀ t ∈ ts, t.dep ≤ 12) → 40 < lvsL ts → badE CM "most" (.int 40) H E)) ∨
  (∃ D, Dp K H v D ∧ isStrD D = false ∧ badE CB "value" v H E) ∨ (isDictV H v ∧ badE CB "value" v H E))
theorem joined_sum (f : FT → List Nat) : ∀ ts : List FT, (((ts.map f).map Z).map (·.length)).sum = (ts.map fun t => (f t).length).sum
  | [] => rfl
  | t :: ts => by
    simp only [List.map_cons, List.sum_cons]
    rw [joined_sum f ts, Z_len]
section
variable {P : Program} {w : World} {K : PySem.W.Frag} {mg : Str → Option Value} {base : Heap} {f : Addr} {fd : FuncData} {CR CW fI : Addr}
theorem okread_ends {CB CD CM : Addr} {R : RdTxt K CR} (R2 : RdTxt2 K mg CR fI) {fdI : FuncData} (GI : FnOk P w K mg base CX0 1 fI fdI NRd0 (spRd0 CR)) (bI : Binds K fdI NRd0 []) (Cct : CalX P w K mg base "check_text" 4 Ncheck_text (spCheckText K CB))
    (Ctf : Cal P w K mg base "take_ends" 7 Ptake_ends (spTakeEnds K CR CW)) (M3 : Mth P w K mg base CR "finish" 2 NRd2 (spFinish CR)) (Cto : CalX P w K mg base "told_ends" 5 Ptold_ends (spToldEnds K CW CD CM)) (F : Fun K "read_ends" "read_ends" sread_ends f fd) :
    FnOk P w K mg base (L2.CX P w) 8 f fd Pread_ends (spReadEnds K CB CD CM) := by
  refine F.okX scread_ends (fun vs H Q E h => ?_) (fun cdv A outer s H vs Q E hr h => ?_)
  · obtain ⟨v, rfl, _⟩ := h
    rfl
  obtain ⟨v, rfl, h⟩ := h
  refine ⟨_, (pss_cons (ps_expr (pe_callS Cct.ok (hr.mono (by decide)) rfl Cct.m Cct.kp Cct.b (fun σ => passAt (takes_of rfl rfl rfl rfl) σ) (pa_cons (pv 0) pa_nil)))
  (pss_cons (ps_set (i := 1) scread_ends.nd rfl (Or.inl rfl) (pe_make R2.made GI (hr.mono (by decide)) rfl R2.g bI .nil pass0 (pa_cons (pv 0) pa_nil)))
  (pss_cons (ps_set (i := 2) scread_ends.nd rfl (Or.inl rfl) (pe_callC Ctf hr (pa_cons (pv 1) pa_nil)))
  (pss_cons (ps_expr (pe_methM0 M3 (pv 1) R.cl hr))
  (pss_one (ps_ret (pe_callS Cto.ok (hr.mono (by decide)) rfl Cto.m Cto.kp Cto.b (fun σ => passAt (takes_of rfl rfl rfl rfl) σ) (pa_cons (pv 2) pa_nil)))))))), ?_⟩
  rcases h with ⟨ts, cs, rfl, hrw, hl, hn, q1, q2, q3⟩ | ⟨D, hv, hn, q⟩ | ⟨hd, q⟩
  · refine ⟨_, rfl, _, rfl, .inl ⟨.str _, .str _, fun _ => ?_, fun z => by cases z⟩⟩
    refine ⟨_, rfl, fun x dx nx nd ne => ⟨x, dx, _, rfl, upd_same, fun H1 m1 h1 => ⟨rfl, ?_⟩⟩⟩
    have s1 : Same H H1 := same_mv (same_make nx nd ne) nx m1
    refine ⟨_, rfl, x, dx, [], cs, ts, rfl, h1, hrw, by rw [List.nil_append]; omega, fun H2 a vs' k2 h2 ha w2 => ?_⟩
    have s2 : Same H H2 := fun b o e => k2 b o (ne_of_none e nx) (s1 b o e)
    refine ⟨_, rfl, x, dx, _, rfl, h2, rF_no, x, dx, _, rfl, h2, by rw [List.nil_append]; omega, ?_⟩
    refine ⟨_, rfl, a, vs', ts, rfl, SqL.of ha, w2, hn, fun c1 c2 H' b xs s3 hb nb hp => q1 c1 c2 H' b xs (s2.trans s3) hb (s2.free nb) hp, fun c => (q2 c).same s2, fun c1 c2 => (q3 c1 c2).same s2⟩
  · exact ⟨_, rfl, _, rfl, .inl ⟨D, hv, fun z => (by rw [hn] at z; cases z), fun _ => q⟩⟩
  · exact ⟨_, rfl, _, rfl, .inr ⟨hd, q⟩⟩
theorem okends_text {CB : Addr} (Cce : CalX P w K mg base "check_ends" 17 Pcheck_ends (spCheckEnds K CB)) (Cw : Cal P w K mg base "written" 27 Nis_leaf (spWritten K false 13)) (F : Fun K "ends_text" "ends_text" sends_text f fd)
    (hD : ∀ (ts : List FT), 1 ≤ ts.length → (∀ t ∈ ts, t.dep ≤ 12 ∧ t.Ok) → lvsL ts ≤ 40 → ∀ D, (D = .list (ts.map FT.data) ∨ D = .tuple (ts.map FT.data)) → isEnds D = true ∧ shortD D = true ∧ widD D = true ∧ ts.length ≤ 40) : FnOk P w K mg base (L2.CX P w) 30 f fd Pends_text (spEndsText K CB) := by
  refine F.okX scends_text (fun vs H Q E h => ?_) (fun cdv A outer s H vs Q E hr h => ?_)
  · obtain ⟨v, rfl, _⟩ := h
    rfl
  obtain ⟨v, rfl, h⟩ := h
  refine ⟨_, (pss_cons (ps_expr (pe_callS Cce.ok (hr.mono (by decide)) rfl Cce.m Cce.kp Cce.b (fun σ => passAt (takes_of rfl rfl rfl rfl) σ) (pa_cons (pv 0) pa_nil)))
  (pss_one (ps_ret (pe_join pe_str (pe_lc (own := [("form", 1)]) (g := (gName 1)) (te := tCall (spWritten K false 13) [] E0 (tCons (tVar 1) tNil)) rfl scends_text.nd (pi_orR (pi_list (pv 0)) (pi_tup (pv 0))) (blkOk_by (own := [("form", 1)]) (N := Nends_text) (sc := defScope sends_text) (by decide +kernel)) (fun _ _ _ _ _ => (pg_name (i := 1) scends_text.nd rfl (Or.inl rfl))) (fun _ _ _ _ _ => pts_nil) (fun _ _ _ _ _ => (pe_callC Cw hr (pa_cons (pv 1) pa_nil)))))))), ?_⟩
  rcases h with ⟨a, xs, ts, rfl, hs, hf, h1, hok, h40, hl, q⟩ | ⟨D, hv, e2, e3, e1, q⟩ | ⟨hd, q⟩
  · have dp : ∀ {xs : List V} {ts : List FT} {H : Hp}, Paired (fun v t => Fm K H t v) xs ts → DpAll K H xs (ts.map FT.data) := fun h => by
      induction h with
      | nil => exact .nil
      | cons h _ ih => exact .cons (FT.of_fm _ h) ih
    obtain ⟨D, hD1, hv⟩ : ∃ D, (D = .list (ts.map FT.data) ∨ D = .tuple (ts.map FT.data)) ∧ Dp K H (.ref a) D := by
      rcases hs with hs | hs
      · exact ⟨_, .inl rfl, .lst hs (dp hf)⟩
      · exact ⟨_, .inr rfl, .tup hs (dp hf)⟩
    obtain ⟨e1, e2, e3, l40⟩ := hD ts h1 hok h40 D hD1
    have hlen := paired_len hf
    refine ⟨_, rfl, _, rfl, .inl ⟨D, hv, e2, e3, fun _ H1 s1 => ?_, fun z => (by rw [e1] at z; cases z)⟩⟩
    have hf1 : Paired (fun v t => Fm K H1 t v) xs ts := paired_imp (fun _ _ h => (Same.kt s1).fm _ h) hf
    have sum_ok : (((ts.map (wrt false)).map Z).map (·.length)).sum + ((ts.map (wrt false)).map Z).length * (Str.ofString ", ").length ≤ 16777216 := by
      have : sizeLine ≤ 16777216 := by decide
      have e : (Str.ofString ", ").length = 2 := rfl
      unfold rowN at hl
      rw [joined_sum, e, List.length_map, List.length_map]
      omega
    have em : (ts.map fun t => V.str (Z (wrt false t))) = ((ts.map (wrt false)).map Z).map V.str := by rw [List.map_map, List.map_map]; rfl
    have fin : ∀ (H3 : Hp) (B : Addr), Same H1 H3 → H3 B = some (.lst (ts.map fun t => V.str (Z (wrt false t)))) → ∃ a p, ∃ ys : List Str, V.str (Str.ofString ", ") = .str a ∧ [V.ref B] = [.ref p] ∧ (SqL K H3 p (ys.map V.str) ∨ SqT K H3 p (ys.map V.str)) ∧ (ys.map (·.length)).sum + ys.length * a.length ≤ 16777216 ∧ Q (.str (Txt.join a ys)) H3 := fun H3 B s3 eD => by
      rw [em] at eD
      refine ⟨_, B, (ts.map (wrt false)).map Z, rfl, rfl, .inl (SqL.of eD), sum_ok, ?_⟩
      rw [show Str.ofString ", " = Z commaS from rfl, join_ZS]
      exact q H3 (s1.trans s3)
    rcases hs with hs | hs
    · refine ⟨⟨_, rfl⟩, .inl ⟨_, rfl, a, rfl, ⟨xs, s1.seq hs⟩, fun B nB => ?_⟩⟩
      refine lc_it (walk_list (xs := xs)) (fun i H' => Same H1 H' ∧ H' B = some (.lst ((ts.take i).map fun t => V.str (Z (wrt false t))))) ⟨same_new nB _, upd_same⟩ (fun i H' _ p => (s1.trans p.1).seq hs) (fun i y H3 H4 hi p yy => ?_) (fun H3 p => ?_)
      · obtain ⟨rfl, hy⟩ := yy
        obtain ⟨s3, eD⟩ := p
        obtain ⟨t, ht, hyt⟩ := paired_take hf1 hy
        have tm : t ∈ ts := List.mem_of_getElem? ht
        have tl := rowN_take ts tm
        refine ⟨rfl, y, rfl, y, t, rfl, (Same.kt s3).fm t hyt, by have := (hok t tm).1; omega, by omega, _, eD, small1000 (by rw [List.length_map, List.length_take]; omega), same_at s3 nB, ?_⟩
        rw [upd_same, take_next ht, List.map_append]
        rfl
      · obtain ⟨s3, eD⟩ := p
        rw [List.take_of_length_le (by omega)] at eD
        exact fin H3 B s3 eD
    · refine ⟨⟨_, rfl⟩, .inr ⟨_, rfl, a, rfl, ⟨xs, (Same.kt s1).seq hs⟩, fun B nB => ?_⟩⟩
      refine lc_it (walk_tup (xs := xs)) (fun i H' => Same H1 H' ∧ H' B = some (.lst ((ts.take i).map fun t => V.str (Z (wrt false t))))) ⟨same_new nB _, upd_same⟩ (fun i H' _ p => (Same.kt (s1.trans p.1)).seq hs) (fun i y H3 H4 hi p yy => ?_) (fun H3 p => ?_)
      · obtain ⟨rfl, hy⟩ := yy
        obtain ⟨s3, eD⟩ := p
        obtain ⟨t, ht, hyt⟩ := paired_take hf1 hy
        have tm : t ∈ ts := List.mem_of_getElem? ht
        have tl := rowN_take ts tm
        refine ⟨rfl, y, rfl, y, t, rfl, (Same.kt s3).fm t hyt, by have := (hok t tm).1; omega, by omega, _, eD, small1000 (by rw [List.length_map, List.length_take]; omega), same_at s3 nB, ?_⟩
        rw [upd_same, take_next ht, List.map_append]
        rfl
      · obtain ⟨s3, eD⟩ := p
        rw [List.take_of_length_le (by omega)] at eD
        exact fin H3 B s3 eD
  · exact ⟨_, rfl, _, rfl, .inl ⟨D, hv, e2, e3, fun z => (by rw [e1] at z; cases z), fun _ => q⟩⟩
  · exact ⟨_, rfl, _, rfl, .inr ⟨hd, q⟩⟩
end
end My

set_option Elab.async false
set_option linter.all false
set_option maxRecDepth 100000
/-! LcX: a list comprehension whose element is a call that may raise. -/
namespace LcX
open PySem PySem.Spec PyProof.Rows L2
/-- what is wished behind the block: as compPost, but the env that passes an exception on has the frame fr -/
def after (M : Model) (A : Around) (E : Value → Shared → Prop) (use : Option (Value → Sem Unit)) (Q : Value → Shared → Prop) (acc : Value) (C : Addr) (fr : Option Addr) : Result → Shared → Prop
  | .ok r, t => compPost M A E use Q acc C (.ok r) t
  | .error x, t => ∃ m, t.heap.Ns C m ∧ ∀ h2, Heap.SameBut C t.heap h2 → ∀ ce : Env, ce.locals = C → ce.frame = fr → wpAny M A (passOn "comprehension.variables-let-go" x ce : Sem Value) (fun _ _ => False) E { t with heap := h2 }
theorem comp_run {M : Model} {A : Around} {E : Value → Shared → Prop} {env : Env} {s : Shared} {e : Expr} {scope : Scope} {pos : Pos} {mk src : Sem Value} {c0 : Comprehension} {cs : List Comprehension} {cl : List (Str × Addr)} {use : Option (Value → Sem Unit)} {Q : Value → Shared → Prop}
    (k1 : clausesOf e = c0 :: cs) (k2 : ∀ x, foldedSetIterable c0.iter env x = pure x) (k3 : closureFor scope env = pure cl) (k4 : scope.kind = .function) (k5 : ∀ x ∈ scope.names, x.2 = .local → scope.names.lookup x.1 = some .local)
    (go : wpAny M A src (fun x t1 => wpAny M A (pyIter x) (fun it t2 => wpAny M A mk (fun acc t3 => wpAny M A (newFunctionEnv scope env.globals cl [] env.qual none .none (some env)) (fun ce t4 =>
      ce.frame = env.frame ∧ codeAny M A (.compStart e 0 it acc { ce with scope := relabel scope env }) (after M A E use Q acc ce.locals env.frame) t4) E t3) E t2) E t1) E s) :
    wpAny M A (comprehension e scope env pos mk false src use) Q E s := by
  unfold comprehension
  rw [k3, k1]
  refine wpAny_bind (wpAny_mono go (fun x t1 g1 => ?_) fun _ _ y => y)
  refine wpAny_bind (wpAny_standAt (wpAny_bind (wpAny_of_eq (k2 x) (wpAny_bind (wpAny_holding (wpAny_mono g1 (fun it t2 g2 => ?_) fun _ _ y => y))))))
  refine wpAny_standIf (wpAny_bind (wpAny_mono g2 (fun acc t3 g3 => ?_) fun _ _ y => y))
  refine wpAny_bind (wpAny_pure (wpAny_bind (wpAny_mono g3 (fun ce t4 g4 => ?_) fun _ _ y => y)))
  obtain ⟨hfr, g4⟩ := g4
  dsimp only
  have loc1 : ∀ z ∈ (scope.names.filter fun x => (x.2 == .local || x.2 == .cell) && x.1 != (".0" : Str)).reverse, z.2 = .local → Env.kindOf { ce with scope := relabel scope env } z.1 = some .local := by
    intro z hz hl
    exact lookup_relabel_local (k5 z (List.mem_filter.mp (List.mem_reverse.mp hz)).1 hl)
  refine wpAny_holding (wpAny_bind (wpAny_attempt (wpAny_holding (wpAny_run (codeAny_mono g4 fun r t hr => ?_)))))
  match r with
  | .ok f =>
    match use with
    | none =>
      obtain ⟨m, hn, hr⟩ := hr
      exact wpAny_bind (wpAny_holding (wpAny_comp_letGo (cenv := { ce with scope := relabel scope env }) k4 _ t m loc1 hn fun h2 m2 _ sb => wpAny_pure (hr h2 sb)))
    | some u =>
      have loc2 : ∀ z ∈ (scope.names.filter fun x => (x.2 == .local || x.2 == .cell) && x.1 != (".0" : Str)).reverse.drop 1 ++ (scope.names.filter fun x => (x.2 == .local || x.2 == .cell) && x.1 != (".0" : Str)).reverse.take 1,
          z.2 = .local → Env.kindOf { ce with scope := relabel scope env } z.1 = some .local := by
        intro z hz hl
        rcases List.mem_append.mp hz with a | a
        · exact loc1 z (List.mem_of_mem_drop a) hl
        · exact loc1 z (List.mem_of_mem_take a) hl
      refine wpAny_bind (wpAny_rule (wpAny_bind (wpAny_holding (wpAny_mono hr (fun _ t5 g5 => ?_) fun _ _ y => y))))
      obtain ⟨m, hn, g5⟩ := g5
      exact wpAny_bind (wpAny_comp_letGo (cenv := { ce with scope := relabel scope env }) k4 _ t5 m loc2 hn fun h2 m2 _ sb => wpAny_pure (g5 h2 sb))
  | .error x =>
    obtain ⟨m, hn, hr⟩ := hr
    exact wpAny_bind (wpAny_holding (wpAny_comp_letGo (cenv := { ce with scope := relabel scope env }) k4 _ t m loc1 hn fun h2 m2 _ sb => wpAny_mono (hr h2 sb { ce with scope := relabel scope env } rfl hfr) (fun _ _ z => z.elim) fun _ _ y => y))
theorem frames_at {h h2 G B : Heap} : ∀ {l : List Env}, h.FunFrames G l → (∀ b ∈ frs l, B.get? b = none ∧ ∀ o, h.get? b = some o → (∀ vs, o.data ≠ .fields vs) → ∃ sl, h2.get? b = some { o with slots := sl }) → h2.FunFrames B l
  | [], _, _ => trivial
  | env :: l, q, k => by
    obtain ⟨k1, ⟨L, o, k2, k3, k4, k5⟩, k6⟩ := q
    obtain ⟨z1, z2⟩ := k L (List.mem_filterMap.mpr ⟨env, List.mem_cons_self, k2⟩)
    obtain ⟨sl, z3⟩ := z2 o k4 k5
    refine ⟨k1, ⟨L, _, k2, z1, z3, k5⟩, frames_at k6 fun b hb => ?_⟩
    obtain ⟨e, he, q⟩ := List.mem_filterMap.mp hb
    exact k b (List.mem_filterMap.mpr ⟨e, List.mem_cons_of_mem _ he, q⟩)
section
variable {X : Cx} {pins : List (Addr × Obj)} {σ : L2.St} {H H' : Hp} {s s' : Shared} {B : Heap} {W : WX} {a : Addr} {cls : Value} {d : Option Addr}
/-- noted by our frame, after a call: in our air -/
theorem air (I : Inv X pins σ H s) (fl : HandSPX.HeldZ B X.stack a (Zc cls d) X.env.locals s'.heap) (hok : HOk X.prog X.w H' B) (ub : UB (frs X.stack) H H' s.heap B s'.heap) (na : H' a = none) (os : s'.os = s.os) (ag : AllBare s'.gens) (w : W cls d σ H') :
    XE X W (.ref a) s' := by
  have st : B.StaysIn s'.heap := fl.1
  obtain ⟨G, g1, g2⟩ := restrict s'.heap fun b => (B.get? b).isSome || decide (b ∈ frs X.stack)
  have in1 : ∀ b o, B.get? b = some o → G.get? b = some o := by
    intro b o e
    rw [g1 b (by rw [e]; rfl)]
    exact st b o e
  have in2 : ∀ b, b ∈ frs X.stack → G.get? b = s'.heap.get? b := by
    intro b hb
    exact g1 b (by rw [decide_eq_true hb, Bool.or_true])
  have out : ∀ b o, G.get? b = some o → s'.heap.get? b = some o ∧ (b ∉ frs X.stack → B.get? b = some o) := by
    intro b o e
    by_cases q : ((B.get? b).isSome || decide (b ∈ frs X.stack)) = true
    · have e2 := e
      rw [g1 b q] at e2
      refine ⟨e2, fun hb => ?_⟩
      rw [decide_eq_false hb, Bool.or_false] at q
      obtain ⟨o2, q⟩ := Option.isSome_iff_exists.mp q
      have z := st b o2 q
      rw [e2] at z
      cases z
      exact q
    · rw [g2 b (Bool.eq_false_iff.mpr q)] at e
      cases e
  refine ⟨a, B, { s with heap := G, gens := s'.gens, drawn := s'.drawn, toks := s'.toks }, pins, σ, H', cls, d, rfl, ?_, fun b o e => (out b o e).2, Heap.UpToSlots.of_keeps fun b o e => (out b o e).1, .inr (.inr fl), na, os, ag, w⟩
  refine I.call (ch := []) ⟨fun b o e n hb _ => in1 b o (ub.keep b o e n hb), ?_, fun b o e n _ => ub.free b o e n, ?_, ub.tups, ub.frzs, ub.tbls⟩ (hok.kept in1) ag (fun _ z => nomatch z)
  · intro b o e _ hb _
    obtain ⟨sl, q⟩ := ub.slot b o e hb
    exact ⟨sl, (in2 b hb).trans q⟩
  · intro b o e _
    by_cases hb : b ∈ frs X.stack
    · obtain ⟨sl, q⟩ := ub.slot b o e hb
      exact ⟨_, (in2 b hb).trans q⟩
    · obtain ⟨o2, q⟩ := ub.there b o e hb
      exact ⟨o2, in1 b o2 q⟩
/-- a call in the block raises: noted, the block's names let go, passed on -/
theorem out_of {E : XK} {C : Addr} {m : Str → Option Value} {ce : Env} {use : Option (Value → Sem Unit)} {Q : Value → Shared → Prop} {acc u : Value} (tk : Takes X (fun cls d _ H => E cls d H)) (hs : X.stack = X.env :: X.outer) (hf : X.env.frame = some X.env.locals)
    (I : Inv X pins σ H s) (fC : FpOk X pins H C) (hn : s.heap.Ns C m) (hce : ce.frame = X.env.frame) (c : CX X.prog X.w X.stack H s E u s') :
    notedBy (model X.prog X.w) X.A ce (fun e t => after (model X.prog X.w) X.A X.xe use Q acc C X.env.frame (.error e) t) u s' := by
  obtain ⟨a, B, H', cls, d, rfl, fl, hok, ub, na, os, ag, hE⟩ := c
  have hfr : X.A.frames = some (X.env :: X.outer) := by rw [I.ok.frames, hs]
  have nCf : C ∉ frs X.stack := fun z => by
    rcases List.mem_cons.mp (I.stkSub C z) with z | z
    · exact fC.2.1 z
    · exact fC.2.2.1 z
  obtain ⟨oC, esC, epC, hC, hdC, _⟩ := id hn
  have BC : B.get? C = some oC := ub.keep C oC hC fC.1 nCf
  have H'C : H' C = none := ub.free C oC hC fC.1
  have same : noteFrame (.ref a) ce = noteFrame (.ref a) X.env := by
    unfold noteFrame PySem.frameOf
    rw [hce]
  show wpAny _ X.A (noteFrame (.ref a) ce) _ _ s'
  rw [same]
  rw [hs] at fl
  refine HandSPX.looks_onZ Zc.steady hfr hf fl fun h6 held up6 => ?_
  obtain ⟨st6, nBa, ff6, tr6⟩ := held
  refine ⟨m, ?_, fun h7 sb ce2 _ fr2 => ?_⟩
  · exact hn.at fun o e => by
      rw [hC] at e
      cases e
      exact st6 C oC BC
  -- the ground without the block's names
  obtain ⟨B7, b1, b2⟩ := restrict B fun b => decide (b ≠ C)
  obtain ⟨G, g1, g2⟩ := restrict s.heap fun b => decide (b ≠ C)
  have bo : ∀ b, b ≠ C → B7.get? b = B.get? b := fun b n => b1 b (decide_eq_true n)
  have bC : B7.get? C = none := b2 C (decide_eq_false fun n => n rfl)
  have go : ∀ b, b ≠ C → G.get? b = s.heap.get? b := fun b n => g1 b (decide_eq_true n)
  have gC : G.get? C = none := g2 C (decide_eq_false fun n => n rfl)
  have gin : ∀ b o, G.get? b = some o → b ≠ C ∧ s.heap.get? b = some o := fun b o e => by
    have n : b ≠ C := fun z => by rw [z, gC] at e; cases e
    rw [go b n] at e
    exact ⟨n, e⟩
  have st7 : B7.StaysIn h7 := fun b o e => by
    have n : b ≠ C := fun z => by rw [z, bC] at e; cases e
    rw [bo b n] at e
    exact (sb.2 b n).trans (st6 b o e)
  obtain ⟨oe, vs, T, oT, ts, t1, t2, t3, t4, t5, t6, t7, t8, t9⟩ := tr6
  have nFC : ∀ b o vs, h6.get? b = some o → o.data = .fields vs → b ≠ C := fun b o vs e ed z => by
    rw [z, st6 C oC BC] at e
    cases e
    rw [hdC] at ed
    cases ed
  have naC := nFC a oe vs t1 t3
  have nTC := nFC T oT ts t7 t8
  have ffs : ∀ b ∈ frs X.stack, B.get? b = none ∧ ∃ o, h6.get? b = some o ∧ ∀ vs, o.data ≠ .fields vs := fun b hb => ff6.mem (by rw [hs] at hb; exact hb)
  have held7 : HandSPX.HeldZ B7 X.stack a (Zc cls d) X.env.locals h7 := by
    refine ⟨st7, (bo a naC).trans nBa, ?_, oe, vs, T, oT, ts, (sb.2 a naC).trans t1, t2, t3, t4, (bo T nTC).trans t5, t6, (sb.2 T nTC).trans t7, t8, t9⟩
    rw [← hs] at ff6
    refine frames_at ff6 fun b hb => ?_
    have n : b ≠ C := fun z => nCf (by rw [← z]; exact hb)
    exact ⟨(bo b n).trans (ffs b hb).1, fun o e _ => ⟨o.slots, (sb.2 b n).trans e⟩⟩
  show wpAny _ X.A (PySem.passOn "comprehension.variables-let-go" (.ref a) ce2 : Sem Value) (fun _ _ => False) X.xe { s' with heap := h7 }
  unfold PySem.passOn
  refine wpAny_bind (wpAny_field ((sb.2 a naC).trans t1) t3 t4 ?_)
  rw [if_neg (show ¬ ((Value.ref T == Value.none) = true) from by simp)]
  rw [fr2, hf]
  refine wpAny_bind (HandSPX.setFlight_onZ held7 fun h8 held8 up8 => wpAny_throw (tk _ _ ?_))
  -- the state without them
  have I0 : Inv X pins σ H { s with heap := G, toks := s.toks } := I.turned (fun b o n e => (go b n).trans e) fC.1 fC.2.1 fC.2.2.2.1 fC.2.2.2.2.1 fC.2.2.2.2.2
  have up68 : ∀ b o, b ≠ C → h6.get? b = some o → (∀ vs, o.data ≠ .fields vs) → ∃ sl, h8.get? b = some { o with slots := sl } := fun b o n e nf => up8 b o ((sb.2 b n).trans e) nf
  refine air (W := fun cls d _ H => E cls d H) I0 held8 ?_ ⟨fun b o e n hb => ?_, fun b o e hb => ?_, fun b o e n => ub.free b o (gin b o e).2 n, fun b o e hb => ?_, ub.tups, ub.frzs, ub.tbls⟩ na os ag hE
  · intro b o q
    refine (hok b o q).stay (fun c u hc r => ?_) (fun _ r => r) fun _ _ r => r
    refine (bo c fun z => ?_).trans r
    subst z
    rcases hc with hc | hc
    · rw [← hc, H'C] at q
      cases q
    · rw [H'C] at hc
      cases hc
  · obtain ⟨nC, e⟩ := gin b o e
    exact (bo b nC).trans (ub.keep b o e n hb)
  · obtain ⟨nC, e⟩ := gin b o e
    obtain ⟨sl, e2⟩ := ub.slot b o e hb
    obtain ⟨_, o6, e6, nf6⟩ := ffs b hb
    have nf : ∀ vs, ({ o with slots := sl } : Obj).data ≠ .fields vs := by
      obtain ⟨_, o1, e1, nf1⟩ := I.stack.mem hb
      rw [e] at e1
      cases e1
      exact nf1
    obtain ⟨sl2, e3⟩ := up6 b _ e2 nf
    obtain ⟨sl3, e4⟩ := up68 b _ nC e3 nf
    exact ⟨sl3, e4⟩
  · obtain ⟨nC, e⟩ := gin b o e
    obtain ⟨o2, e2⟩ := ub.there b o e hb
    exact ⟨o2, (bo b nC).trans e2⟩
end
/-- the block's context, with a wish about exceptions -/
abbrev blkE (X : Cx) (s : Shared) (H : Hp) (scope : Scope) (ce : Env) (fp : List Addr) (xe : Value → Shared → Prop) : Cx := { X.blk s H scope ce fp with xe := xe }
section
variable {X : Cx} {pins : List (Addr × Obj)} {σ : L2.St} {H : Hp} {s : Shared} {scope : Scope} {ce : Env} {fp : List Addr} {xe : Value → Shared → Prop}
theorem toE {t : Shared} {τ : L2.St} {G : Hp} (I : Inv (X.blk s H scope ce fp) pins τ G t) : Inv (blkE X s H scope ce fp xe) pins τ G t :=
  ⟨⟨I.ok.mod, I.ok.kind, I.ok.glob, I.ok.blt, I.ok.above, I.ok.inj, I.ok.has, I.ok.cab, I.ok.hd, I.ok.frames, I.ok.stk, I.ok.exf, I.ok.bs, I.ok.bsz, I.ok.noex, I.ok.exfs, I.ok.funs, I.ok.frf⟩, I.os, I.bare, I.base, I.loc, I.cell, I.free, I.freeC, I.pin, I.hok, I.len⟩
theorem ofE {t : Shared} {τ : L2.St} {G : Hp} (I : Inv (blkE X s H scope ce fp xe) pins τ G t) : Inv (X.blk s H scope ce fp) pins τ G t :=
  ⟨⟨I.ok.mod, I.ok.kind, I.ok.glob, I.ok.blt, I.ok.above, I.ok.inj, I.ok.has, I.ok.cab, I.ok.hd, I.ok.frames, I.ok.stk, I.ok.exf, I.ok.bs, I.ok.bsz, I.ok.noex, I.ok.exfs, I.ok.funs, I.ok.frf⟩, I.os, I.bare, I.base, I.loc, I.cell, I.free, I.freeC, I.pin, I.hok, I.len⟩
end
section
variable {X : Cx} {E : XK}
/-- what a call in the block may raise -/
def Rz (X : Cx) (E : XK) (s : Shared) (H : Hp) (scope : Scope) (ce : Env) (fp : List Addr) (u : Value) (t : Shared) : Prop :=
  ∃ (pins : List (Addr × Obj)) (σ : L2.St) (G : Hp) (r : Shared), Inv (X.blk s H scope ce fp) pins σ G r ∧ CX X.prog X.w X.stack G r E u t
theorem Rz.passes {s : Shared} {H : Hp} {scope : Scope} {ce : Env} {fp : List Addr} (σ : L2.St) : PassesAt (L2.CX X.prog X.w) (blkE X s H scope ce fp (Rz X E s H scope ce fp)) σ E :=
  fun pins G r _ _ I c => ⟨pins, σ, G, r, ofE I, c⟩
/-- name = [element for target in source], the element may raise E -/
theorem ps_setLcX {i : Nat} {y : Str} {py : Pos} {elt tg iter : Expr} {scope : Scope} {own : List (Str × Nat)} {pos spos : Pos} {wi : TI} {g : TG} {te : TE} (tk : Takes X (fun cls d _ H => E cls d H)) (hst : X.stack = X.env :: X.outer) (hfm : X.env.frame = some X.env.locals)
    (hc : X.calm = true) (hN : X.N.Nodup) (hy : X.N[i]? = some y) (hyl : X.env.scope.names.lookup y = some .local) (hsw : swapsWith (.ListComp elt [⟨tg, iter, [], 0⟩] scope pos) (some (.Name y py)) spos.line X.env = pure true)
    (hi : PI X tg iter wi) (ok : BlkOk X.N X.env.scope scope own)
    (hg : ∀ (s : Shared) (H : Hp) (C : Addr) (cl : List (Str × Addr)) (fp : List Addr) (xe : Value → Shared → Prop), PG (blkE X s H scope (compEnvC scope cl C X.env) fp xe) tg g)
    (he : ∀ (s : Shared) (H : Hp) (C : Addr) (cl : List (Str × Addr)) (fp : List Addr) (xe : Value → Shared → Prop), (∀ σ, PassesAt (L2.CX X.prog X.w) (blkE X s H scope (compEnvC scope cl C X.env) fp xe) σ E) → PE (blkE X s H scope (compEnvC scope cl C X.env) fp xe) elt te)
    (hs : ∀ x, foldedSetIterable iter X.env x = pure x := by intro _; rfl) :
    PS X (.Assign [.Name y py] (.ListComp elt [⟨tg, iter, [], 0⟩] scope pos) spos) (tAsg (tLc wi g tYes te (own.map (·.2))) (gName i)) := by
  refine ⟨fun pins s σ H D I h => ?_⟩
  rw [exec_Assign_Name_used _ _ _ _ hsw]
  refine wpAny_bind (wpAny_standAt (wpAny_bind ?_))
  show wpAny _ X.A (do let _ ← comprehension (.ListComp elt [⟨tg, iter, [], 0⟩] scope pos) scope X.env (firstIterPos [⟨tg, iter, [], 0⟩] pos) (newList []) false (eval iter X.env) (some (assign (.Name y py) X.env))) _ _ s
  have h : tLc wi g tYes te (own.map (·.2)) σ H (fun x H1 => gName i x σ H1 D.nx) := h
  have clo : ∀ z ∈ scope.names, z.2 = .free → ∃ c, X.env.cells.lookup z.1 = some c := fun z hz e => (ok.free z hz e).elim (fun k => I.ok.has _ (.inl k)) fun k => I.ok.has _ (.inr k)
  refine wpAny_bind (wpAny_mono (Q := fun _ t => SP X pins D .next t) ?_ (fun _ t q => wpAny_pure (wpAny_pure q)) fun _ _ z => z)
  refine comp_run rfl hs (closure_ok clo) ok.kind (fun z hz e => by rw [ok.uniq z hz, e]) ?_
  refine thn (hi.run pins s σ H _ I h) fun xv s1 hx => ?_
  refine thn hx fun itv s2 h2 => ?_
  obtain ⟨it, fp, tn, J, H2, rfl, I2, T, st2, f2, q⟩ := h2
  refine wpAny_newObj_type (newEnv_comp ⟨rfl, ?_⟩) (by show 0 ≤ sizeLine; decide)
  generalize hD : s2.heap.objs.size = L
  have nL : H2 L = none := I2.hok.fresh (Nat.le_of_eq hD)
  obtain ⟨W, ⟨m0, w0⟩, turn⟩ := q L nL
  generalize hs3 : ({ s2 with heap := s2.heap.push { cls := .type "list", data := .seq ([] : List Value).toArray } } : Shared) = s3
  have h3 : s3.heap = s2.heap.push { cls := .type "list", data := .seq ([] : List Value).toArray } := by rw [← hs3]
  have I3 : Inv X pins σ (upd H2 L (.lst [])) s3 := by
    rw [← hs3]
    refine I2.laid (t' := s2.toks) (fun b o e => Heap.get?_push_of_some _ e) (Nat.le_of_eq hD) ⟨Nat.zero_le _, [], 0, .nil, ?_⟩
    rw [← hD]
    exact Heap.get?_push_size _ rfl
  have f3 : ∀ b ∈ fp, FpOk X pins (upd H2 L (.lst [])) b ∧ b < s3.heap.objs.size := by
    intro b hb
    obtain ⟨o, e, _⟩ := T.obj _ _ st2 b hb
    have lt := Heap.lt_size e
    refine ⟨⟨?_, (f2 b hb).2⟩, by rw [h3, Heap.size_push]; exact Nat.lt_succ_of_lt lt⟩
    rw [upd_ne (by rw [← hD]; exact Nat.ne_of_lt lt)]
    exact (f2 b hb).1
  have st3 : tn 0 s3.heap := T.keep _ _ _ st2 fun b _ o e => by
    rw [h3]
    exact Heap.get?_push_of_some _ e
  have I4 := block_start I3 ok hN f3
  show codeAny _ _ (.compStart (.ListComp elt [⟨tg, iter, [], 0⟩] scope pos) 0 (.ref it) (.ref L) (compEnvC scope (cellsFrom (s3.heap.objs.size + 1) scope.names (cloFrom X.env.cells scope.names [])) s3.heap.objs.size X.env))
    (after (model X.prog X.w) X.A X.xe (some (assign (.Name y py) X.env)) (fun _ t => SP X pins D .next t) (.ref L) s3.heap.objs.size X.env.frame) { s3 with heap := pushCells (s3.heap.push { cls := .type "dict", data := .dict #[] }) scope.names }
  have nfp : ∀ b ∈ fp, (upd H2 L (.lst [])) b = none := fun b hb => (f3 b hb).1.1
  generalize hce : compEnvC scope (cellsFrom (s3.heap.objs.size + 1) scope.names (cloFrom X.env.cells scope.names [])) s3.heap.objs.size X.env = ce at I4 ⊢
  have cL : ce.locals = s3.heap.objs.size := by rw [← hce]; rfl
  have cF : ce.frame = X.env.frame := by rw [← hce]; rfl
  generalize hH3 : upd H2 L (.lst []) = H3 at I3 I4 w0 nfp f3
  have pg := hg s3 H3 s3.heap.objs.size (cellsFrom (s3.heap.objs.size + 1) scope.names (cloFrom X.env.cells scope.names [])) fp (Rz X E s3 H3 scope ce fp)
  have pe := he s3 H3 s3.heap.objs.size (cellsFrom (s3.heap.objs.size + 1) scope.names (cloFrom X.env.cells scope.names [])) fp (Rz X E s3 H3 scope ce fp)
  rw [hce] at pg pe
  have pe := pe fun σ => Rz.passes σ
  generalize hs4 : ({ s3 with heap := pushCells (s3.heap.push { cls := .type "dict", data := .dict #[] }) scope.names } : Shared) = s4 at I4 ⊢
  have st4 : tn 0 s4.heap := T.keep _ _ _ st3 fun b _ o e => by
    rw [← hs4]
    exact pushCells_keeps _ _ _ _ (Heap.get?_push_of_some _ e)
  -- back in the def's context
  have back : ∀ {ps : List (Addr × Obj)} {τ : L2.St} {G : Hp} {r : Shared}, Inv (X.blk s3 H3 scope ce fp) ps τ G r → Inv X pins σ G r ∧ FpOk X pins G s3.heap.objs.size ∧ ∃ m, r.heap.Ns s3.heap.objs.size m := by
    intro ps τ G r J
    have nC : G ce.locals = none := J.free
    obtain ⟨m, hn, _⟩ := J.loc
    have hn : r.heap.Ns ce.locals m := hn
    rw [cL] at nC hn
    exact ⟨I3.call' (ch := fp) J.os J.base J.hok J.bare fun b hb => ⟨(f3 b hb).1.2.2.2.1, (f3 b hb).1.2.1, (f3 b hb).1.2.2.2.2.1, (f3 b hb).1.2.2.2.2.2⟩, I3.fpOk (Nat.le_refl _) nC, m, hn⟩
  have fail : ∀ (u : Value) (t : Shared), Rz X E s3 H3 scope ce fp u t →
      notedBy (model X.prog X.w) X.A ce (fun e t => after (model X.prog X.w) X.A X.xe (some (assign (.Name y py) X.env)) (fun _ t => SP X pins D .next t) (.ref L) s3.heap.objs.size X.env.frame (.error e) t) u t := by
    rintro u t ⟨ps, τ, G, r, J, c⟩
    obtain ⟨J1, J2, m, J3⟩ := back J
    exact out_of tk hst hfm J1 J2 J3 cF c
  have stat : ∀ {τ : L2.St} {G : Hp} {r : Shared}, Inv (blkE X s3 H3 scope ce fp (Rz X E s3 H3 scope ce fp)) [] τ G r → (∀ b ∈ fp, G b = none) → ∀ b ∈ fp, FpOk (blkE X s3 H3 scope ce fp (Rz X E s3 H3 scope ce fp)) [] G b := by
    intro τ G r J hn b hb
    refine ⟨hn b hb, (J.ok.exf b hb).1, J.ok.exfs b hb, .inl hb, fun x c e => (J.ok.exf b hb).2 x c e, fun p hp => ?_⟩
    have hp : p ∈ ([] : List (Addr × Obj)) := hp
    cases hp
  have loop : codeAny (model X.prog X.w) X.A (.compLoop (.ListComp elt [⟨tg, iter, [], 0⟩] scope pos) 0 (.ref it) (.ref L) ce)
      (after (model X.prog X.w) X.A X.xe (some (assign (.Name y py) X.env)) (fun _ t => SP X pins D .next t) (.ref L) s3.heap.objs.size X.env.frame) s4 := by
    refine compLoop_any (fun n t => ∃ j G, Inv (blkE X s3 H3 scope ce fp (Rz X E s3 H3 scope ce fp)) [] (wipe σ (own.map (·.2))) G t ∧ tn j t.heap ∧ (∀ b ∈ fp, G b = none) ∧ W j n G) ?_ m0 ⟨0, H3, toE I4, st4, nfp, w0⟩
    rintro n s5 ⟨j, H5, I5, st5, n5, w5⟩
    rcases turn j n H5 w5 with ⟨stop, qq⟩ | ⟨gogo, Nx, hNx, step⟩
    · refine thnF (T.done (blkE X s3 H3 scope ce fp (Rz X E s3 H3 scope ce fp)) rfl rfl rfl hc j [] s5 _ H5 (fun _ _ => False) I5 (stat I5 n5) st5 stop) fun r s6 ⟨hr, I6⟩ => ?_
      subst hr
      obtain ⟨J, ⟨f0, f1, f2, f3, f4, f5⟩, m, hn⟩ := back (ofE I6)
      show wpAny _ _ (assign (.Name y py) X.env (.ref L)) _ _ _
      refine wpAny_assign_Name (store_ok2 (v := V.ref L) J hN hy (.inl hyl) rfl (fun s7 I7 ⟨a, sb, ha⟩ => ?_) (.inr hyl))
      have haC : s3.heap.objs.size ≠ a := by
        rcases ha with z | z
        · rw [z]
          exact f1
        · exact fun e => f4 y a z e.symm
      refine ⟨m, hn.sameBut sb haC, fun h8 sb8 => ?_⟩
      exact ⟨_, H5, I7.turned (t' := s7.toks) (fun b o hb e => (sb8.2 b hb).trans e) f0 f1 f3 f4 f5, qq⟩
    · refine thnF (T.item (blkE X s3 H3 scope ce fp (Rz X E s3 H3 scope ce fp)) rfl rfl rfl hc j [] s5 _ H5 (fun _ _ => False) I5 (stat I5 n5) st5 gogo) fun r s6 ⟨u, hr, h6⟩ => ?_
      subst hr
      refine thnF h6 fun _ s7 ⟨x, H7, I7, r7, y7, st7, n7⟩ => ?_
      have I8 := I7.pinned (stat I7 n7) (T.obj _ _ st7)
      refine wpAny_mono (pg.run _ s7 _ H7 x u _ I8 r7 (step x H7 y7)) (fun _ s8 ⟨τ, H8, I9, hw8, q8⟩ => ?_) fail
      refine wpAny_tests_nil ?_
      have q8 : te τ H8 fun y H4 => ∃ acc, H4 L = some (.lst acc) ∧ acc.length < sizeLine ∧ Nx (upd H4 L (.lst (acc ++ [y]))) := q8
      show wpAny _ _ _ _ _ _
      refine wpAny_mono (pe.run _ s8 τ H8 _ I9 q8) (fun z s10 ⟨yv, H10, I10, r10, acc, hD10, hz10, nx⟩ => ?_) fail
      refine app_ok (X := blkE X s3 H3 scope ce fp (Rz X E s3 H3 scope ce fp)) I10 hD10 hz10 r10 fun s11 I11 => ?_
      obtain ⟨m', hm, w'⟩ := hNx _ nx
      have pinned : ∀ b ∈ fp, ∀ o, s7.heap.get? b = some o → s11.heap.get? b = some o ∧ (upd H10 L (.lst (acc ++ [yv]))) b = none := fun b hb o e =>
        let k := I11.pin (b, o) (List.mem_append_right _ (List.mem_append_right _ (mem_pinsAt hb e)))
        ⟨k.1, k.2.1⟩
      refine ⟨m', hm, j + 1, _, (I11.unpinned (pins := [])).weak (by rw [← hw8, wipe_length]) (fun k v e => ?_), T.keep _ _ _ st7 fun b hb o e => (pinned b hb o e).1, fun b hb => ?_, w'⟩
      · rw [← hw8] at e
        exact (wipe_some e).1
      · obtain ⟨o, e, _⟩ := T.obj _ _ st7 b hb
        exact (pinned b hb o e).2
  exact codeAny_compStart_list loop (T.self X.A 0 _ _ _ st4 loop)
end
end LcX

set_option Elab.async false
set_option linter.all false
set_option maxRecDepth 100000
namespace My
open PySem L2
theorem KT.of_lst {L : Addr} {H : Hp} {xs ys : List V} (hL : H L = some (.lst xs)) : KT H (upd H L (.lst ys)) := fun a o n h => by
  refine (upd_ne (fun e => ?_)).trans h
  subst e
  rw [hL] at h
  have h := Option.some.inj h
  subst h
  rcases n with ⟨_, e⟩ | ⟨_, _, e⟩ <;> cases e
structure TxtSum (K : PySem.W.Frag) (mg : Str → Option Value) : Prop where
  sum : mg "sum" = none
theorem lvsL_sum : ∀ ts : List FT, (ts.map fun t => (t.lvs : Int)).sum = ((lvsL ts : Nat) : Int)
  | [] => rfl
  | t :: ts => by
    unfold lvsL
    rw [List.map_cons, List.sum_cons, List.map_cons, List.sum_cons, lvsL_sum ts]
    unfold lvsL
    omega
section
variable {P : Program} {w : World} {K : PySem.W.Frag} {mg : Str → Option Value} {base : Heap} {f : Addr} {fd : FuncData} {CR CW fI : Addr}
theorem oktold_ends {CD CM : Addr} (T : WrTxt K mg CW fI) (T7 : Txt7 K mg) (TS : TxtSum K mg) (OM : OneE P w K mg base "TooMany" "most" CM) (Cto : CalX P w K mg base "told_form" 4 Ntold_form (spToldX K CW CD)) (F : Fun K "told_ends" "told_ends" stold_ends f fd) :
    FnOk P w K mg base (L2.CX P w) 5 f fd Ptold_ends (spToldEnds K CW CD CM) := by
  refine F.okX sctold_ends (fun vs H Q E h => ?_) (fun cdv A outer s H vs Q E hr h => ?_)
  · obtain ⟨a, us, ts, rfl, _⟩ := h
    rfl
  obtain ⟨a, us, ts, rfl, hs, hw, hn, q1, q2, q3⟩ := h
  refine ⟨_, (pss_cons (LcX.ps_setLcX (i := 1) (own := [("part", 2)]) (g := (gName 2)) (te := tCallS (spToldX K CW CD) (fun _ => E) (tCons (tVar 2) tNil)) (takes_of rfl rfl rfl rfl) rfl rfl rfl sctold_ends.nd rfl rfl (sw_true rfl rfl rfl (by decide +kernel)) (pi_list (pv 0)) (blkOk_by (own := [("part", 2)]) (N := Ntold_ends) (sc := defScope stold_ends) (by decide +kernel))
      (fun _ _ _ _ _ _ => (pg_name (i := 2) sctold_ends.nd rfl (Or.inl rfl))) (fun _ _ _ _ _ _ hx => (pe_callS Cto.ok (hr.mono (by decide)) rfl Cto.m Cto.kp Cto.b hx (pa_cons (pv 2) pa_nil))))
  (pss_cons (ps_if (pt_cmpR op_gt (pe_callB (cr_sum rfl) rfl TS.sum (by decide +kernel) (pa_cons (pe_lc (own := [("part", 2)]) (g := (gName 2)) (te := tFld K (tVar 2) "leaves") rfl sctold_ends.nd (pi_list (pv 0)) (blkOk_by (own := [("part", 2)]) (N := Ntold_ends) (sc := defScope stold_ends) (by decide +kernel)) (fun _ _ _ _ _ => (pg_name (i := 2) sctold_ends.nd rfl (Or.inl rfl))) (fun _ _ _ _ _ => pts_nil) (fun _ _ _ _ _ => (pe_fld (pv 2) rfl))) pa_nil)) (pe_globE T7.MOST_LEAVES) (nomark _))
    (pss_one (ps_raise1 (k := 0) OM rfl (hr.mono (by decide)) (takes_of rfl rfl rfl rfl) (pe_globE T7.MOST_LEAVES)))
    pss_nil)
  (pss_one (ps_ret (pv 1))))), ?_⟩
  have hlen := paired_len hw
  have hl : us.length ≤ 1000 := by omega
  -- all of the right depth, or not
  refine ⟨_, rfl, a, rfl, ⟨us, hs⟩, fun L nL => ?_⟩
  refine lc_it (walk_list (xs := us)) (fun i H' => Same H H' ∧ ∃ xs, H' L = some (.lst xs) ∧ Paired (fun v t => Fm K H' t v) xs (ts.take i) ∧ ∀ t ∈ ts.take i, t.dep ≤ 12) ⟨same_new nL _, [], upd_same, .nil, (by intro t h; cases h)⟩
    (fun i H' _ p => p.1.seq hs) (fun i y H3 H4 hi p yy => ?_) (fun H3 p => ?_)
  · obtain ⟨rfl, hy⟩ := yy
    obtain ⟨s3, xs, eL, hp, hd⟩ := p
    obtain ⟨t, ht, hyt⟩ := paired_take hw hy
    have tm : t ∈ ts := List.mem_of_getElem? ht
    refine ⟨rfl, y, rfl, y, t, rfl, Wr.gd (Gd.of_same s3) hyt, fun c u hu => ?_, fun c => (q2 ⟨t, tm, c⟩).same s3⟩
    have gl := KT.of_lst (ys := xs ++ [u]) eL
    have pl := paired_len hp
    rw [List.length_take] at pl
    refine ⟨xs, eL, small1000 (by omega), same_at s3 nL, xs ++ [u], upd_same, ?_, fun t' h' => ?_⟩
    · rw [take_next ht]
      exact paired_app (paired_imp (fun _ _ h => gl.fm _ h) hp) (.cons (gl.fm _ hu) .nil)
    · rw [take_next ht] at h'
      rcases List.mem_append.mp h' with h' | h'
      · exact hd t' h'
      · rw [List.mem_singleton.mp h']
        exact c
  · obtain ⟨s3, xs, eL, hp, hd⟩ := p
    rw [List.take_of_length_le (by omega)] at hp hd
    refine ⟨_, rfl, a, rfl, ⟨us, s3.seq hs⟩, fun D nD => ?_⟩
    refine lc_it (walk_list (xs := us)) (fun i H' => Same H3 H' ∧ H' D = some (.lst (((ts.take i).map fun t => (t.lvs : Int)).map V.int))) ⟨same_new nD _, upd_same⟩ (fun i H' _ p => (s3.trans p.1).seq hs) (fun i y H5 H6 hi p yy => ?_) (fun H5 p => ?_)
    · obtain ⟨rfl, hy⟩ := yy
      obtain ⟨s5, eD⟩ := p
      obtain ⟨t, ht, hyt⟩ := paired_take hw hy
      obtain ⟨b, dx, u, rfl, kb, _⟩ := Wr.gd (Gd.of_same (s3.trans s5)) hyt
      refine ⟨rfl, _, rfl, b, CW, dx, _, _, rfl, kb, T.cl, T.nLeaves, wF_leaves _ _ _, _, eD, small1000 (by rw [List.length_map, List.length_map, List.length_take]; omega), same_at s5 nD, ?_⟩
      rw [upd_same, take_next ht, List.map_append, List.map_append]
      rfl
    · obtain ⟨s5, eD⟩ := p
      rw [List.take_of_length_le (by omega)] at eD
      refine ⟨D, _, rfl, SqL.of eD, ?_⟩
      rw [lvsL_sum]
      refine ⟨_, _, rfl, rfl, _, rfl, ?_⟩
      have s35 := s3.trans s5
      by_cases c : 40 < lvsL ts
      · rw [decide_eq_true (by omega)]
        exact iteT (mk_one OM.oex OM.no fun d nd => q3 hd c d H5 s35 nd)
      · rw [decide_eq_false (by omega)]
        exact iteF ⟨_, rfl, q1 hd (by omega) H5 L xs s35 (s5 _ _ eL) nL (paired_imp (fun _ _ h => (Same.kt s5).fm _ h) hp)⟩
end
end My

set_option Elab.async false
set_option linter.all false
set_option maxRecDepth 100000
namespace My
open PySem L2
abbrev s_law_ends_tokens : Stmt := top 67
abbrev N_law_ends_tokens : List Str := ["_law_ends", "_law_tokens_here", "_law_form"]
abbrev P_law_ends_tokens : List Str := ["_law_ends"]
theorem sc_law_ends_tokens : FnScope N_law_ends_tokens P_law_ends_tokens (defScope s_law_ends_tokens) := ⟨rfl, rfl, rfl, by decide +kernel, rfl, by decide +kernel, by decide +kernel⟩
/-- the tokens of a row -/
def moreToks (ts : List FT) : List (List Nat) := (ts.map fun t => [44] :: toks false t).flatten
def rowToks : List FT → List (List Nat)
  | [] => []
  | t :: ts => toks false t ++ moreToks ts
theorem cut_tail (x : V) (xs : List V) : cutV (x :: xs) (some 1) none = xs := by
  unfold cutV
  have e1 : HT.sIx (x :: xs).length 0 (some 1) = 1 := by
    show HT.sIx (xs.length + 1) 0 (some 1) = 1
    unfold HT.sIx
    simp
    try omega
  have e2 : HT.sIx (x :: xs).length (x :: xs).length none = xs.length + 1 := rfl
  rw [e1, e2]
  show (xs.take (xs.length + 1 - 1)) = xs
  rw [List.take_of_length_le (by omega)]
theorem moreToks_take {ts : List FT} {i : Nat} {t : FT} (h : ts[i]? = some t) : moreToks (ts.take (i + 1)) = moreToks (ts.take i) ++ ([44] :: toks false t) := by
  unfold moreToks
  rw [take_next h, List.map_append, List.flatten_append]
  simp
theorem moreToks_le (ts : List FT) (i : Nat) : (moreToks (ts.take i)).length ≤ (moreToks ts).length := by
  have : moreToks ts = moreToks (ts.take i) ++ moreToks (ts.drop i) := by
    unfold moreToks
    rw [← List.flatten_append, ← List.map_append, List.take_append_drop]
  rw [this, List.length_append]
  omega
def spEndsTokens (K : PySem.W.Frag) : Sp := fun vs H Q _ => ∃ (a : Addr) (xs : List V) (ts : List FT), vs = [.ref a] ∧ SqL K H a xs ∧ Paired (fun v t => Fm K H t v) xs ts ∧ 1 ≤ ts.length ∧ (∀ t ∈ ts, t.dep < 20 ∧ (toks true t).length + 20 ≤ 1000 ∧ (wrt true t).length + 20 ≤ sizeLine) ∧ (rowToks ts).length + 20 ≤ 1000 ∧
  ∀ H' p, Same H H' → H' p = some (.lst (zsV (rowToks ts))) → Q (.ref p) H'
section
variable {P : Program} {w : World} {K : PySem.W.Frag} {mg : Str → Option Value} {base : Heap} {f : Addr} {fd : FuncData}
theorem ok_law_ends_tokens (F : Fun K "_law_ends_tokens" "_law_ends_tokens" s_law_ends_tokens f fd) (C_law_tokens : Cal P w K mg base "_law_tokens" 21 P_law_form_text (spTokens K 20)) : FnOk P w K mg base CX0 22 f fd P_law_ends_tokens (spEndsTokens K) := by
  refine F.ok sc_law_ends_tokens (fun vs H Q E h => ?_) (fun cdv A outer s H vs Q E hr h => ?_)
  · obtain ⟨a, xs, ts, rfl, _⟩ := h
    rfl
  obtain ⟨a, xs, ts, rfl, hs, hf, h1, hb, hn, q⟩ := h
  refine ⟨_, (pss_cons (ps_set (i := 1) sc_law_ends_tokens.nd rfl (Or.inl rfl) (pe_callC C_law_tokens hr (pa_cons (pe_ix ix_list (pv 0) pe_int (fun _ _ => rfl)) (pa_cons pe_bl pa_nil))))
  (pss_cons (ps_for PassesOwn.never rfl (pi_list (pe_slice sl_list (pv 0) (po_some pe_int) po_none)) (pg_name (i := 2) sc_law_ends_tokens.nd rfl (Or.inl rfl))
    (pss_one (ps_set (i := 1) sc_law_ends_tokens.nd rfl (Or.inl rfl) (pe_op op_catLN (pe_op op_catLN (pv 1) (pe_lstN (pa_cons pe_str pa_nil))) (pe_callC C_law_tokens hr (pa_cons (pv 2) (pa_cons pe_bl pa_nil)))))))
  (pss_one (ps_ret (pv 1))))), ?_⟩
  cases hf with
  | nil => simp at h1
  | @cons v t0 us rs h0 hf =>
  obtain ⟨d0, n0, l0⟩ := hb t0 (List.mem_cons_self ..)
  have at0 : atI (v :: us) 0 = some v := by
    show (ixN (us.length + 1) 0).bind (fun k => (v :: us)[k]?) = some v
    unfold ixN
    rw [if_pos (by decide), if_pos (by omega)]
    rfl
  refine ⟨_, rfl, a, _, _, _, rfl, rfl, hs, at0, v, t0, false, rfl, h0, d0, n0, l0, fun H1 p1 s1 e1 => ?_⟩
  refine ⟨_, rfl, 1, rfl, a, v :: us, rfl, s1.seq hs, fun b nb => ?_⟩
  rw [cut_tail]
  have s2 := same_new nb (.lst us)
  have eb : upd H1 b (.lst us) b = some (.lst us) := upd_same
  generalize upd H1 b (.lst us) = H2 at *
  have hlen := paired_len hf
  have hf2 : Paired (fun v t => Fm K H2 t v) us rs := paired_imp (fun _ _ h => (Same.kt (s1.trans s2)).fm _ h) hf
  have hn2 : (toks false t0).length + (moreToks rs).length + 20 ≤ 1000 := by
    have : (rowToks (t0 :: rs)).length = (toks false t0).length + (moreToks rs).length := List.length_append
    omega
  refine ⟨b, rfl, ⟨us, SqL.of eb⟩, ?_⟩
  refine for_it walk_list (fun i σ H' => ∃ p o, σ = [some (.ref a), some (.ref p), o] ∧ Same H2 H' ∧ H' p = some (.lst (zsV (toks false t0 ++ moreToks (rs.take i))))) ⟨p1, none, rfl, Same.refl _, by
      show H2 p1 = _
      rw [s2 _ _ e1]
      simp [moreToks]⟩ (fun i σ H' _ ⟨_, _, _, k, _⟩ => SqL.of (k _ _ eb)) (fun i x σ H3 H4 hi pv y => ?_) (fun σ H' pv => ?_)
  · obtain ⟨rfl, hx⟩ := y
    obtain ⟨p, o, rfl, s3, ep⟩ := pv
    obtain ⟨t, ht, hxt⟩ := paired_take hf2 hx
    obtain ⟨dt, nt, lt⟩ := hb t (List.mem_cons_of_mem _ (List.mem_of_getElem? ht))
    have m1 := moreToks_le rs (i + 1)
    rw [moreToks_take ht, List.length_append, List.length_cons] at m1
    refine ⟨_, rfl, le1k, fun p2 H5 s5 e5 => ?_⟩
    refine ⟨p, p2, _, _, rfl, rfl, s5 _ _ ep, e5, ?_, fun p6 H6 s6 e6 => ?_⟩
    · rw [zsV_len, List.length_append]
      simp only [List.length_cons, List.length_nil]
      omega
    have s36 := (s3.trans s5).trans s6
    refine ⟨_, rfl, x, t, false, rfl, (Same.kt s36).fm t hxt, dt, nt, lt, fun H7 p7 s7 e7 => ?_⟩
    refine ⟨p6, p7, _, _, rfl, rfl, s7 _ _ e6, e7, ?_, fun p8 H8 s8 e8 => ?_⟩
    · simp only [List.length_append, zsV_len, List.length_cons, List.length_nil]
      omega
    refine ⟨p8, _, rfl, (s36.trans s7).trans s8, ?_⟩
    rw [e8, moreToks_take ht]
    have : zsV (toks false t0 ++ moreToks (rs.take i)) ++ [V.str (Str.ofString ",")] ++ zsV (toks false t) = zsV (toks false t0 ++ (moreToks (rs.take i) ++ ([44] :: toks false t))) := by
      rw [← List.append_assoc, zsV_cat (toks false t0 ++ moreToks (rs.take i)), List.append_assoc]
      rfl
    exact congrArg (fun u => some (HO.lst u)) this
  · obtain ⟨p, o, rfl, s3, ep⟩ := pv
    rw [List.take_of_length_le (by omega)] at ep
    exact ⟨_, rfl, q H' p ((s1.trans s2).trans s3) ep⟩
end
end My

set_option Elab.async false
set_option linter.all false
set_option maxRecDepth 100000
/-! enumerate of a text -/
namespace EnuS
open PySem PySem.Spec PyProof.Rows L2
/-- the signs of x, each in a new pair with its number -/
def IteS (x : Str) : It :=
  ⟨fun i _ => i < x.cps.size, fun i H v H' => ∃ T c, v = .ref T ∧ H T = none ∧ H' = upd H T (.tup [.int (i : Nat), .str ⟨#[c]⟩]) ∧ x.cps[i]? = some c, fun i _ => x.cps.size ≤ i⟩
theorem turn_enumS {P : Program} {w : World} {K : PySem.W.Frag} {elts : List Expr} {kk : Nat} {tpos : Pos} (x : Str) (t : Tok) (e it : Addr) :
    Turn P w K (.Tuple elts kk tpos) (IteS x) [e, it] e (fun i h => (∃ old, IsEnum h e it ((i : Nat) : Int) old) ∧ h.IsStrIter it (strIterType x) x t i ∧ e ≠ it ∧ i ≤ x.cps.size) where
  mem := by simp
  obj := fun i h st b hb => by
    obtain ⟨⟨old, en⟩, ⟨o, ho, _, hd⟩, _⟩ := st
    rcases (show b = e ∨ b = it by simpa using hb) with z | z
    · rw [z]
      exact ⟨_, en, fun v q => nomatch q⟩
    · rw [z]
      exact ⟨o, ho, fun v q => by rw [hd] at q; cases q⟩
  keep := fun i h h' ⟨⟨old, en⟩, ⟨o, ho, rest⟩, more⟩ k => ⟨⟨old, k e (by simp) _ en⟩, ⟨o, k it (by simp) o ho, rest⟩, more⟩
  item := by
    intro X eP ew eK calm i pins s σ H E I fr st go
    subst eP ew eK
    obtain ⟨⟨old, en⟩, ti, n1, le⟩ := st
    have lt : i < x.cps.size := go
    have lte : e < s.heap.objs.size := Heap.lt_size en
    have lti : it < s.heap.objs.size := by
      obtain ⟨_, q, _⟩ := id ti
      exact Heap.lt_size q
    refine wpAny_pyNext_enum_itemD (Draws.text (A := X.A.in1) (I.ok.hd calm) it x t) en ti lt n1 (by simp [n1]) fun y h' tk gy out next tupl size kept => ?_
    obtain ⟨c, u, hc, rfl⟩ := gy
    refine ⟨_, rfl, wpAny_letOwnedTupleGo_enum (s := { s with heap := h', toks := tk + 1 }) out fun h2 en2 but => ?_⟩
    have tupl2 : h2.get? s.heap.objs.size = some { cls := .type "tuple", data := .seq #[.int i tk, .str ⟨#[c]⟩ u] } := (but.2 _ (Nat.ne_of_gt lte)).trans tupl
    have new : ObjOk X.prog X.w (upd H s.heap.objs.size (.tup [.int (i : Nat), .str ⟨#[c]⟩])) h2 s.heap.objs.size (.tup [.int (i : Nat), .str ⟨#[c]⟩]) :=
      ⟨by show 2 ≤ sizeLine; decide, [.int i tk, .str ⟨#[c]⟩ u], .cons ⟨_, rfl⟩ (.cons ⟨_, rfl⟩ .nil), ⟨_, tupl2, rfl, _, rfl⟩⟩
    have J : Inv X pins σ (upd H s.heap.objs.size (.tup [.int (i : Nat), .str ⟨#[c]⟩])) { s with heap := h2, toks := tk + 1 } :=
      I.turnedNew (ch := [e, it]) (fun b ob nb q => (but.2 b (fun z => nb (by simp [z]))).trans (kept b ob (fun z => nb (by simp [z])) (fun z => nb (by simp [z])) q)) fr (Nat.le_refl _) new
    refine ⟨.ref s.heap.objs.size, _, J, rfl, ⟨_, c, rfl, I.hok.fresh (Nat.le_refl _), rfl, hc⟩, ⟨⟨.str ⟨#[c]⟩ u, ?_⟩, ?_, n1, lt⟩, fun b hb => ?_⟩
    · rw [show ((i + 1 : Nat) : Int) = (i : Int) + 1 by omega]
      exact en2
    · obtain ⟨o, ho, rest⟩ := next
      exact ⟨o, (but.2 it (Ne.symm n1)).trans ho, rest⟩
    · have lb : b < s.heap.objs.size := by
        rcases (show b = e ∨ b = it by simpa using hb) with z | z
        · rw [z]; exact lte
        · rw [z]; exact lti
      rw [upd_ne (Nat.ne_of_lt lb)]
      exact (fr b hb).1
  done := by
    intro X eP ew eK calm i pins s σ H E I fr st go
    subst eP ew eK
    obtain ⟨⟨old, en⟩, ti, n1, le⟩ := st
    have ge : x.cps.size ≤ i := go
    obtain rfl : i = x.cps.size := by omega
    obtain ⟨f0, f1, f2, f3, f4, f5⟩ := fr it (by simp)
    exact wpAny_pyNext_enum_endD (Draws.text (A := X.A.in1) (I.ok.hd calm) it x t) en ti fun h2 kept => ⟨rfl, I.turned (t' := s.toks) (fun b o nb q => kept b o nb q) f0 f1 f3 f4 f5⟩
  self := fun A i s Q E st h => let ⟨⟨_, en⟩, _⟩ := st; wpAny_pyIter_enum en h
def iEnumS (ta : TA) : TI := fun σ H R => ta σ H fun vs H1 => ∃ x, vs = [.str x] ∧ R (IteS x) H1
theorem pi_enumS {X : Cx} {e : Expr} {ta : TA} {p pos tpos : Pos} {elts : List Expr} {kk : Nat} (hg : Gl X "enumerate") (hm : X.mg "enumerate" = none) (ha : PA X [e] ta) (hs : starEach [e] X.env = [(false, eval e X.env)] := by rfl) :
    PI X (.Tuple elts kk tpos) (.Call (.Name "enumerate" p) [e] [] pos) (iEnumS ta) := by
  refine ⟨fun pins s σ H R I h => Call_ (ld_blt I hg hm boot_enumerate (PyProof.Rows.callWith_type1 (thn (ha.run pos pins s σ H _ I h) fun us s1 hh => ?_) hs rfl))⟩
  obtain ⟨vs, H1, I1, r1, x, ex, q⟩ := hh
  subst ex
  cases r1 with
  | cons r rr =>
    cases rr
    obtain ⟨t, rfl⟩ := r
    refine call_enumerate_str fun h2 en ti size kept => wpAny_pyIter_enum en ?_
    have J : Inv X pins σ H1 { s1 with heap := h2 } := I1.kept (t' := s1.toks) kept
    refine ⟨s1.heap.objs.size + 1, [s1.heap.objs.size + 1, s1.heap.objs.size], _, _, H1, rfl, J, turn_enumS x t (s1.heap.objs.size + 1) s1.heap.objs.size, ⟨⟨.none, en⟩, ti, Nat.succ_ne_self _, Nat.zero_le _⟩, fun b hb => ?_, q⟩
    have big : s1.heap.objs.size ≤ b := by
      rcases (show b = s1.heap.objs.size + 1 ∨ b = s1.heap.objs.size by simpa using hb) with z | z
      · rw [z]; exact Nat.le_add_right _ _
      · rw [z]; exact Nat.le_refl _
    exact I1.fpOk big (I1.hok.fresh big)
theorem walk_enumS {x : Str} : Walk (IteS x) x.cps.size (fun _ => True) (YPair (fun i => some (.int (i : Nat))) (fun i => x.cps[i]?.map fun c => V.str ⟨#[c]⟩)) :=
  ⟨fun i _ hi _ => hi, fun _ _ => Nat.le_refl _, fun i H v H' _ _ y => by
    obtain ⟨T, c, h1, h2, h3, h4⟩ := y
    exact ⟨T, .int (i : Nat), .str ⟨#[c]⟩, h1, h2, h3, rfl, by show x.cps[i]?.map _ = _; rw [h4]; rfl⟩⟩
end EnuS

set_option Elab.async false
set_option linter.all false
set_option maxRecDepth 100000
namespace My
open PySem L2
abbrev s_law_longest : Stmt := top 68
abbrev N_law_longest : List Str := ["_law_text", "_law_is_row", "_law_letters", "_law_levels", "_law_name_here", "_law_is_leaf", "_law_at", "_law_sign", "_law_here"]
abbrev P_law_longest : List Str := ["_law_text", "_law_is_row"]
theorem sc_law_longest : FnScope N_law_longest P_law_longest (defScope s_law_longest) := ⟨rfl, rfl, rfl, by decide +kernel, rfl, by decide +kernel, by decide +kernel⟩
/-- the law's own reader: the levels below, the level, how many signs of a name, whether a leaf was the last -/
structure LS where
  pre : List Nat
  top : Nat
  nm : Nat
  lf : Bool
def lstep (row : Bool) (s : LS) (c : Nat) : Option LS :=
  if 0 < s.nm ∧ isLD c = true then (if s.nm = 12 then none else some { s with nm := s.nm + 1 })
  else if 0 < s.nm ∧ c = 126 then some { s with nm := 0 }
  else if c = 32 then some { s with nm := 0 }
  else if (s.top = 0 ∨ s.top = 2) ∧ c = 40 then some ⟨s.pre ++ [s.top], 0, 0, s.lf⟩
  else if (s.top = 0 ∨ s.top = 2) ∧ isL c = true then some ⟨s.pre, s.top + 1, 1, true⟩
  else if s.top = 1 ∧ c ∈ forkC then some ⟨s.pre, 2, 0, s.lf⟩
  else if s.top = 3 ∧ s.pre ≠ [] ∧ c = 41 then some ⟨s.pre.dropLast, s.pre.getLastD 0 + 1, 0, false⟩
  else if row = true ∧ c = 44 ∧ s.pre = [] ∧ (s.top = 3 ∨ (s.top = 1 ∧ s.lf = true)) then some ⟨[], 0, 0, s.lf⟩
  else none
def lok (s : LS) : Bool := decide (s.pre = []) && (decide (s.top = 3) || (decide (s.top = 1) && s.lf))
def lrun (row : Bool) : LS → Nat → List Nat → Nat × Bool
  | s, i, [] => (i, lok s)
  | s, i, c :: cs => match lstep row s c with
    | none => (i, false)
    | some t => lrun row t (i + 1) cs
def l0 : LS := ⟨[], 0, 0, false⟩
def longest (row : Bool) (cs : List Nat) : Nat × Bool := lrun row l0 0 cs
def LS.ints (s : LS) : List V := s.pre.map (fun n => V.int (n : Nat)) ++ [V.int (s.top : Nat)]
def spLongest (K : PySem.W.Frag) : Sp := fun vs H Q _ => ∃ (cs : List Nat) (row : Bool), vs = [.str (Z cs), .bl row] ∧ cs.length + 10 ≤ sizeLine ∧
  ∀ H' p, Same H H' → SqT K H' p [.int ((longest row cs).1 : Nat), .bl (longest row cs).2] → Q (.ref p) H'
theorem isLD_cat (c : Nat) : decide (c ∈ (zLetters ++ Str.ofString "0123456789").cps.toList) = isLD c := by
  rw [← isLD_both]
  have e : (zLetters ++ Str.ofString "0123456789").cps.toList = zBoth.cps.toList := by decide +kernel
  rw [e]
theorem sign_dec (c x : Nat) : decide (V.str ⟨#[c]⟩ = V.str ⟨#[x]⟩) = decide (c = x) := by
  by_cases h : c = x
  · rw [h, decide_eq_true rfl, decide_eq_true rfl]
  · rw [decide_eq_false h, decide_eq_false fun e => by
      have e1 := V.str.inj e
      have e2 := congrArg (fun z : Str => z.cps.toList) e1
      exact h (by simpa using e2)]
theorem in02 (n : Nat) : inV (V.int (n : Nat)) [V.int 0, V.int 2] = decide (n = 0 ∨ n = 2) := by
  show (((0 : Int) == (n : Nat)) || (((2 : Int) == (n : Nat)) || false)) = _
  by_cases h0 : n = 0
  · subst h0
    rfl
  · by_cases h2 : n = 2
    · subst h2
      rfl
    · rw [decide_eq_false (by omega)]
      have e0 : ((0 : Int) == (n : Nat)) = false := by
        rw [beq_eq_false_iff_ne]
        omega
      have e2 : ((2 : Int) == (n : Nat)) = false := by
        rw [beq_eq_false_iff_ne]
        omega
      rw [e0, e2]
      rfl
theorem dI1 (n : Nat) : decide (V.int (n : Nat) = V.int 1) = decide (n = 1) := by
  by_cases h : n = 1
  · subst h
    rfl
  · rw [decide_eq_false h, decide_eq_false fun e => h (by have := V.int.inj e; omega)]
theorem dI3 (n : Nat) : decide (V.int (n : Nat) = V.int 3) = decide (n = 3) := by
  by_cases h : n = 3
  · subst h
    rfl
  · rw [decide_eq_false h, decide_eq_false fun e => h (by have := V.int.inj e; omega)]
theorem ints_set (s : LS) (n : Nat) (b : Bool) (k : Nat) : s.ints.set (s.pre.map fun n => V.int (n : Nat)).length (V.int (n : Nat)) = (LS.mk s.pre n k b).ints := set_last _ _ _
theorem ints_ix (s : LS) : ixN s.ints.length (-1) = some (s.pre.map fun n => V.int (n : Nat)).length := ixN_last _ _
theorem ints_len (s : LS) : s.ints.length = s.pre.length + 1 := by unfold LS.ints; rw [List.length_append, List.length_map]; rfl
theorem in_fork (c : Nat) : decide (c ∈ (Str.ofString "*|&+").cps.toList) = decide (c ∈ forkC) := by
  have e : (Str.ofString "*|&+").cps.toList = forkC := by decide +kernel
  rw [e]
section
variable {P : Program} {w : World} {K : PySem.W.Frag} {mg : Str → Option Value} {base : Heap} {f : Addr} {fd : FuncData}
theorem ok_law_longest (T : Txt K mg) (T7 : Txt7 K mg) (F : Fun K "_law_longest" "_law_longest" s_law_longest f fd) : FnOk P w K mg base CX0 1 f fd P_law_longest (spLongest K) := by
  refine F.ok sc_law_longest (fun vs H Q E h => ?_) (fun cdv A outer s H vs Q E hr h => ?_)
  · obtain ⟨cs, row, rfl, _⟩ := h
    rfl
  obtain ⟨cs, row, rfl, hl, q⟩ := h
  refine ⟨_, (pss_cons (ps_set (i := 2) sc_law_longest.nd rfl (Or.inl rfl) pe_str)
  (pss_cons (ps_par3 (i := 3) (j := 4) (l := 5) (by rfl) sc_law_longest.nd rfl rfl rfl (by decide) (by decide) (by decide) rfl rfl rfl (pa_cons (pe_lst (pa_cons pe_int pa_nil)) (pa_cons pe_int (pa_cons pe_bl pa_nil))) (by rfl))
  (pss_cons (ps_for PassesOwn.never rfl (EnuS.pi_enumS rfl T7.enumerate (pa_cons (pv 0) pa_nil)) (pg_tup rfl (pgs_cons (pg_name (i := 6) sc_law_longest.nd rfl (Or.inl rfl)) (pgs_cons (pg_name (i := 7) sc_law_longest.nd rfl (Or.inl rfl)) pgs_nil)))
    (pss_cons (ps_if (PW.pt (pw_and (pt_cmpR op_gt (pv 4) pe_int (nomark _)) (pw_and1 (pt_cmpR op_in_sign (pv 7) (pe_op op_add_str (pv 2) pe_str) rfl))))
      (pss_cons (ps_if (pt_cmpR op_eq (pv 4) pe_int (nomark _))
        (pss_one (ps_ret (pe_tupN (pa_cons (pv 6) (pa_cons pe_bl pa_nil)))))
        pss_nil)
      (pss_cons (ps_set (i := 4) sc_law_longest.nd rfl (Or.inl rfl) (pe_op op_add (pv 4) pe_int))
      (pss_one ps_continue)))
      pss_nil)
    (pss_cons (ps_if (PW.pt (pw_and (pt_cmpR op_gt (pv 4) pe_int (nomark _)) (pw_and1 (pt_cmpR op_eq (pv 7) pe_str (nomark _)))))
      (pss_cons (ps_set (i := 4) sc_law_longest.nd rfl (Or.inl rfl) pe_int)
      (pss_one ps_continue))
      pss_nil)
    (pss_cons (ps_par (i := 4) (j := 8) (by rfl) sc_law_longest.nd rfl rfl (by decide) rfl rfl (pa_cons pe_int (pa_cons (pe_ix ix_list (pv 3) (pe_un un_neg pe_int) (fun _ _ => rfl)) pa_nil)) (by rfl))
    (pss_cons (ps_if (pt_cmpR op_eq (pv 7) pe_str (nomark _))
      (pss_one ps_continue)
      pss_nil)
    (pss_one (ps_if (PW.pt (pw_and (pt_cmpR op_in_seq (pv 8) (pe_lstN (pa_cons pe_int (pa_cons pe_int pa_nil))) rfl) (pw_and1 (pt_cmpR op_eq (pv 7) pe_str (nomark _)))))
      (pss_one (ps_expr (pe_bm PySem.F.plainAttrs_list PySem.F.slot_list_append PySem.F.type_list_append mt_append (pv 3) (pa_cons pe_int pa_nil))))
      (pss_one (ps_if (PW.pt (pw_and (pt_cmpR op_in_seq (pv 8) (pe_lstN (pa_cons pe_int (pa_cons pe_int pa_nil))) rfl) (pw_and1 (pt_cmpR op_in_sign (pv 7) (pv 2) rfl))))
        (pss_one (ps_asg (pe_tupN (pa_cons (pe_op op_add (pv 8) pe_int) (pa_cons pe_int (pa_cons pe_bl pa_nil)))) (pg_tup rfl (pgs_cons (pg_sub (pv 3) (pe_un un_neg pe_int) set_list) (pgs_cons (pg_name (i := 4) sc_law_longest.nd rfl (Or.inl rfl)) (pgs_cons (pg_name (i := 5) sc_law_longest.nd rfl (Or.inl rfl)) pgs_nil))))))
        (pss_one (ps_if (PW.pt (pw_and (pt_cmpR op_eq (pv 8) pe_int (nomark _)) (pw_and1 (pt_cmpR op_in_sign (pv 7) pe_str rfl))))
          (pss_one (ps_asg pe_int (pg_sub (pv 3) (pe_un un_neg pe_int) set_list)))
          (pss_one (ps_if (PW.pt (pw_and (pt_cmpR op_eq (pv 8) pe_int (nomark _)) (pw_and (pt_cmpR op_gt (pe_callB call_len rfl T.len (by decide +kernel) (pa_cons (pv 3) pa_nil)) pe_int (nomark _)) (pw_and1 (pt_cmpR op_eq (pv 7) pe_str (nomark _))))))
            (pss_cons (ps_expr (pe_bm0 PySem.F.plainAttrs_list PySem.F.slot_list_pop PySem.F.type_list_pop mt_pop (pv 3)))
            (pss_one (ps_asg (pe_tupN (pa_cons (pe_op op_add (pe_ix ix_list (pv 3) (pe_un un_neg pe_int) (fun _ _ => rfl)) pe_int) (pa_cons pe_bl pa_nil))) (pg_tup rfl (pgs_cons (pg_sub (pv 3) (pe_un un_neg pe_int) set_list) (pgs_cons (pg_name (i := 5) sc_law_longest.nd rfl (Or.inl rfl)) pgs_nil))))))
            (pss_one (ps_if (PW.pt (pw_and (pt_truth (pv 1) (by intro _; rfl)) (pw_and (pt_cmpR op_eq (pv 7) pe_str (nomark _)) (pw_and (pt_cmpR op_eq (pe_callB call_len rfl T.len (by decide +kernel) (pa_cons (pv 3) pa_nil)) pe_int (nomark _)) (pw_and1 (PW.pt (pw_or (pt_cmpR op_eq (pv 8) pe_int (nomark _)) (pw_or1 (PW.pt (pw_and (pt_cmpR op_eq (pv 8) pe_int (nomark _)) (pw_and1 (pt_truth (pv 5) (by intro _; rfl)))))))))))))
              (pss_one (ps_set (i := 3) sc_law_longest.nd rfl (Or.inl rfl) (pe_lst (pa_cons pe_int pa_nil))))
              (pss_one (ps_ret (pe_tupN (pa_cons (pv 6) (pa_cons pe_bl pa_nil))))))))))))))))))))
  (pss_one (ps_ret (pe_tupN (pa_cons (pe_callB call_len rfl T.len (by decide +kernel) (pa_cons (pv 0) pa_nil)) (pa_cons (pe_and (pe_cmpR op_eq (pe_callB call_len rfl T.len (by decide +kernel) (pa_cons (pv 3) pa_nil)) pe_int (nomark _)) (pe_one (pe_or (pe_cmpR op_eq (pe_ix ix_list (pv 3) pe_int (fun _ _ => rfl)) pe_int (nomark _)) (pe_one (pe_and (pe_cmpR op_eq (pe_ix ix_list (pv 3) pe_int (fun _ _ => rfl)) pe_int (nomark _)) (pe_one (pv 5))))))) pa_nil)))))))), ?_⟩
  refine ⟨(by show 1 ≤ sizeLine; decide), fun L nL => ⟨_, _, _, rfl, ?_⟩⟩
  have s1 := same_new nL (.lst [.int 0])
  have e1 : upd H L (.lst [.int 0]) L = some (.lst [.int 0]) := upd_same
  generalize upd H L (.lst [.int 0]) = H1 at *
  refine ⟨_, rfl, Z cs, rfl, ?_⟩
  refine for_it EnuS.walk_enumS (fun i σ H' => ∃ (s : LS) (L : Addr) (o6 o7 o8 : Option V), σ = [some (.str (Z cs)), some (.bl row), some (.str zLetters), some (.ref L), some (.int (s.nm : Nat)), some (.bl s.lf), o6, o7, o8] ∧ Same H H' ∧ H L = none ∧ H' L = some (.lst s.ints) ∧ longest row cs = lrun row s i (cs.drop i) ∧ s.pre.length ≤ i)
    ⟨l0, L, none, none, none, rfl, s1, nL, e1, rfl, Nat.zero_le _⟩ (fun _ _ _ _ _ => trivial) (fun i x σ H2 H3 hi pv y => ?_) (fun σ H' pv => ?_)
  · obtain ⟨s, L, o6, o7, o8, rfl, s2, nL, eL, hlo, hp⟩ := pv
    obtain ⟨pr, u, v, rfl, npr, rfl, hu, hv⟩ := y
    cases hu
    have hi' : i < cs.length := by
      have : (Z cs).cps.size = cs.length := Z_len cs
      omega
    obtain ⟨c, hc, rfl⟩ : ∃ c, cs[i]? = some c ∧ v = .str ⟨#[c]⟩ := by
      have hv : (Z cs).cps[i]?.map (fun c => V.str ⟨#[c]⟩) = some v := hv
      have e : (Z cs).cps[i]? = cs[i]? := by simp
      rw [e] at hv
      cases h : cs[i]? with
      | none => rw [h] at hv; cases hv
      | some c =>
        rw [h] at hv
        exact ⟨c, rfl, (Option.some.inj hv).symm⟩
    have hdrop : cs.drop i = c :: cs.drop (i + 1) := by
      rw [List.drop_eq_getElem_cons hi']
      congr 1
      have := List.getElem?_eq_getElem hi'
      rw [hc] at this
      exact (Option.some.inj this).symm
    rw [hdrop] at hlo
    have s3 := same_new npr (.tup [.int (i : Nat), .str ⟨#[c]⟩])
    have epr : upd H2 pr (.tup [.int (i : Nat), .str ⟨#[c]⟩]) pr = some (.tup [.int (i : Nat), .str ⟨#[c]⟩]) := upd_same
    generalize upd H2 pr (.tup [.int (i : Nat), .str ⟨#[c]⟩]) = H3 at *
    have s23 := s2.trans s3
    have eL3 := s3 _ _ eL
    refine ⟨pr, _, rfl, .inl (.inl epr), rfl, _, _, rfl, _, _, rfl, rfl, ?_⟩
    -- on from here, with the state t
    have on : ∀ (t : LS) (Lt : Addr) (H' : Hp) (o8 : Option V), Same H H' → H Lt = none → H' Lt = some (.lst t.ints) → lstep row s c = some t → t.pre.length ≤ i + 1 →
        ∃ (s : LS) (L : Addr) (o6 o7 o8' : Option V), [some (V.str (Z cs)), some (.bl row), some (.str zLetters), some (.ref Lt), some (.int (t.nm : Nat)), some (.bl t.lf), some (.int (i : Nat)), some (.str ⟨#[c]⟩), o8] = [some (.str (Z cs)), some (.bl row), some (.str zLetters), some (.ref L), some (.int (s.nm : Nat)), some (.bl s.lf), o6, o7, o8'] ∧ Same H H' ∧ H L = none ∧ H' L = some (.lst s.ints) ∧ longest row cs = lrun row s (i + 1) (cs.drop (i + 1)) ∧ s.pre.length ≤ i + 1 :=
      fun t Lt H' o8 g1 g2 g3 g4 g5 => ⟨t, Lt, _, _, o8, rfl, g1, g2, g3, by
        rw [hlo]
        show (match lstep row s c with | none => (i, false) | some t => lrun row t (i + 1) (cs.drop (i + 1))) = _
        rw [g4], g5⟩
    have no : lstep row s c = none → longest row cs = (i, false) := fun g => by
      rw [hlo]
      show (match lstep row s c with | none => (i, false) | some t => lrun row t (i + 1) (cs.drop (i + 1))) = _
      rw [g]
    have ret : ∀ (H' : Hp), Same H H' → lstep row s c = none → ∀ p H'', Same H' H'' → SqT K H'' p [.int (i : Nat), .bl false] → Q (.ref p) H'' := fun H' g1 g2 p H'' g3 g4 => by
      refine q H'' p (g1.trans g3) ?_
      rw [no g2]
      exact g4
    clear no hlo hdrop
    refine ⟨_, rfl, _, _, rfl, rfl, _, rfl, ?_⟩
    have d1 : decide ((0 : Int) < ((s.nm : Nat) : Int)) = decide (0 < s.nm) := by
      by_cases h : 0 < s.nm
      · rw [decide_eq_true h, decide_eq_true (by omega)]
      · rw [decide_eq_false h, decide_eq_false (by omega)]
    have d2 : decide (c ∈ (zLetters ++ Str.ofString "0123456789").cps.toList) = isLD c := isLD_cat c
    have dch : ∀ (x : Nat), decide (V.str ⟨#[c]⟩ = V.str ⟨#[x]⟩) = decide (c = x) := fun x => sign_dec c x
    rw [d1]
    refine (fun (rest : ¬ (0 < s.nm ∧ isLD c = true) → _) => ite2 (fun c1 => ⟨_, rfl, _, rfl, _, _, rfl, rfl, (by decide), c, _, rfl, rfl, _, rfl, ite2 (fun c2 => ?_) (fun c2 => rest fun h => c2 (d2.trans h.2))⟩) (fun c1 => iteF (rest fun h => c1 (decide_eq_true h.1)))) ?_
    rotate_left
    · -- a further sign of a name
      have h1 : 0 < s.nm := of_decide_eq_true c1
      have h2 : isLD c = true := d2.symm.trans c2
      refine ⟨_, rfl, rfl, _, rfl, ?_⟩
      refine ite2 (fun c3 => ?_) (fun c3 => ?_)
      · have h3 : s.nm = 12 := by
          have := V.int.inj (of_decide_eq_true c3)
          omega
        refine ⟨_, rfl, le1k, fun p H4 s4 e4 => ?_⟩
        refine ret _ s23 ?_ p H4 s4 e4
        unfold lstep
        rw [if_pos ⟨h1, h2⟩, if_pos h3]
      · have h3 : s.nm ≠ 12 := fun h => c3 (decide_eq_true (by rw [h]; rfl))
        refine ⟨_, rfl, _, _, rfl, rfl, ?_⟩
        refine on { s with nm := s.nm + 1 } L H3 _ s23 nL eL3 ?_ (by show s.pre.length ≤ i + 1; omega)
        unfold lstep
        rw [if_pos ⟨h1, h2⟩, if_neg h3]
    · intro n1
      refine ⟨_, rfl, _, _, rfl, rfl, _, rfl, ?_⟩
      rw [d1]
      refine (fun (rest : ¬ (0 < s.nm ∧ c = 126) → _) => ite2 (fun c1 => ⟨_, rfl, rfl, _, rfl, ite2 (fun c2 => ?_) (fun c2 => rest fun h => c2 ((dch 126).trans (decide_eq_true h.2)))⟩) (fun c1 => iteF (rest fun h => c1 (decide_eq_true h.1)))) ?_
      rotate_left
      · have h1 : 0 < s.nm := of_decide_eq_true c1
        have h2 : c = 126 := of_decide_eq_true ((dch 126).symm.trans c2)
        refine on { s with nm := 0 } L H3 _ s23 nL eL3 ?_ (by show s.pre.length ≤ i + 1; omega)
        unfold lstep
        rw [if_neg n1, if_pos ⟨h1, h2⟩]
      · intro n2
        refine ⟨_, rfl, 1, rfl, L, s.ints, _, V.int (s.top : Nat), rfl, rfl, SqL.of eL3, atI_last _ _, _, _, rfl, ?_⟩
        refine ⟨_, rfl, rfl, _, rfl, ?_⟩
        refine ite2 (fun c3 => ?_) (fun c3 => ?_)
        · have h3 : c = 32 := of_decide_eq_true ((dch 32).symm.trans c3)
          refine on { s with nm := 0 } L H3 _ s23 nL eL3 ?_ (by show s.pre.length ≤ i + 1; omega)
          unfold lstep
          rw [if_neg n1, if_neg n2, if_pos h3]
        · have n3 : c ≠ 32 := fun h => c3 ((dch 32).trans (decide_eq_true h))
          refine ⟨_, rfl, le1k, fun l4 H4 s4 e4 => ⟨l4, _, rfl, .inl (SqL.of e4), rfl, rfl, _, rfl, ?_⟩⟩
          have s24 := s23.trans s4
          have eL4 := s4 _ _ eL3
          have i02 : (if false = true then !inV (V.int (s.top : Nat)) [V.int 0, V.int 2] else inV (V.int (s.top : Nat)) [V.int 0, V.int 2]) = decide (s.top = 0 ∨ s.top = 2) := in02 s.top
          refine (fun (rest : ¬ ((s.top = 0 ∨ s.top = 2) ∧ c = 40) → _) => ite2 (fun c1 => ⟨_, rfl, rfl, _, rfl, ite2 (fun c2 => ?_) (fun c2 => rest fun h => c2 ((dch 40).trans (decide_eq_true h.2)))⟩) (fun c1 => iteF (rest fun h => c1 (i02.trans (decide_eq_true h.1))))) ?_
          rotate_left
          · have h1 : s.top = 0 ∨ s.top = 2 := of_decide_eq_true (i02.symm.trans c1)
            have h2 : c = 40 := of_decide_eq_true ((dch 40).symm.trans c2)
            refine ⟨_, rfl, .inl ⟨rfl, _, SqL.of eL4⟩, L, s.ints, .int 0, rfl, rfl, eL4, by rw [ints_len]; omega, ?_⟩
            refine on ⟨s.pre ++ [s.top], 0, 0, s.lf⟩ L _ _ (same_at s24 nL) nL ?_ ?_ (by simp; omega)
            · rw [upd_same]
              unfold LS.ints
              rw [List.map_append]
              rfl
            · unfold lstep
              rw [if_neg n1, if_neg n2, if_neg n3, if_pos ⟨h1, h2⟩]
          · intro n4
            refine ⟨_, rfl, le1k, fun l5 H5 s5 e5 => ⟨l5, _, rfl, .inl (SqL.of e5), rfl, rfl, _, rfl, ?_⟩⟩
            have s25 := s24.trans s5
            have eL5 := s5 _ _ eL4
            refine (fun (rest : ¬ ((s.top = 0 ∨ s.top = 2) ∧ isL c = true) → _) => ite2 (fun c1 => ⟨_, rfl, _, rfl, c, _, rfl, rfl, _, rfl, ite2 (fun c2 => ?_) (fun c2 => rest fun h => c2 h.2)⟩) (fun c1 => iteF (rest fun h => c1 (i02.trans (decide_eq_true h.1))))) ?_
            rotate_left
            · have h1 : s.top = 0 ∨ s.top = 2 := of_decide_eq_true (i02.symm.trans c1)
              have h2 : isL c = true := c2
              refine ⟨_, rfl, _, _, rfl, rfl, le1k, fun T6 H6 s6 e6 => ⟨T6, _, rfl, e6, rfl, _, _, rfl, _, rfl, 1, rfl, L, s.ints, _, _, rfl, rfl, s6 _ _ eL5, ints_ix s, _, _, rfl, _, _, rfl, rfl, ?_⟩⟩
              refine on ⟨s.pre, s.top + 1, 1, true⟩ L _ _ (same_at (s25.trans s6) nL) nL ?_ ?_ (by show s.pre.length ≤ i + 1; omega)
              · rw [upd_same]
                exact congrArg (fun u => some (HO.lst u)) (ints_set s (s.top + 1) true 1)
              · unfold lstep
                rw [if_neg n1, if_neg n2, if_neg n3, if_neg n4, if_pos ⟨h1, h2⟩]
            · intro n5
              refine ⟨_, rfl, rfl, _, rfl, ?_⟩
              rw [dI1]
              refine (fun (rest : ¬ (s.top = 1 ∧ c ∈ forkC) → _) => ite2 (fun c1 => ⟨_, rfl, c, _, rfl, rfl, _, rfl, ite2 (fun c2 => ?_) (fun c2 => rest fun h => c2 ((in_fork c).trans (decide_eq_true h.2)))⟩) (fun c1 => iteF (rest fun h => c1 (decide_eq_true h.1)))) ?_
              rotate_left
              · have h1 : s.top = 1 := of_decide_eq_true c1
                have h2 : c ∈ forkC := of_decide_eq_true ((in_fork c).symm.trans c2)
                refine ⟨_, rfl, 1, rfl, L, s.ints, _, _, rfl, rfl, eL5, ints_ix s, ?_⟩
                refine on ⟨s.pre, 2, 0, s.lf⟩ L _ _ (same_at s25 nL) nL ?_ ?_ (by show s.pre.length ≤ i + 1; omega)
                · rw [upd_same]
                  exact congrArg (fun u => some (HO.lst u)) (ints_set s 2 s.lf 0)
                · unfold lstep
                  rw [if_neg n1, if_neg n2, if_neg n3, if_neg n4, if_neg n5, if_pos ⟨h1, h2⟩]
              · intro n6
                refine ⟨_, rfl, rfl, _, rfl, ?_⟩
                rw [dI3]
                have dgt : decide ((1 : Int) < ((s.ints.length : Nat) : Int)) = decide (s.pre ≠ []) := by
                  rw [ints_len]
                  cases s.pre with
                  | nil => rfl
                  | cons x r => rw [decide_eq_true (by simp only [List.length_cons]; omega), decide_eq_true (by simp)]
                refine (fun (rest : ¬ (s.top = 3 ∧ s.pre ≠ [] ∧ c = 41) → _) => ite2 (fun c1 => ⟨_, rfl, _, _, rfl, .inl ⟨_, SqL.of eL5, rfl⟩, _, _, rfl, rfl, _, rfl, ite2 (fun c2 => ⟨_, rfl, rfl, _, rfl, ite2 (fun c3 => ?_) (fun c3 => rest fun h => c3 ((dch 41).trans (decide_eq_true h.2.2)))⟩) (fun c2 => iteF (rest fun h => c2 (dgt.trans (decide_eq_true h.2.1))))⟩) (fun c1 => iteF (rest fun h => c1 (decide_eq_true h.1)))) ?_
                rotate_left
                · have h1 : s.top = 3 := of_decide_eq_true c1
                  have h2 : s.pre ≠ [] := of_decide_eq_true (dgt.symm.trans c2)
                  have h3 : c = 41 := of_decide_eq_true ((dch 41).symm.trans c3)
                  obtain ⟨pp, hh, epp⟩ : ∃ pp hh, s.pre = pp ++ [hh] := by
                    rcases List.eq_nil_or_concat s.pre with e | ⟨pp, hh, e⟩
                    · exact absurd e h2
                    · exact ⟨pp, hh, by rw [e]; simp⟩
                  have step8 : lstep row s c = some ⟨pp, hh + 1, 0, false⟩ := by
                    unfold lstep
                    rw [if_neg n1, if_neg n2, if_neg n3, if_neg n4, if_neg n5, if_neg n6, if_pos ⟨h1, h2, h3⟩, epp]
                    simp
                  have eints : s.ints = (LS.mk pp hh 0 false).ints ++ [V.int (s.top : Nat)] := by
                    unfold LS.ints
                    rw [epp, List.map_append]
                    rfl
                  have lpp : pp.length ≤ i := by
                    rw [epp] at hp
                    simp at hp
                    omega
                  have last : s.ints[s.ints.length - 1]? = some (V.int (s.top : Nat)) := by
                    rw [eints]
                    simp
                  have drp : s.ints.dropLast = (LS.mk pp hh 0 false).ints := by
                    rw [eints, List.dropLast_concat]
                  refine ⟨_, rfl, .inl ⟨rfl, _, SqL.of eL5⟩, L, s.ints, _, rfl, rfl, eL5, last, ?_⟩
                  rw [drp]
                  have s26 := same_at (o := .lst (LS.mk pp hh 0 false).ints) s25 nL
                  have e26 : upd H5 L (.lst (LS.mk pp hh 0 false).ints) L = some (.lst (LS.mk pp hh 0 false).ints) := upd_same
                  refine ⟨_, rfl, 1, rfl, L, _, _, V.int (hh : Nat), rfl, rfl, SqL.of e26, atI_last _ _, _, _, rfl, rfl, le1k, fun T6 H6 s6 e6 => ⟨T6, _, rfl, e6, rfl, _, _, rfl, _, rfl, 1, rfl, L, (LS.mk pp hh 0 false).ints, _, _, rfl, rfl, s6 _ _ e26, ints_ix _, _, _, rfl, rfl, ?_⟩⟩
                  refine on ⟨pp, hh + 1, 0, false⟩ L _ _ (same_at (s26.trans s6) nL) nL ?_ step8 (by show pp.length ≤ i + 1; omega)
                  rw [upd_same]
                  exact congrArg (fun u => some (HO.lst u)) (ints_set (LS.mk pp hh 0 false) (hh + 1) false 0)
                · intro n7
                  have fail : ¬ (row = true ∧ c = 44 ∧ s.pre = [] ∧ (s.top = 3 ∨ (s.top = 1 ∧ s.lf = true))) → lstep row s c = none := fun n8 => by
                    unfold lstep
                    rw [if_neg n1, if_neg n2, if_neg n3, if_neg n4, if_neg n5, if_neg n6, if_neg n7, if_neg n8]
                  refine ⟨_, rfl, row, rfl, ?_⟩
                  have d3 := dI3 s.top
                  have d1' := dI1 s.top
                  have dln : decide (V.int ((s.ints.length : Nat) : Int) = V.int 1) = decide (s.pre = []) := by
                    rw [ints_len, dI1]
                    cases s.pre with
                    | nil => rfl
                    | cons x r => rw [decide_eq_false (by simp), decide_eq_false (by simp)]
                  refine (fun (rest : ¬ (row = true ∧ c = 44 ∧ s.pre = [] ∧ (s.top = 3 ∨ (s.top = 1 ∧ s.lf = true))) → _) (hit : (row = true ∧ c = 44 ∧ s.pre = [] ∧ (s.top = 3 ∨ (s.top = 1 ∧ s.lf = true))) → _) =>
                    ite2 (fun c1 => ⟨_, rfl, rfl, _, rfl, ite2 (fun c2 => ⟨_, rfl, _, _, rfl, .inl ⟨_, SqL.of eL5, rfl⟩, rfl, _, rfl, ite2 (fun c3 => ⟨_, rfl, rfl, _, rfl, ite2 (fun c4 => iteT (hit ⟨c1, of_decide_eq_true ((dch 44).symm.trans c2), of_decide_eq_true (dln.symm.trans c3), .inl (of_decide_eq_true (d3.symm.trans c4))⟩))
                        (fun c4 => ⟨_, rfl, rfl, _, rfl, ite2 (fun c5 => ⟨_, rfl, s.lf, rfl, ite2 (fun c6 => hit ⟨c1, of_decide_eq_true ((dch 44).symm.trans c2), of_decide_eq_true (dln.symm.trans c3), .inr ⟨of_decide_eq_true (d1'.symm.trans c5), c6⟩⟩)
                            (fun c6 => rest fun h => h.2.2.2.elim (fun z => c4 (d3.trans (decide_eq_true z))) fun z => c6 z.2)⟩)
                          (fun c5 => iteF (rest fun h => h.2.2.2.elim (fun z => c4 (d3.trans (decide_eq_true z))) fun z => c5 (d1'.trans (decide_eq_true z.1))))⟩)⟩)
                      (fun c3 => iteF (rest fun h => c3 (dln.trans (decide_eq_true h.2.2.1))))⟩) (fun c2 => iteF (rest fun h => c2 ((dch 44).trans (decide_eq_true h.2.1))))⟩) (fun c1 => iteF (rest fun h => c1 h.1))) ?_ ?_
                  · exact fun n8 => ⟨_, rfl, le1k, fun p H6 s6 e6 => ret _ s25 (fail n8) p H6 s6 e6⟩
                  · intro h8
                    refine ⟨(by show 1 ≤ sizeLine; decide), fun L6 nL6 => ?_⟩
                    refine on ⟨[], 0, 0, s.lf⟩ L6 _ _ (s25.trans (same_new nL6 _)) (s25.free nL6) upd_same ?_ (Nat.zero_le _)
                    unfold lstep
                    rw [if_neg n1, if_neg n2, if_neg n3, if_neg n4, if_neg n5, if_neg n6, if_neg n7, if_pos h8]
  · obtain ⟨s, L, o6, o7, o8, rfl, s2, nL, eL, hlo, hp⟩ := pv
    have hz : (Z cs).cps.size = cs.length := Z_len cs
    rw [hz, List.drop_length] at hlo
    have dln : decide (V.int ((s.ints.length : Nat) : Int) = V.int 1) = decide (s.pre = []) := by
      rw [ints_len, dI1]
      cases s.pre with
      | nil => rfl
      | cons x r => rw [decide_eq_false (by simp), decide_eq_false (by simp)]
    have fin : ∀ (b : Bool), b = lok s → ∀ p H'', Same H' H'' → SqT K H'' p [.int (((Z cs).length : Nat) : Int), .bl b] → Q (.ref p) H'' := fun b eb p H'' g3 g4 => by
      refine q H'' p (s2.trans g3) ?_
      rw [hlo]
      show SqT K H'' p [.int ((cs.length : Nat) : Int), .bl (lok s)]
      rw [← eb]
      rw [Z_len] at g4
      exact g4
    refine ⟨_, rfl, _, _, rfl, ⟨by rw [Z_len]; omega, rfl⟩, ?_⟩
    refine ⟨_, rfl, _, _, rfl, .inl ⟨_, SqL.of eL, rfl⟩, rfl, _, rfl, ?_⟩
    refine ite2 (fun c1 => ?_) (fun c1 => ?_)
    · have h1 : s.pre = [] := of_decide_eq_true (dln.symm.trans c1)
      have ei : s.ints = [V.int (s.top : Nat)] := by
        unfold LS.ints
        rw [h1]
        rfl
      have at0 : atI s.ints 0 = some (V.int (s.top : Nat)) := by
        rw [ei]
        rfl
      have d3 := dI3 s.top
      have d1' := dI1 s.top
      refine ⟨_, rfl, L, s.ints, _, _, rfl, rfl, SqL.of eL, at0, rfl, _, rfl, ?_⟩
      have lk : lok s = (decide (s.top = 3) || (decide (s.top = 1) && s.lf)) := by
        unfold lok
        rw [decide_eq_true h1, Bool.true_and]
      refine ite2 (fun c2 => ?_) (fun c2 => ?_)
      · refine ⟨le1k, fun p H4 s4 e4 => fin _ ?_ p H4 s4 e4⟩
        rw [lk, ← d3]
        have c2' : decide (V.int (s.top : Nat) = V.int 3) = true := c2
        rw [c2']
        rfl
      · have n2 : decide (s.top = 3) = false := by
          rw [← d3]
          exact Bool.eq_false_iff.mpr c2
        refine ⟨_, rfl, L, s.ints, _, _, rfl, rfl, SqL.of eL, at0, rfl, _, rfl, ?_⟩
        refine ite2 (fun c3 => ?_) (fun c3 => ?_)
        · refine ⟨_, rfl, le1k, fun p H4 s4 e4 => fin _ ?_ p H4 s4 e4⟩
          have c3' : decide (s.top = 1) = true := d1'.symm.trans c3
          rw [lk, n2, c3']
          rfl
        · refine ⟨le1k, fun p H4 s4 e4 => fin _ ?_ p H4 s4 e4⟩
          have c3' : decide (s.top = 1) = false := by
            rw [← d1']
            exact Bool.eq_false_iff.mpr c3
          rw [lk, n2, c3']
          rfl
    · refine ⟨le1k, fun p H4 s4 e4 => fin _ ?_ p H4 s4 e4⟩
      have n1 : ¬ s.pre = [] := fun h => c1 (dln.trans (decide_eq_true h))
      unfold lok
      rw [decide_eq_false n1, Bool.false_and]
end
end My

set_option Elab.async false
set_option linter.all false
set_option maxRecDepth 100000
namespace My
open PySem L2
/-! ### the law's own reader reads rows of forms -/
def Adv (s : LS) (cs : List Nat) (t : LS) : Prop := ∀ i rest, lrun true s i (cs ++ rest) = lrun true t (i + cs.length) rest
theorem Adv.nil (s : LS) : Adv s [] s := fun _ _ => rfl
theorem Adv.cons {s t u : LS} {c : Nat} {cs : List Nat} (h : lstep true s c = some t) (a : Adv t cs u) : Adv s (c :: cs) u := fun i rest => by
  show (match lstep true s c with | none => (i, false) | some t => lrun true t (i + 1) (cs ++ rest)) = _
  rw [h]
  show lrun true t (i + 1) (cs ++ rest) = _
  rw [a (i + 1) rest, List.length_cons, show i + 1 + cs.length = i + (cs.length + 1) by omega]
theorem Adv.trans {s t u : LS} {cs ds : List Nat} (a : Adv s cs t) (b : Adv t ds u) : Adv s (cs ++ ds) u := fun i rest => by
  rw [List.append_assoc, a i (ds ++ rest), b, List.length_append, show i + cs.length + ds.length = i + (cs.length + ds.length) by omega]
theorem Adv.one {s t : LS} {c : Nat} (h : lstep true s c = some t) : Adv s [c] t := .cons h (.nil t)
def LS.sp (s : LS) (k : Nat) : LS := if k = 0 then s else { s with nm := 0 }
theorem isLD32 : isLD 32 = false := by decide +kernel
theorem adv_spc (s : LS) : ∀ k, Adv s (spc k) (s.sp k)
  | 0 => .nil s
  | k + 1 => by
    have h : lstep true s 32 = some { s with nm := 0 } := by
      unfold lstep
      rw [if_neg (by rw [isLD32]; simp), if_neg (by simp), if_pos rfl]
    have := adv_spc { s with nm := 0 } k
    have e : LS.sp { s with nm := 0 } k = s.sp (k + 1) := by
      unfold LS.sp
      rw [if_neg (by omega : ¬ k + 1 = 0)]
      split <;> rfl
    rw [e] at this
    exact .cons h this
theorem sp_pre (s : LS) (k : Nat) : (s.sp k).pre = s.pre ∧ (s.sp k).top = s.top ∧ (s.sp k).lf = s.lf := by
  unfold LS.sp
  split <;> exact ⟨rfl, rfl, rfl⟩
theorem sp_nm {s : LS} (k : Nat) (h : s.nm = 0) : (s.sp k).nm = 0 := by
  unfold LS.sp
  split
  · exact h
  · rfl
/-- signs look at no name -/
theorem step_open {s : LS} (h : s.top = 0 ∨ s.top = 2) : lstep true s 40 = some ⟨s.pre ++ [s.top], 0, 0, s.lf⟩ := by
  unfold lstep
  have h1 : isLD 40 = false := by decide +kernel
  rw [if_neg (by rw [h1]; simp), if_neg (by simp), if_neg (by decide), if_pos ⟨h, rfl⟩]
theorem step_fork {s : LS} {g : Sg} (h : s.top = 1) : lstep true s g.code = some ⟨s.pre, 2, 0, s.lf⟩ := by
  unfold lstep
  have h1 : isLD g.code = false := g.no.1
  have h2 : g.code ≠ 126 := by cases g <;> decide
  have h3 : g.code ≠ 32 := by cases g <;> decide
  rw [if_neg (by rw [h1]; simp), if_neg (fun z => h2 z.2), if_neg h3, if_neg (by omega), if_neg (by omega), if_pos ⟨h, g.mem⟩]
theorem step_close {s : LS} {pp : List Nat} {hh : Nat} (h : s.top = 3) (e : s.pre = pp ++ [hh]) : lstep true s 41 = some ⟨pp, hh + 1, 0, false⟩ := by
  unfold lstep
  have h1 : isLD 41 = false := by decide +kernel
  rw [if_neg (by rw [h1]; simp), if_neg (by simp), if_neg (by decide), if_neg (by omega), if_neg (by omega), if_neg (by omega), if_pos ⟨h, by rw [e]; simp, rfl⟩, e]
  simp
theorem step_comma {s : LS} (e : s.pre = []) (h : s.top = 3 ∨ (s.top = 1 ∧ s.lf = true)) : lstep true s 44 = some ⟨[], 0, 0, s.lf⟩ := by
  unfold lstep
  have h1 : isLD 44 = false := by decide +kernel
  have h2 : ¬ (44 ∈ forkC) := by decide
  rw [if_neg (by rw [h1]; simp), if_neg (by simp), if_neg (by decide), if_neg (by omega), if_neg (by omega), if_neg (fun z => h2 z.2), if_neg (by rw [e]; simp), if_pos ⟨rfl, rfl, e, h⟩]
/-- a name -/
theorem adv_more (pre : List Nat) (top : Nat) : ∀ (n : List Nat) (k : Nat), 0 < k → k + n.length ≤ 12 → n.all isLD = true → Adv ⟨pre, top, k, true⟩ n ⟨pre, top, k + n.length, true⟩
  | [], k, _, _, _ => .nil _
  | c :: n, k, h0, hk, h => by
    rw [List.all_cons, Bool.and_eq_true] at h
    rw [List.length_cons] at hk
    have st : lstep true ⟨pre, top, k, true⟩ c = some ⟨pre, top, k + 1, true⟩ := by
      unfold lstep
      rw [if_pos ⟨h0, h.1⟩, if_neg (by show ¬ k = 12; omega)]
    have := adv_more pre top n (k + 1) (by omega) (by omega) h.2
    rw [show k + 1 + n.length = k + (c :: n).length by rw [List.length_cons]; omega] at this
    exact .cons st this
theorem adv_leaf {s : LS} {co : Bool} {n : List Nat} (hn : isName (Z n) = true) (h : s.top = 0 ∨ s.top = 2) (h0 : s.nm = 0) : ∃ k, Adv s (leafS co n) ⟨s.pre, s.top + 1, k, true⟩ := by
  cases n with
  | nil => exact absurd hn (by decide)
  | cons c n =>
    have hn2 : (decide (1 ≤ (Z (c :: n)).length ∧ (Z (c :: n)).length ≤ 12) && (isL c && (c :: n).all isLD)) = true := hn
    rw [Z_len] at hn2
    rw [Bool.and_eq_true, Bool.and_eq_true, decide_eq_true_eq] at hn2
    obtain ⟨⟨_, hl⟩, hc, ha⟩ := hn2
    rw [List.all_cons, Bool.and_eq_true] at ha
    rw [List.length_cons] at hl
    have st : lstep true s c = some ⟨s.pre, s.top + 1, 1, true⟩ := by
      have hb := letter_no hc
      have h32 : c ≠ 32 := fun e => by
        rw [e] at hc
        exact absurd hc (by decide +kernel)
      have h40 : c ≠ 40 := fun e => by
        rw [e] at hc
        exact absurd hc (by decide +kernel)
      unfold lstep
      rw [if_neg (by omega), if_neg (by omega), if_neg h32, if_neg (fun z => h40 z.2), if_pos ⟨h, hc⟩]
    have a := Adv.cons st (adv_more s.pre (s.top + 1) n 1 (by decide) (by omega) ha.2)
    cases co with
    | false =>
      refine ⟨1 + n.length, ?_⟩
      have e : leafS false (c :: n) = c :: n := List.append_nil _
      rw [e]
      exact a
    | true =>
      have st2 : lstep true ⟨s.pre, s.top + 1, 1 + n.length, true⟩ 126 = some ⟨s.pre, s.top + 1, 0, true⟩ := by
        have h1 : isLD 126 = false := by decide +kernel
        unfold lstep
        rw [if_neg (by rw [h1]; simp), if_pos ⟨by show 0 < 1 + n.length; omega, rfl⟩]
      exact ⟨0, a.trans (.one st2)⟩
/-- a half -/
theorem adv_half : ∀ (t : FT) {ts : List (List Nat)} {cs : List Nat}, t.Ok → Gp (toks true t ++ ts) cs → ∃ c1 c2, cs = c1 ++ c2 ∧ Gp ts c2 ∧ ∀ s : LS, (s.top = 0 ∨ s.top = 2) → s.nm = 0 → ∃ k, Adv s c1 ⟨s.pre, s.top + 1, k, t.isLeaf⟩
  | .leaf co n, ts, cs, h, g => by
    cases g with
    | @cons k _ _ cs' g =>
      refine ⟨spc k ++ leafS co n, cs', by rw [List.append_assoc], g, fun s h1 h2 => ?_⟩
      obtain ⟨p1, p2, p3⟩ := sp_pre s k
      obtain ⟨j, a⟩ := adv_leaf (co := co) h (s := s.sp k) (by rw [p2]; exact h1) (sp_nm k h2)
      rw [p1, p2] at a
      exact ⟨j, (adv_spc s k).trans a⟩
  | .node sg l r, ts, cs, h, g => by
    have e : toks true (.node sg l r) ++ ts = [40] :: (toks true l ++ ([sg.code] :: (toks true r ++ ([41] :: ts)))) := by
      show ([40] :: (toks true l ++ ([sg.code] :: toks true r) ++ [[41]])) ++ ts = _
      simp only [List.append_assoc, List.cons_append, List.nil_append]
    rw [e] at g
    cases g with
    | cons k g =>
      obtain ⟨l1, l2, rfl, g1, al⟩ := adv_half l h.1 g
      cases g1 with
      | cons b g2 =>
        obtain ⟨r1, r2, rfl, g3, ar⟩ := adv_half r h.2 g2
        cases g3 with
        | @cons d _ _ c4 g4 =>
          refine ⟨spc k ++ ([40] ++ (l1 ++ (spc b ++ ([sg.code] ++ (r1 ++ (spc d ++ [41])))))), c4, by simp only [List.append_assoc], g4, fun s h1 h2 => ⟨0, ?_⟩⟩
          obtain ⟨p1, p2, p3⟩ := sp_pre s k
          have a1 := Adv.one (step_open (s := s.sp k) (by rw [p2]; exact h1))
          obtain ⟨k2, a2⟩ := al ⟨(s.sp k).pre ++ [(s.sp k).top], 0, 0, (s.sp k).lf⟩ (.inl rfl) rfl
          have a3 := adv_spc ⟨(s.sp k).pre ++ [(s.sp k).top], 1, k2, l.isLeaf⟩ b
          obtain ⟨q1, q2, q3⟩ := sp_pre ⟨(s.sp k).pre ++ [(s.sp k).top], 1, k2, l.isLeaf⟩ b
          have a4 := Adv.one (step_fork (g := sg) (s := LS.sp ⟨(s.sp k).pre ++ [(s.sp k).top], 1, k2, l.isLeaf⟩ b) q2)
          obtain ⟨k5, a5⟩ := ar ⟨(LS.sp ⟨(s.sp k).pre ++ [(s.sp k).top], 1, k2, l.isLeaf⟩ b).pre, 2, 0, (LS.sp ⟨(s.sp k).pre ++ [(s.sp k).top], 1, k2, l.isLeaf⟩ b).lf⟩ (.inr rfl) rfl
          rw [q1] at a4 a5
          have a6 := adv_spc ⟨(s.sp k).pre ++ [(s.sp k).top], 3, k5, r.isLeaf⟩ d
          obtain ⟨u1, u2, u3⟩ := sp_pre ⟨(s.sp k).pre ++ [(s.sp k).top], 3, k5, r.isLeaf⟩ d
          have a7 := Adv.one (step_close (s := LS.sp ⟨(s.sp k).pre ++ [(s.sp k).top], 3, k5, r.isLeaf⟩ d) u2 u1)
          have e9 : (⟨(s.sp k).pre, (s.sp k).top + 1, 0, false⟩ : LS) = ⟨s.pre, s.top + 1, 0, (FT.node sg l r).isLeaf⟩ := by
            rw [p1, p2]
            rfl
          rw [e9] at a7
          exact (adv_spc s k).trans (a1.trans (a2.trans (a3.trans (a4.trans (a5.trans (a6.trans a7))))))
/-- a form, from the beginning of an end -/
def Ends1 (s : LS) : Prop := s.pre = [] ∧ (s.top = 3 ∨ (s.top = 1 ∧ s.lf = true))
theorem adv_form (t : FT) {ts : List (List Nat)} {cs : List Nat} (h : t.Ok) (g : Gp (toks false t ++ ts) cs) : ∃ c1 c2, cs = c1 ++ c2 ∧ Gp ts c2 ∧ ∀ b : Bool, ∃ u, Adv ⟨[], 0, 0, b⟩ c1 u ∧ Ends1 u := by
  cases t with
  | leaf co n =>
    obtain ⟨c1, c2, e, g2, a⟩ := adv_half (.leaf co n) h g
    refine ⟨c1, c2, e, g2, fun b => ?_⟩
    obtain ⟨k, a⟩ := a ⟨[], 0, 0, b⟩ (.inl rfl) rfl
    exact ⟨_, a, rfl, .inr ⟨rfl, rfl⟩⟩
  | node sg l r =>
    have e : toks false (.node sg l r) ++ ts = toks true l ++ ([sg.code] :: (toks true r ++ ts)) := by
      show (toks true l ++ ([sg.code] :: toks true r)) ++ ts = _
      simp only [List.append_assoc, List.cons_append, List.nil_append]
    rw [e] at g
    obtain ⟨l1, l2, rfl, g1, al⟩ := adv_half l h.1 g
    cases g1 with
    | cons b g2 =>
      obtain ⟨r1, r2, rfl, g3, ar⟩ := adv_half r h.2 g2
      refine ⟨l1 ++ (spc b ++ ([sg.code] ++ r1)), r2, by simp only [List.append_assoc], g3, fun bl => ?_⟩
      obtain ⟨k2, a2⟩ := al ⟨[], 0, 0, bl⟩ (.inl rfl) rfl
      have a3 := adv_spc ⟨[], 1, k2, l.isLeaf⟩ b
      obtain ⟨q1, q2, q3⟩ := sp_pre ⟨[], 1, k2, l.isLeaf⟩ b
      have a4 := Adv.one (step_fork (g := sg) (s := LS.sp ⟨[], 1, k2, l.isLeaf⟩ b) q2)
      obtain ⟨k5, a5⟩ := ar ⟨(LS.sp ⟨[], 1, k2, l.isLeaf⟩ b).pre, 2, 0, (LS.sp ⟨[], 1, k2, l.isLeaf⟩ b).lf⟩ (.inr rfl) rfl
      exact ⟨_, a2.trans (a3.trans (a4.trans a5)), q1, .inl rfl⟩
theorem lok_ends {s : LS} (h : Ends1 s) : lok s = true := by
  obtain ⟨h1, h2⟩ := h
  unfold lok
  rw [decide_eq_true h1, Bool.true_and]
  rcases h2 with h2 | ⟨h2, h3⟩
  · rw [decide_eq_true h2]
    rfl
  · rw [decide_eq_true h2, h3, Bool.true_and, Bool.or_true]
theorem ends_sp {s : LS} (k : Nat) (h : Ends1 s) : Ends1 (s.sp k) := by
  obtain ⟨p1, p2, p3⟩ := sp_pre s k
  unfold Ends1
  rw [p1, p2, p3]
  exact h
theorem adv_row : ∀ (ts : List FT) (t : FT) {cs : List Nat}, (∀ u ∈ t :: ts, u.Ok) → Gp (rowToks (t :: ts)) cs → ∀ b : Bool, ∃ u, Adv ⟨[], 0, 0, b⟩ cs u ∧ Ends1 u
  | [], t, cs, h, g, b => by
    have g : Gp (toks false t ++ []) cs := g
    obtain ⟨c1, c2, rfl, g2, a⟩ := adv_form t (h t (List.mem_cons_self ..)) g
    cases g2 with
    | nil k =>
      obtain ⟨u, a, e⟩ := a b
      exact ⟨_, a.trans (adv_spc u k), ends_sp k e⟩
  | x :: ts, t, cs, h, g, b => by
    have g : Gp (toks false t ++ ([44] :: (toks false x ++ moreToks ts))) cs := by
      have e : rowToks (t :: x :: ts) = toks false t ++ ([44] :: (toks false x ++ moreToks ts)) := by
        show toks false t ++ moreToks (x :: ts) = _
        unfold moreToks
        simp
      rw [← e]
      exact g
    obtain ⟨c1, c2, rfl, g2, a⟩ := adv_form t (h t (List.mem_cons_self ..)) g
    cases g2 with
    | cons k g3 =>
      obtain ⟨u, a, e⟩ := a b
      have e2 := ends_sp k e
      obtain ⟨v, a4, e4⟩ := adv_row ts x (fun u hu => h u (List.mem_cons_of_mem _ hu)) (g3 : Gp (rowToks (x :: ts)) _) (u.sp k).lf
      exact ⟨v, a.trans ((adv_spc u k).trans ((Adv.one (step_comma e2.1 e2.2)).trans a4)), e4⟩
theorem longest_row {ts : List FT} {cs : List Nat} (h1 : 1 ≤ ts.length) (h : ∀ u ∈ ts, u.Ok) (g : Gp (rowToks ts) cs) : longest true cs = (cs.length, true) := by
  cases ts with
  | nil => simp at h1
  | cons t ts =>
    obtain ⟨u, a, e⟩ := adv_row ts t h g false
    have := a 0 []
    rw [List.append_nil, Nat.zero_add] at this
    show lrun true ⟨[], 0, 0, false⟩ 0 cs = _
    rw [this]
    show (cs.length, lok u) = _
    rw [lok_ends e]
end My

set_option Elab.async false
set_option linter.all false
set_option maxRecDepth 100000
/-! Rpl: for c in '..': t = t.replace(c, ' ' + c + ' ') -/
namespace Rpl
open PySem PySem.Spec PyProof.Rows L2
/-- the signs of done, each with a space on both sides -/
def spaced (done l : List Nat) : List Nat := l.flatMap fun d => if d ∈ done then [32, d, 32] else [d]
theorem replL_one (c : Nat) (z : List Nat) : ∀ l : List Nat, StrLaws.replL [c] z l = l.flatMap fun d => if d = c then z else [d]
  | [] => StrLaws.replL_nil
  | d :: l => by
    rw [List.flatMap_cons]
    by_cases h : d = c
    · rw [if_pos h, StrLaws.replL_hit (by simp) (by simp [h])]
      show z ++ StrLaws.replL [c] z l = _
      rw [replL_one c z l]
    · rw [if_neg h, StrLaws.replL_miss (by simp [h]), replL_one c z l]
      rfl
theorem spaced_snoc {done : List Nat} {c : Nat} (h1 : c ∉ done) (h2 : c ≠ 32) : ∀ l : List Nat, (spaced done l).flatMap (fun d => if d = c then [32, c, 32] else [d]) = spaced (done ++ [c]) l
  | [] => rfl
  | d :: l => by
    have ih := spaced_snoc h1 h2 l
    unfold spaced at ih ⊢
    rw [List.flatMap_cons, List.flatMap_cons, List.flatMap_append, ih]
    congr 1
    by_cases hd : d ∈ done
    · have n1 : ¬ d = c := fun e => h1 (e ▸ hd)
      have n2 : ¬ (32 : Nat) = c := fun e => h2 e.symm
      rw [if_pos hd, if_pos (List.mem_append_left _ hd)]
      simp [n1, n2]
    · rw [if_neg hd]
      by_cases e : d = c
      · subst e
        simp
      · have : ¬ d ∈ done ++ [c] := by simp [hd, e]
        rw [if_neg this]
        simp [e]
theorem spaced_nil (l : List Nat) : spaced [] l = l := by
  unfold spaced
  induction l with
  | nil => rfl
  | cons d l ih => rw [List.flatMap_cons, ih]; simp
theorem spaced_len (done : List Nat) : ∀ l : List Nat, (spaced done l).length ≤ 3 * l.length
  | [] => Nat.le_refl _
  | d :: l => by
    have ih := spaced_len done l
    unfold spaced at ih ⊢
    rw [List.flatMap_cons, List.length_append, List.length_cons]
    have : (if d ∈ done then [32, d, 32] else [d]).length ≤ 3 := by split <;> simp
    omega
abbrev ZZ (l : List Nat) : Str := ⟨l.toArray⟩
theorem ZZ_len (l : List Nat) : (ZZ l).length = l.length := by simp [Str.length]
theorem replace_spaced {done : List Nat} {c : Nat} (h1 : c ∉ done) (h2 : c ≠ 32) (l : List Nat) : Txt.replace (ZZ (spaced done l)) ⟨#[c]⟩ ⟨#[32, c, 32]⟩ = ZZ (spaced (done ++ [c]) l) := by
  refine TL.ext_tl ?_
  show (Txt.replace (ZZ (spaced done l)) ⟨#[c]⟩ ⟨#[32, c, 32]⟩).cps.toList = (ZZ (spaced (done ++ [c]) l)).cps.toList
  rw [StrLaws.replace_list (by show 1 ≤ 1; decide)]
  show StrLaws.replL [c] [32, c, 32] (spaced done l) = spaced (done ++ [c]) l
  rw [replL_one, spaced_snoc h1 h2]
section
variable {X : Cx} {pins : List (Addr × Obj)} {σ : L2.St} {H : Hp} {s : Shared}
/-- a local is stored, told as it is -/
theorem store_raw {M : Model} {A : Around} {E : Value → Shared → Prop} {i : Nat} {x : Str} {v : V} {u : Value} {Q : Unit → Shared → Prop} (I : Inv X pins σ H s) (hN : X.N.Nodup) (hi : X.N[i]? = some x) (hk : X.env.kindOf x = some .local) (r : RelV v u)
    (h : ∀ h2 m2, Inv X pins (σ.set i (some v)) H { s with heap := h2, toks := s.toks + 1 } → h2.Ns X.env.locals m2 → m2 x = some u → Heap.SameBut X.env.locals s.heap h2 → Q () { s with heap := h2, toks := s.toks + 1 }) : wpAny M A (storeName X.env x u) Q E s := by
  obtain ⟨m, hn, hl⟩ := id I.loc
  have notcls : (X.env.scope.kind == .class || (X.env.scope.kind == .module && X.env.locals != X.env.globals)) = false := by
    rw [I.ok.kind]
    rfl
  refine wpAny_storeName_local hk hn (fun h2 hn2 sb => h h2 _ ?_ hn2 (if_pos rfl) sb) notcls
  have far : ∀ b o, X.s_0.heap.get? b = some o → h2.get? b = s.heap.get? b := fun b o e => sb.2 b (Nat.ne_of_lt (Nat.lt_of_lt_of_le (Heap.lt_size e) I.ok.above))
  have other : ∀ b o, H b = some o → h2.get? b = s.heap.get? b := fun b o e => sb.2 b fun z => by
    rw [z, I.free] at e
    cases e
  refine ⟨I.ok, I.os, I.bare, ⟨fun b o e n hb hx => ?_, fun b o e n hb hx => ?_, I.base.free, fun b o e hx => ?_, I.base.tups, I.base.frzs, I.base.tbls⟩, ⟨_, hn2, fun j y w e1 e2 e3 => ?_⟩, fun y c e => ?_, I.free, I.freeC, fun p hp => ?_, fun b ob e => ?_, ?_⟩
  · exact (far b o e).trans (I.base.keep b o e n hb hx)
  · obtain ⟨sl, q⟩ := I.base.slot b o e n hb hx
    exact ⟨sl, (far b o e).trans q⟩
  · obtain ⟨o2, q⟩ := I.base.there b o e hx
    exact ⟨o2, (far b o e).trans q⟩
  · by_cases hj : j = i
    · subst hj
      have lt : j < σ.length := by
        rw [I.len]
        exact (List.getElem?_eq_some_iff.mp hi).1
      rw [hi] at e1
      cases e1
      rw [List.getElem?_set_self lt] at e2
      cases e2
      exact ⟨u, r, .inl ⟨hk, if_pos rfl⟩⟩
    · rw [List.getElem?_set_ne (Ne.symm hj)] at e2
      obtain ⟨u2, r2, q⟩ := hl j y w e1 e2 e3
      refine ⟨u2, r2, q.elim (fun ⟨k1, k2⟩ => .inl ⟨k1, ?_⟩) fun ⟨k1, c, k2, k3⟩ => .inr ⟨k1, c, k2, k3.sameBut sb (I.cne y c k2)⟩⟩
      have ne : y ≠ x := fun e => hj (nodup_ix hN e1 (e ▸ hi))
      exact (if_neg ne).trans k2
  · obtain ⟨w, q⟩ := I.cell y c e
    exact ⟨w, q.sameBut sb (I.cne y c e)⟩
  · obtain ⟨q1, q2, q3, q4, q5⟩ := I.pin p hp
    exact ⟨(sb.2 p.1 q3).trans q1, q2, q3, q4, q5⟩
  · refine (I.hok b ob e).stay (fun c w hc q => ?_) (fun _ q => q) fun _ _ q => q
    rcases hc with hc | hc
    · rw [hc]
      rw [hc] at q
      exact (other b ob e).trans q
    · exact (other c _ hc).trans q
  · rw [List.length_set]
    exact I.len
end
end Rpl

set_option Elab.async false
set_option linter.all false
set_option maxRecDepth 100000
namespace Rpl
open PySem PySem.Spec PyProof.Rows L2
/-- i: the text's place, k: the sign's -/
def tRepl (i k : Nat) (S : Str) : TS := fun D σ H => ∃ l, σ[i]? = some (some (.str (ZZ l))) ∧ 12 * l.length + 100 ≤ 16777216 ∧ D.nx ((σ.set k none).set i (some (.str (ZZ (spaced S.cps.toList l))))) H
theorem take_succ_of {l : List Nat} {j c : Nat} (h : l[j]? = some c) : l.take (j + 1) = l.take j ++ [c] := by
  rw [List.take_succ, h]
  rfl
theorem not_in_take : ∀ {l : List Nat} {j c : Nat}, l.Nodup → l[j]? = some c → c ∉ l.take j
  | [], _, _, _, h => by simp at h
  | x :: l, 0, _, _, _ => by simp
  | x :: l, j + 1, c, hn, h => by
    have h : l[j]? = some c := by simpa using h
    obtain ⟨h1, h2⟩ := List.nodup_cons.mp hn
    rw [List.take_succ_cons, List.mem_cons, not_or]
    exact ⟨fun e => h1 (e ▸ List.mem_of_getElem? h), not_in_take h2 h⟩
section
variable {X : Cx}
theorem ps_repl {i k : Nat} {tx sg : Str} {S : Str} {j0 j1 j2 : Nat} {q1 q2 q3 q4 q5 q6 q7 q8 q9 q10 q11 q12 q13 q14 : Pos} (hp : PassesOwn (model X.prog X.w) X.A X.env X.xe) (hc : X.calm = true) (hN : X.N.Nodup) (hi : X.N[i]? = some tx) (hk : X.N[k]? = some sg) (hik : i ≠ k)
    (ht : X.env.kindOf tx = some .local) (hg : X.env.kindOf sg = some .local) (hasc : S.cps.all (· < 128) = true) (hnd : S.cps.toList.Nodup) (h32 : 32 ∉ S.cps.toList) (dt : (tx == ("__debug__" : Str)) = false) (dg : (sg == ("__debug__" : Str)) = false) (ct : (tx == ("__classdict__" : Str)) = false)
    (hbase : attributeBase (.Name tx q4) "replace" X.env (eval (.Name tx q4) X.env) = eval (.Name tx q4) X.env) (hline : (q5.endLine == q12.line) = true)
    (hst : starEach [.Name sg q6, .BinOp (.BinOp (.Constant (.str " ") j1 q7) .Add (.Name sg q8) q9) .Add (.Constant (.str " ") j2 q10) q11] X.env = [(false, eval (.Name sg q6) X.env), (false, eval (.BinOp (.BinOp (.Constant (.str " ") j1 q7) .Add (.Name sg q8) q9) .Add (.Constant (.str " ") j2 q10) q11) X.env)])
    (hsw : swapsWith (.Call (.Attribute (.Name tx q4) "replace" q5) [.Name sg q6, .BinOp (.BinOp (.Constant (.str " ") j1 q7) .Add (.Name sg q8) q9) .Add (.Constant (.str " ") j2 q10) q11] [] q12) (some (.Name tx q3)) q13.line X.env = pure false)
    (hs : ∀ x, foldedSetIterable (.Constant (.str S) j0 q2) X.env x = pure x := by intro _; rfl) :
    PS X (.For (.Name sg q1) (.Constant (.str S) j0 q2) [.Assign [.Name tx q3] (.Call (.Attribute (.Name tx q4) "replace" q5) [.Name sg q6, .BinOp (.BinOp (.Constant (.str " ") j1 q7) .Add (.Name sg q8) q9) .Add (.Constant (.str " ") j2 q10) q11] [] q12) q13] [] q14) (tRepl i k S) := by
  refine ⟨fun pins s σ H D I h => ?_⟩
  obtain ⟨l, hl, hb, q⟩ := h
  have il : i < σ.length := (List.getElem?_eq_some_iff.mp hl).1
  refine wpAny_For (Calls.Constant_str (wpAny_pyIter_ascii hasc ?_)) hs
  generalize hit : s.heap.objs.size = it
  have I0 : Inv X pins σ H { s with heap := s.heap.push { cls := .type "str_ascii_iterator", data := .fields #[.str S s.toks, .int 0 0] }, toks := s.toks + 1 } := I.kept fun b o e => Heap.get?_push_of_some _ e
  have f0 : FpOk X pins H it := I.fpOk (Nat.le_of_eq hit) (I.hok.fresh (Nat.le_of_eq hit))
  obtain ⟨g0, g1, g2, g3, g4, g5⟩ := f0
  have e0 : (s.heap.push { cls := .type "str_ascii_iterator", data := .fields #[.str S s.toks, .int 0 0] }).get? it = some (Froz.itObj S s.toks 0) := by
    rw [← hit]
    exact Heap.get?_push_size _ rfl
  have start : Inv X pins ((σ.set k none).set i (some (.str (ZZ (spaced (S.cps.toList.take 0) l))))) H { s with heap := s.heap.push { cls := .type "str_ascii_iterator", data := .fields #[.str S s.toks, .int 0 0] }, toks := s.toks + 1 } := by
    refine I0.weak (by simp) fun a v e => ?_
    rw [List.take_zero, spaced_nil] at e
    by_cases ai : a = i
    · subst ai
      rw [List.getElem?_set_self (by simpa using il)] at e
      rw [hl]
      exact e
    · rw [List.getElem?_set_ne (Ne.symm ai)] at e
      by_cases ak : a = k
      · subst ak
        by_cases la : a < σ.length
        · rw [List.getElem?_set_self la] at e
          cases e
        · rw [List.getElem?_eq_none (by simpa using la)] at e
          cases e
      · rw [List.getElem?_set_ne (Ne.symm ak)] at e
        exact e
  refine codeAny_forLoop_any (fun n t => ∃ j, j ≤ S.cps.size ∧ n = S.cps.size - j ∧ Inv X pins ((σ.set k none).set i (some (.str (ZZ (spaced (S.cps.toList.take j) l))))) H t ∧ t.heap.get? it = some (Froz.itObj S s.toks j) ∧ 1 ≤ t.toks) ?_ S.cps.size ⟨0, Nat.zero_le _, rfl, start, e0, Nat.le_add_left _ _⟩
  rintro n t ⟨j, jl, rfl, J, ej, tk⟩
  refine wpAny_passesOwn hp ?_
  by_cases lt : j < S.cps.size
  · obtain ⟨c, hcj⟩ : ∃ c, S.cps[j]? = some c := ⟨S.cps[j], by simp [lt]⟩
    refine Froz.next_x ej hcj ?_
    have e1 : (t.heap.update it (fun _ => Froz.itObj S s.toks (j + 1))).get? it = some (Froz.itObj S s.toks (j + 1)) := Froz.get_upd _ ej rfl
    have J1 : Inv X pins ((σ.set k none).set i (some (.str (ZZ (spaced (S.cps.toList.take j) l))))) H { t with heap := t.heap.update it (fun _ => Froz.itObj S s.toks (j + 1)), toks := t.toks + 1 } :=
      J.turned (fun b o n e => (Heap.get?_update_other _ _ (Ne.symm n)).trans e) g0 g1 g3 g4 g5
    generalize ht1 : ({ t with heap := t.heap.update it (fun _ => Froz.itObj S s.toks (j + 1)), toks := t.toks + 1 } : Shared) = t1 at J1 ⊢
    have k1 : t1.toks = t.toks + 1 := by rw [← ht1]
    have e2 : t1.heap.get? it = some (Froz.itObj S s.toks (j + 1)) := by rw [← ht1]; exact e1
    refine go_of e2 rfl rfl (by decide) ?_
    refine wpAny_passesOwn hp (wpAny_assign_Name (store_raw (v := .str ⟨#[c]⟩) J1 hN hk hg ⟨_, rfl⟩ fun h2 m2 J2 n2 v2 sb => ?_))
    refine wpAny_passesOwn hp ?_
    have cj : S.cps.toList[j]? = some c := by
      rw [← hcj]
      simp
    have tk1 : S.cps.toList.take (j + 1) = S.cps.toList.take j ++ [c] := take_succ_of cj
    have cin : c ∈ S.cps.toList := List.mem_of_getElem? cj
    have c32 : c ≠ 32 := fun e => h32 (e ▸ cin)
    have cnd : c ∉ S.cps.toList.take j := not_in_take hnd cj
    have σi : (((σ.set k none).set i (some (.str (ZZ (spaced (S.cps.toList.take j) l))))).set k (some (.str ⟨#[c]⟩)))[i]? = some (some (.str (ZZ (spaced (S.cps.toList.take j) l)))) := by
      rw [List.getElem?_set_ne (Ne.symm hik), List.getElem?_set_self (by simpa using il)]
    have sl := spaced_len (S.cps.toList.take j) l
    have e3 : Str.ofString " " ++ (⟨#[c]⟩ : Str) ++ Str.ofString " " = ⟨#[32, c, 32]⟩ := rfl
    refine wpAny_execs_cons (wpAny_Assign_Name (PySem.Call_method2 hbase hst hline (raw_name hi (.inl ht) J2 σi (fun v r => ?_) dt ct)) hsw)
    obtain ⟨tv, rfl⟩ := r
    refine ⟨"str", _, F.plainAttrs_str, F.slot_str_replace, F.type_str_replace, typeIs_str _ _ _, (fun _ e => nomatch e), Calls.callWith_builtin rfl (Calls.evalArgs_plain (Calls.spliced_cons ?_))⟩
    refine wpAny_Name (wpAny_loadName_local I.ok.kind hg n2 v2 ?_) dg
    refine Calls.spliced_cons (wpAny_BinOp (wpAny_BinOp (Calls.Constant_str (wpAny_Name (wpAny_loadName_local I.ok.kind hg n2 v2 ?_) dg))))
    refine PySem.P.add_str ?_
    refine ⟨by show 2 ≤ sizeLine; decide, ?_⟩
    refine Calls.Constant_str (PySem.P.add_str ?_)
    refine ⟨by show 3 ≤ sizeLine; decide, ?_⟩
    refine Calls.spliced_nil ?_
    refine PySem.SC.replace (fun z => ?_) (fun z => ?_) (fun z => ?_) ?_ ?_ fun t' k' => ?_
    · have z : t.toks = 0 := z
      omega
    · have z : t1.toks + 1 + 1 + 1 + 1 = 0 := z
      omega
    · have z : t.toks = t1.toks + 1 + 1 + 1 + 1 := z
      omega
    · rw [e3, beq_eq_false_iff_ne]
      intro e
      have e := congrArg Str.length e
      exact absurd e (by show ¬ 1 = 3; decide)
    · rw [e3, ZZ_len]
      show (spaced (S.cps.toList.take j) l).length + ((spaced (S.cps.toList.take j) l).length + 1) * 3 ≤ 16777216
      omega
    · rw [e3, replace_spaced cnd c32, ← tk1]
      refine store_raw (v := .str (ZZ (spaced (S.cps.toList.take (j + 1)) l))) (J2.tok k') hN hi ht ⟨_, rfl⟩ (fun h9 m9 J9 n9 v9 sb9 => ?_)
      refine wpAny_execs_nil ?_
      refine ⟨S.cps.size - (j + 1), by omega, j + 1, lt, rfl, ?_, (sb9.2 it g1).trans ((sb.2 it g1).trans e2), Nat.le_add_left _ _⟩
      refine J9.weak (by simp) fun a v e => ?_
      by_cases ai : a = i
      · subst ai
        rw [List.getElem?_set_self (by simpa using il)] at e
        rw [List.getElem?_set_self (by simpa using il)]
        exact e
      · rw [List.getElem?_set_ne (Ne.symm ai)] at e
        rw [List.getElem?_set_ne (Ne.symm ai)]
        by_cases ak : a = k
        · subst ak
          by_cases la : a < σ.length
          · rw [List.getElem?_set_self la] at e
            cases e
          · rw [List.getElem?_eq_none (by simpa using la)] at e
            cases e
        · rw [List.getElem?_set_ne (Ne.symm ak)] at e
          rw [List.getElem?_set_ne (Ne.symm ak), List.getElem?_set_ne (Ne.symm ai), List.getElem?_set_ne (Ne.symm ak)]
          exact e
  · obtain rfl : j = S.cps.size := by omega
    refine Froz.end_x (I.ok.hd hc) ej (by simp) ?_
    rw [List.take_of_length_le (by simp)] at J
    exact wpAny_execs_nil ⟨_, H, J.turned (t' := t.toks) (fun b o n e => Heap.get?_push_of_some _ (Heap.get?_push_of_some _ ((Heap.get?_update_other _ _ (Ne.symm n)).trans e))) g0 g1 g3 g4 g5, q⟩
end
end Rpl

set_option Elab.async false
set_option linter.all false
set_option maxRecDepth 100000
namespace My
open PySem L2
/-! ### rows read, token by token -/
inductive TK where
  | op | cl | cm
  | sg (s : Sg)
  | nm (co : Bool) (n : List Nat)
def TK.txt : TK → List Nat
  | .op => [40]
  | .cl => [41]
  | .cm => [44]
  | .sg s => [s.code]
  | .nm co n => leafS co n
def TK.Ok : TK → Prop
  | .nm _ n => isName (Z n) = true
  | _ => True
def tks : Bool → FT → List TK
  | _, .leaf co n => [.nm co n]
  | false, .node s l r => tks true l ++ (.sg s :: tks true r)
  | true, .node s l r => .op :: (tks true l ++ (.sg s :: tks true r) ++ [.cl])
theorem tks_txt : ∀ (t : FT) (h : Bool), (tks h t).map TK.txt = toks h t
  | .leaf co n, h => by cases h <;> rfl
  | .node s l r, h => by
    have hl := tks_txt l true
    have hr := tks_txt r true
    cases h with
    | false =>
      show (tks true l ++ (.sg s :: tks true r)).map TK.txt = toks true l ++ ([s.code] :: toks true r)
      rw [List.map_append, List.map_cons, hl, hr]
      rfl
    | true =>
      show (TK.op :: (tks true l ++ (.sg s :: tks true r) ++ [.cl])).map TK.txt = [40] :: (toks true l ++ ([s.code] :: toks true r) ++ [[41]])
      rw [List.map_cons, List.map_append, List.map_append, List.map_cons, hl, hr]
      rfl
theorem tks_ok : ∀ (t : FT) (h : Bool), t.Ok → ∀ k ∈ tks h t, k.Ok
  | .leaf co n, h, o, k, m => by
    have e : k = .nm co n := by cases h <;> exact List.mem_singleton.mp m
    rw [e]
    exact o
  | .node s l r, h, o, k, m => by
    have key : ∀ k ∈ tks true l ++ (.sg s :: tks true r), k.Ok := fun k m => by
      rcases List.mem_append.mp m with m | m
      · exact tks_ok l true o.1 k m
      · rcases List.mem_cons.mp m with m | m
        · rw [m]
          exact trivial
        · exact tks_ok r true o.2 k m
    cases h with
    | false => exact key k m
    | true =>
      have m : k ∈ TK.op :: (tks true l ++ (.sg s :: tks true r) ++ [.cl]) := m
      rcases List.mem_cons.mp m with m | m
      · rw [m]
        exact trivial
      · rcases List.mem_append.mp m with m | m
        · exact key k m
        · rw [List.mem_singleton.mp m]
          exact trivial
def moreTks (ts : List FT) : List TK := (ts.map fun t => TK.cm :: tks false t).flatten
def rowTks : List FT → List TK
  | [] => []
  | t :: ts => tks false t ++ moreTks ts
theorem moreTks_txt : ∀ ts : List FT, (moreTks ts).map TK.txt = moreToks ts
  | [] => rfl
  | t :: ts => by
    have ih := moreTks_txt ts
    unfold moreTks moreToks at ih ⊢
    simp only [List.map_cons, List.flatten_cons, List.map_append, ih, tks_txt]
    rfl
theorem rowTks_txt (ts : List FT) : (rowTks ts).map TK.txt = rowToks ts := by
  cases ts with
  | nil => rfl
  | cons t ts =>
    show (tks false t ++ moreTks ts).map TK.txt = toks false t ++ moreToks ts
    rw [List.map_append, tks_txt, moreTks_txt]
theorem moreTks_ok (ts : List FT) (h : ∀ t ∈ ts, t.Ok) : ∀ k ∈ moreTks ts, k.Ok := fun k m => by
  unfold moreTks at m
  obtain ⟨l, hl, hk⟩ := List.mem_flatten.mp m
  obtain ⟨t, ht, rfl⟩ := List.mem_map.mp hl
  rcases List.mem_cons.mp hk with e | hk
  · rw [e]
    exact trivial
  · exact tks_ok t false (h t ht) k hk
theorem rowTks_ok (ts : List FT) (h : ∀ t ∈ ts, t.Ok) : ∀ k ∈ rowTks ts, k.Ok := fun k m => by
  cases ts with
  | nil => cases m
  | cons t ts =>
    rcases List.mem_append.mp (m : k ∈ tks false t ++ moreTks ts) with m | m
    · exact tks_ok t false (h t (List.mem_cons_self ..)) k m
    · exact moreTks_ok ts (fun t ht => h t (List.mem_cons_of_mem _ ht)) k m
inductive It6 where
  | pt (t : FT)
  | wd (s : Sg)
structure RS where
  out : List FT
  pre : List (List It6)
  top : List It6
def fold6 : List It6 → Option FT
  | [.pt t] => some t
  | [.pt a, .wd s, .pt b] => some (.node s a b)
  | _ => none
def rst (s : RS) : TK → Option RS
  | .op => some ⟨s.out, s.pre ++ [s.top], []⟩
  | .cl => match fold6 s.top, s.pre.getLast? with
    | some t, some l => some ⟨s.out, s.pre.dropLast, l ++ [.pt t]⟩
    | _, _ => none
  | .cm => match fold6 s.top with
    | some t => some ⟨s.out ++ [t], s.pre, []⟩
    | none => none
  | .sg g => some ⟨s.out, s.pre, s.top ++ [.wd g]⟩
  | .nm co n => some ⟨s.out, s.pre, s.top ++ [.pt (.leaf co n)]⟩
def rrun : RS → List TK → Option RS
  | s, [] => some s
  | s, k :: ks => match rst s k with
    | some t => rrun t ks
    | none => none
theorem rrun_some {s t : RS} {k : TK} {ks : List TK} (h : rst s k = some t) : rrun s (k :: ks) = rrun t ks := by
  show (match rst s k with | some t => rrun t ks | none => none) = _
  rw [h]
theorem rrun_half : ∀ (t : FT) (s : RS) (ks : List TK), rrun s (tks true t ++ ks) = rrun ⟨s.out, s.pre, s.top ++ [.pt t]⟩ ks
  | .leaf co n, s, ks => rrun_some (k := .nm co n) rfl
  | .node g l r, s, ks => by
    have e : tks true (.node g l r) ++ ks = TK.op :: (tks true l ++ (.sg g :: (tks true r ++ (.cl :: ks)))) := by
      show (TK.op :: (tks true l ++ (.sg g :: tks true r) ++ [.cl])) ++ ks = _
      simp only [List.append_assoc, List.cons_append, List.nil_append]
    rw [e, rrun_some rfl, rrun_half l, rrun_some rfl, rrun_half r]
    refine rrun_some ?_
    show (match fold6 [It6.pt l, It6.wd g, It6.pt r], (s.pre ++ [s.top]).getLast? with
      | some t, some l => some (RS.mk s.out (s.pre ++ [s.top]).dropLast (l ++ [It6.pt t]))
      | _, _ => none) = _
    rw [List.getLast?_append, List.dropLast_concat]
    rfl
theorem rrun_form (t : FT) (s : RS) (hs : s.top = []) (ks : List TK) : ∃ u, fold6 u = some t ∧ rrun s (tks false t ++ ks) = rrun ⟨s.out, s.pre, u⟩ ks := by
  cases t with
  | leaf co n =>
    refine ⟨[.pt (.leaf co n)], rfl, ?_⟩
    have := rrun_half (.leaf co n) s ks
    rw [hs] at this
    exact this
  | node g l r =>
    refine ⟨[.pt l, .wd g, .pt r], rfl, ?_⟩
    have e : tks false (.node g l r) ++ ks = tks true l ++ (.sg g :: (tks true r ++ ks)) := by
      show (tks true l ++ (.sg g :: tks true r)) ++ ks = _
      simp only [List.append_assoc, List.cons_append]
    rw [e, rrun_half l, rrun_some rfl, rrun_half r, hs]
    rfl
theorem rrun_more : ∀ (ts : List FT) (s : RS) (t : FT), fold6 s.top = some t → ∃ u v, rrun s (moreTks ts) = some u ∧ u.pre = s.pre ∧ fold6 u.top = some v ∧ u.out ++ [v] = s.out ++ (t :: ts)
  | [], s, t, h => ⟨s, t, rfl, rfl, h, rfl⟩
  | x :: ts, s, t, h => by
    have e : moreTks (x :: ts) = TK.cm :: (tks false x ++ moreTks ts) := by
      unfold moreTks
      rw [List.map_cons, List.flatten_cons]
      rfl
    have h1 : rst s .cm = some ⟨s.out ++ [t], s.pre, []⟩ := by
      show (match fold6 s.top with | some t => some (RS.mk (s.out ++ [t]) s.pre []) | none => none) = _
      rw [h]
    rw [e, rrun_some h1]
    obtain ⟨u, hu, e2⟩ := rrun_form x ⟨s.out ++ [t], s.pre, []⟩ rfl (moreTks ts)
    rw [e2]
    obtain ⟨a, b, c1, c2, c3, c4⟩ := rrun_more ts ⟨s.out ++ [t], s.pre, u⟩ x hu
    refine ⟨a, b, c1, c2, c3, ?_⟩
    rw [c4]
    show s.out ++ [t] ++ (x :: ts) = _
    rw [List.append_assoc]
    rfl
theorem rrun_row {ts : List FT} (h : 1 ≤ ts.length) : ∃ u v, rrun ⟨[], [], []⟩ (rowTks ts) = some u ∧ u.pre = [] ∧ fold6 u.top = some v ∧ u.out ++ [v] = ts := by
  cases ts with
  | nil => simp at h
  | cons t ts =>
    obtain ⟨u, hu, e⟩ := rrun_form t ⟨[], [], []⟩ rfl (moreTks ts)
    obtain ⟨a, b, c1, c2, c3, c4⟩ := rrun_more ts ⟨[], [], u⟩ t hu
    exact ⟨a, b, by rw [← c1, ← e]; rfl, c2, c3, c4⟩
/-! ### parts in the heap -/
def PartV (K : PySem.W.Frag) (H : Hp) (t : FT) (v : V) : Prop := ∃ p f, v = .ref p ∧ SqT K H p [f, .int (t.dep : Nat)] ∧ Fm K H t f
def ItemV (K : PySem.W.Frag) (H : Hp) (v : V) : It6 → Prop
  | .pt t => PartV K H t v
  | .wd s => v = .str s.word
theorem PartV.kt {K : PySem.W.Frag} {H H' : Hp} (k : KT H H') {t : FT} {v : V} (h : PartV K H t v) : PartV K H' t v := by
  obtain ⟨p, f, e, hs, hf⟩ := h
  exact ⟨p, f, e, k.seq hs, k.fm t hf⟩
theorem ItemV.kt {K : PySem.W.Frag} {H H' : Hp} (k : KT H H') : ∀ {v : V} {x : It6}, ItemV K H v x → ItemV K H' v x
  | _, .pt _, h => PartV.kt k h
  | _, .wd _, h => h
abbrev s_law_folded : Stmt := top 69
abbrev N_law_folded : List Str := ["_law_level"]
abbrev P_law_folded : List Str := ["_law_level"]
theorem sc_law_folded : FnScope N_law_folded P_law_folded (defScope s_law_folded) := ⟨rfl, rfl, rfl, by decide +kernel, rfl, by decide +kernel, by decide +kernel⟩
def spFolded (K : PySem.W.Frag) : Sp := fun vs H Q _ => ∃ (a : Addr) (xs : List V) (items : List It6) (t : FT), vs = [.ref a] ∧ SqL K H a xs ∧ Paired (ItemV K H) xs items ∧ fold6 items = some t ∧ ∀ H' v, Same H H' → PartV K H' t v → Q v H'
theorem fold6_inv {items : List It6} {t : FT} (h : fold6 items = some t) : items = [.pt t] ∨ ∃ a s b, items = [.pt a, .wd s, .pt b] ∧ t = .node s a b := by
  unfold fold6 at h
  split at h
  · cases h
    exact .inl rfl
  · cases h
    exact .inr ⟨_, _, _, rfl, rfl⟩
  · cases h
section
variable {P : Program} {w : World} {K : PySem.W.Frag} {mg : Str → Option Value} {base : Heap} {f : Addr} {fd : FuncData}
theorem ok_law_folded (T : Txt K mg) (F : Fun K "_law_folded" "_law_folded" s_law_folded f fd) : FnOk P w K mg base CX0 1 f fd P_law_folded (spFolded K) := by
  refine F.ok sc_law_folded (fun vs H Q E h => ?_) (fun cdv A outer s H vs Q E hr h => ?_)
  · obtain ⟨a, xs, items, t, rfl, _⟩ := h
    rfl
  obtain ⟨a, xs, items, t, rfl, hs, hp, hf, q⟩ := h
  refine ⟨_, (pss_cons (ps_if (pt_cmpR op_eq (pe_callB call_len rfl T.len (by decide +kernel) (pa_cons (pv 0) pa_nil)) pe_int (nomark _))
    (pss_one (ps_ret (pe_ix ix_list (pv 0) pe_int (fun _ _ => rfl))))
    pss_nil)
  (pss_one (ps_ret (pe_tupN (pa_cons (pe_tupN (pa_cons (pe_ix ix_list (pv 0) pe_int (fun _ _ => rfl)) (pa_cons (pe_ix ix_tup (pe_ix ix_list (pv 0) pe_int (fun _ _ => rfl)) pe_int (fun _ _ => rfl)) (pa_cons (pe_ix ix_tup (pe_ix ix_list (pv 0) pe_int (fun _ _ => rfl)) pe_int (fun _ _ => rfl)) pa_nil)))) (pa_cons (pe_op op_add pe_int (pe_callB (cr_max rfl) rfl T.max (by decide +kernel) (pa_cons (pe_lst (pa_cons (pe_ix ix_tup (pe_ix ix_list (pv 0) pe_int (fun _ _ => rfl)) pe_int (fun _ _ => rfl)) (pa_cons (pe_ix ix_tup (pe_ix ix_list (pv 0) pe_int (fun _ _ => rfl)) pe_int (fun _ _ => rfl)) pa_nil))) pa_nil))) pa_nil)))))), ?_⟩
  rcases fold6_inv hf with rfl | ⟨ta, g, tb, rfl, rfl⟩
  · cases hp with | @cons v _ _ _ h1 hp =>
    cases hp
    exact ⟨_, rfl, _, _, rfl, .inl ⟨_, hs, rfl⟩, rfl, _, rfl, iteT ⟨_, rfl, a, _, 0, v, rfl, rfl, hs, rfl, q H v (Same.refl H) h1⟩⟩
  · cases hp with | @cons v1 _ _ _ h1 hp => cases hp with | @cons v2 _ _ _ h2 hp => cases hp with | @cons v3 _ _ _ h3 hp =>
    cases hp
    have h2 : v2 = .str g.word := h2
    subst h2
    obtain ⟨p1, f1, rfl, s1, m1⟩ := h1
    obtain ⟨p3, f3, rfl, s3, m3⟩ := h3
    refine ⟨_, rfl, _, _, rfl, .inl ⟨_, hs, rfl⟩, rfl, _, rfl, iteF ?_⟩
    refine ⟨_, rfl, a, _, 1, _, rfl, rfl, hs, rfl, ?_⟩
    refine ⟨_, rfl, a, _, 0, _, rfl, rfl, hs, rfl, p1, _, 0, f1, rfl, rfl, s1, rfl, ?_⟩
    refine ⟨_, rfl, a, _, 2, _, rfl, rfl, hs, rfl, p3, _, 0, f3, rfl, rfl, s3, rfl, le1k, fun p4 H4 s4 e4 => ?_⟩
    refine ⟨_, rfl, a, _, 0, _, rfl, rfl, s4.seq hs, rfl, p1, _, 1, _, rfl, rfl, (Same.kt s4).seq s1, rfl, ?_⟩
    refine ⟨_, rfl, a, _, 2, _, rfl, rfl, s4.seq hs, rfl, p3, _, 1, _, rfl, rfl, (Same.kt s4).seq s3, rfl, ?_⟩
    refine ⟨by show 2 ≤ sizeLine; decide, fun p5 n5 => ⟨p5, [(ta.dep : Int), (tb.dep : Int)], rfl, SqL.of upd_same, by simp, fun m hm hle => ?_⟩⟩
    have l1 := hle (ta.dep : Int) (by simp)
    have l2 := hle (tb.dep : Int) (by simp)
    have em : (1 : Int) + m = (((FT.node g ta tb).dep : Nat) : Int) := by
      show (1 : Int) + m = ((1 + max ta.dep tb.dep : Nat) : Int)
      simp only [List.mem_cons, List.not_mem_nil, or_false] at hm
      omega
    refine ⟨_, _, rfl, rfl, ?_⟩
    have s5 := same_new n5 (.lst [V.int (ta.dep : Int), V.int (tb.dep : Int)])
    refine ⟨le1k, fun p6 H6 s6 e6 => q H6 (.ref p6) ((s4.trans s5).trans s6) ⟨p6, .ref p4, rfl, ?_, ?_⟩⟩
    · have e6 : SqT K H6 p6 [V.ref p4, .int (1 + m)] := e6
      rw [em] at e6
      exact e6
    · have k := Same.kt ((s4.trans s5).trans s6)
      exact ⟨p4, f1, f3, rfl, (Same.kt (s5.trans s6)).seq e4, k.fm ta m1, k.fm tb m3⟩
end
end My

set_option Elab.async false
set_option linter.all false
set_option maxRecDepth 100000
namespace My
open PySem L2
/-! ### the words of a row whose signs stand between spaces -/
def signsC : List Nat := [40, 41, 42, 124, 38, 43, 44]
def isNm : TK → Bool
  | .nm _ _ => true
  | _ => false
def headNm : List TK → Bool
  | [] => false
  | k :: _ => isNm k
/-- no two names side by side -/
def Alt : List TK → Prop
  | [] => True
  | k :: ks => (isNm k = true → headNm ks = false) ∧ Alt ks
theorem alt_half : ∀ (t : FT) (ks : List TK), Alt ks → headNm ks = false → Alt (tks true t ++ ks)
  | .leaf co n, ks, h, h2 => ⟨fun _ => h2, h⟩
  | .node g l r, ks, h, h2 => by
    have e : tks true (.node g l r) ++ ks = TK.op :: (tks true l ++ (.sg g :: (tks true r ++ (.cl :: ks)))) := by
      show (TK.op :: (tks true l ++ (.sg g :: tks true r) ++ [.cl])) ++ ks = _
      simp only [List.append_assoc, List.cons_append, List.nil_append]
    rw [e]
    have a1 : Alt (TK.cl :: ks) := ⟨fun z => (by cases z), h⟩
    have a2 := alt_half r _ a1 rfl
    have a3 : Alt (TK.sg g :: (tks true r ++ (.cl :: ks))) := ⟨fun z => (by cases z), a2⟩
    exact ⟨fun z => (by cases z), alt_half l _ a3 rfl⟩
theorem alt_form (t : FT) (ks : List TK) (h : Alt ks) (h2 : headNm ks = false) : Alt (tks false t ++ ks) := by
  cases t with
  | leaf co n => exact ⟨fun _ => h2, h⟩
  | node g l r =>
    have e : tks false (.node g l r) ++ ks = tks true l ++ (.sg g :: (tks true r ++ ks)) := by
      show (tks true l ++ (.sg g :: tks true r)) ++ ks = _
      simp only [List.append_assoc, List.cons_append]
    rw [e]
    exact alt_half l _ ⟨fun z => (by cases z), alt_half r ks h h2⟩ rfl
theorem alt_more : ∀ ts : List FT, Alt (moreTks ts) ∧ headNm (moreTks ts) = false
  | [] => ⟨trivial, rfl⟩
  | t :: ts => by
    obtain ⟨h1, h2⟩ := alt_more ts
    have e : moreTks (t :: ts) = TK.cm :: (tks false t ++ moreTks ts) := by
      unfold moreTks
      rw [List.map_cons, List.flatten_cons]
      rfl
    rw [e]
    exact ⟨⟨fun z => (by cases z), alt_form t _ h1 h2⟩, rfl⟩
theorem alt_row (ts : List FT) : Alt (rowTks ts) := by
  cases ts with
  | nil => trivial
  | cons t ts => exact alt_form t _ (alt_more ts).1 (alt_more ts).2
def flush (ws : List (List Nat)) (u : List Nat) : List (List Nat) := if u = [] then ws else ws ++ [u]
theorem wstep32 (ws : List (List Nat)) (u : List Nat) : TL.wstep (ws, u) 32 = (flush ws u, []) := by
  have h : Unicode.isSpace 32 = true := by decide +kernel
  unfold TL.wstep flush
  rw [if_pos h]
  by_cases e : u = []
  · rw [if_pos e, if_pos e, e]
  · rw [if_neg e, if_neg e]
theorem wspc (ws : List (List Nat)) : ∀ (k : Nat) (u : List Nat), (spc k).foldl TL.wstep (ws, u) = if k = 0 then (ws, u) else (flush ws u, [])
  | 0, u => rfl
  | k + 1, u => by
    show (spc k).foldl TL.wstep (TL.wstep (ws, u) 32) = _
    rw [wstep32, if_neg (by omega)]
    have : ∀ (j : Nat) (x : List (List Nat)), (spc j).foldl TL.wstep (x, []) = (x, []) := fun j => by
      induction j with
      | zero => intro x; rfl
      | succ j ih =>
        intro x
        show (spc j).foldl TL.wstep (TL.wstep (x, []) 32) = _
        rw [wstep32]
        exact ih x
    exact this k _
theorem spaced_spc (k : Nat) : Rpl.spaced signsC (spc k) = spc k := by
  unfold Rpl.spaced
  induction k with
  | zero => rfl
  | succ k ih =>
    show (if (32 : Nat) ∈ signsC then _ else [32]) ++ List.flatMap _ (spc k) = _
    rw [if_neg (by decide), ih]
    rfl
theorem spaced_app (a b : List Nat) : Rpl.spaced signsC (a ++ b) = Rpl.spaced signsC a ++ Rpl.spaced signsC b := by
  unfold Rpl.spaced
  rw [List.flatMap_append]
theorem spaced_id : ∀ l : List Nat, (∀ c ∈ l, c ∉ signsC) → Rpl.spaced signsC l = l
  | [], _ => rfl
  | c :: l, h => by
    have ih := spaced_id l fun d hd => h d (List.mem_cons_of_mem _ hd)
    unfold Rpl.spaced at ih ⊢
    rw [List.flatMap_cons, ih, if_neg (h c (List.mem_cons_self ..))]
    rfl
/-- signs of names -/
theorem ld_plain {c : Nat} (h : isLD c = true) : c ∉ signsC ∧ Unicode.isSpace c = false := by
  have key : ∀ c ∈ zLetters.cps.toList ++ zDigits.cps.toList, c ∉ signsC ∧ Unicode.isSpace c = false := by decide +kernel
  refine key c ?_
  unfold isLD at h
  rw [Bool.or_eq_true] at h
  rcases h with h | h
  · exact List.mem_append_left _ (of_decide_eq_true h)
  · exact List.mem_append_right _ (of_decide_eq_true h)
theorem leafS_plain {co : Bool} {n : List Nat} (h : isName (Z n) = true) : leafS co n ≠ [] ∧ ∀ c ∈ leafS co n, c ∉ signsC ∧ Unicode.isSpace c = false := by
  cases n with
  | nil => exact absurd h (by decide)
  | cons x n =>
    refine ⟨fun e => (by cases co <;> cases e), fun c hc => ?_⟩
    have hn2 : (decide (1 ≤ (Z (x :: n)).length ∧ (Z (x :: n)).length ≤ 12) && (isL x && (x :: n).all isLD)) = true := h
    rw [Bool.and_eq_true, Bool.and_eq_true] at hn2
    unfold leafS at hc
    rcases List.mem_append.mp hc with m | m
    · exact ld_plain (List.all_eq_true.mp hn2.2.2 c m)
    · cases co with
      | false => cases m
      | true =>
        rw [List.mem_singleton.mp m]
        decide +kernel
theorem wsign (ws : List (List Nat)) (u : List Nat) {c : Nat} (h : c ∈ signsC) : (Rpl.spaced signsC [c]).foldl TL.wstep (ws, u) = (flush ws u ++ [[c]], []) := by
  have e : Rpl.spaced signsC [c] = [32, c, 32] := by
    unfold Rpl.spaced
    rw [List.flatMap_cons, if_pos h]
    rfl
  have hs : Unicode.isSpace c = false := by
    have key : ∀ c ∈ signsC, Unicode.isSpace c = false := by decide +kernel
    exact key c h
  rw [e]
  show TL.wstep (TL.wstep (TL.wstep (ws, u) 32) c) 32 = _
  rw [wstep32 ws u]
  have e2 : TL.wstep (flush ws u, []) c = (flush ws u, [c]) := if_neg (by rw [hs]; exact Bool.false_ne_true)
  rw [e2, wstep32]
  rfl
theorem TK.sign {k : TK} (h : isNm k = false) : ∃ c, k.txt = [c] ∧ c ∈ signsC := by
  cases k with
  | op => exact ⟨40, rfl, by decide⟩
  | cl => exact ⟨41, rfl, by decide⟩
  | cm => exact ⟨44, rfl, by decide⟩
  | sg s => exact ⟨s.code, rfl, by cases s <;> decide⟩
  | nm => cases h
theorem words_row : ∀ (ks : List TK) {cs : List Nat} (ws : List (List Nat)) (u : List Nat), Gp (ks.map TK.txt) cs → (∀ k ∈ ks, k.Ok) → Alt ks → (u = [] ∨ headNm ks = false) → TL.wfin ((Rpl.spaced signsC cs).foldl TL.wstep (ws, u)) = flush ws u ++ ks.map TK.txt
  | [], cs, ws, u, g, _, _, _ => by
    cases g with
    | nil k =>
      rw [spaced_spc, wspc]
      by_cases h : k = 0
      · rw [if_pos h]
        unfold TL.wfin flush
        by_cases e : u = []
        · rw [if_pos e]
          exact (List.append_nil _).symm
        · rw [if_neg e]
          exact (List.append_nil _).symm
      · rw [if_neg h]
        exact (List.append_nil _).symm
  | k :: ks, cs, ws, u, g, ok, al, hu => by
    cases g with
    | @cons j _ _ cs g =>
      rw [spaced_app, spaced_app, spaced_spc, List.foldl_append, List.foldl_append, wspc]
      have ok2 : ∀ k ∈ ks, k.Ok := fun x hx => ok x (List.mem_cons_of_mem _ hx)
      cases hk : isNm k with
      | false =>
        obtain ⟨c, ec, hc⟩ := TK.sign hk
        rw [ec]
        have e : (Rpl.spaced signsC [c]).foldl TL.wstep (if j = 0 then (ws, u) else (flush ws u, [])) = (flush ws u ++ [[c]], []) := by
          by_cases h : j = 0
          · rw [if_pos h, wsign ws u hc]
          · rw [if_neg h, wsign _ _ hc]
            rfl
        rw [e, words_row ks _ _ g ok2 al.2 (.inl rfl), List.map_cons, ec]
        show flush ws u ++ [[c]] ++ _ = _
        rw [List.append_assoc]
        rfl
      | true =>
        cases k with
        | nm co n =>
          obtain ⟨p1, p2⟩ := leafS_plain (co := co) (ok (.nm co n) (List.mem_cons_self ..))
          have hu0 : u = [] := hu.elim id fun z => (by cases z)
          subst hu0
          have e0 : (if j = 0 then (ws, ([] : List Nat)) else (flush ws [], [])) = (ws, []) := by split <;> rfl
          rw [e0]
          show TL.wfin ((Rpl.spaced signsC cs).foldl TL.wstep ((Rpl.spaced signsC (leafS co n)).foldl TL.wstep (ws, []))) = _
          rw [spaced_id _ fun c hc => (p2 c hc).1, TL.wfold_word _ _ _ fun c hc => (p2 c hc).2, List.nil_append, words_row ks _ _ g ok2 al.2 (.inr (al.1 rfl))]
          have ef : flush ws (leafS co n) = ws ++ [leafS co n] := if_neg p1
          rw [ef, List.append_assoc]
          rfl
        | _ => cases hk
theorem words_text {ts : List FT} {cs : List Nat} (h : ∀ t ∈ ts, t.Ok) (g : Gp (rowToks ts) cs) : Txt.words (Rpl.ZZ (Rpl.spaced signsC cs)) = (rowToks ts).map Z := by
  refine TL.map_tl_inj ?_
  rw [TL.words_tl]
  have e := words_row (rowTks ts) [] [] (by rw [rowTks_txt]; exact g) (rowTks_ok ts h) (alt_row ts) (.inl rfl)
  rw [rowTks_txt] at e
  show TL.wfin ((Rpl.spaced signsC cs).foldl TL.wstep ([], [])) = ((rowToks ts).map Z).map TL.tl
  rw [e, List.map_map]
  show rowToks ts = (rowToks ts).map _
  exact (List.map_id' _).symm
end My

set_option Elab.async false
set_option linter.all false
set_option maxRecDepth 100000
namespace My
open PySem L2
/-! ### the levels in the heap -/
def LvlV (K : PySem.W.Frag) (H : Hp) (a : Addr) (items : List It6) : Prop := ∃ vs, H a = some (.lst vs) ∧ Paired (ItemV K H) vs items
theorem LvlV.kt {K : PySem.W.Frag} {H H' : Hp} {a : Addr} {items : List It6} (k : KT H H') (e : ∀ o, H a = some o → H' a = some o) (h : LvlV K H a items) : LvlV K H' a items := by
  obtain ⟨vs, h1, h2⟩ := h
  exact ⟨vs, e _ h1, paired_imp (fun _ _ h => h.kt k) h2⟩
theorem paired_mem {α β : Type} {r q : α → β → Prop} : ∀ {xs : List α} {ys : List β}, (∀ x ∈ xs, ∀ y, r x y → q x y) → Paired r xs ys → Paired q xs ys
  | _, _, _, .nil => .nil
  | _, _, h, .cons h1 h2 => .cons (h _ (List.mem_cons_self ..) _ h1) (paired_mem (fun x hx => h x (List.mem_cons_of_mem _ hx)) h2)
/-- the levels' addresses are as -/
structure Sta (K : PySem.W.Frag) (H0 H : Hp) (L O : Addr) (out : List FT) (lv : List (List It6)) (n : Nat) (as : List Addr) (ovs : List V) : Prop where
  hL : H L = some (.lst (as.map V.ref))
  hO : H O = some (.lst ovs)
  po : Paired (fun v t => PartV K H t v) ovs out
  pp : Paired (LvlV K H) as lv
  nd : as.Nodup
  nL : L ∉ as
  nO : O ∉ as
  LO : L ≠ O
  fL : H0 L = none
  fO : H0 O = none
  fr : ∀ x ∈ as, H0 x = none
  sm : Same H0 H
  b1 : as.length ≤ n + 1
  b2 : out.length ≤ n
  b4 : ∀ l ∈ lv, l.length ≤ n
theorem paired_split {α β : Type} {r : α → β → Prop} : ∀ {xs : List α} {ys : List β} {x : α} {y : β}, xs.length = ys.length → Paired r (xs ++ [x]) (ys ++ [y]) → Paired r xs ys ∧ r x y := by
  intro xs
  induction xs with
  | nil =>
    intro ys x y hl q
    cases ys with
    | nil => cases q with | cons q1 q2 => exact ⟨.nil, q1⟩
    | cons => simp at hl
  | cons z xs ih =>
    intro ys x y hl q
    cases ys with
    | nil => simp at hl
    | cons w ys =>
      cases q with | cons q1 q2 =>
      obtain ⟨r1, r2⟩ := ih (by simpa using hl) q2
      exact ⟨.cons q1 r1, r2⟩
section
variable {K : PySem.W.Frag} {H0 H H' : Hp} {L O a : Addr} {out : List FT} {lv : List (List It6)} {l : List It6} {n : Nat} {as : List Addr} {ovs : List V}
theorem Sta.same (h : Sta K H0 H L O out lv n as ovs) (k : Same H H') : Sta K H0 H' L O out lv n as ovs :=
  ⟨k _ _ h.hL, k _ _ h.hO, paired_imp (fun _ _ q => q.kt (Same.kt k)) h.po, paired_imp (fun _ _ q => q.kt (Same.kt k) fun o e => k _ _ e) h.pp, h.nd, h.nL, h.nO, h.LO, h.fL, h.fO, h.fr, h.sm.trans k, h.b1, h.b2, h.b4⟩
theorem Sta.mono {m : Nat} (h : Sta K H0 H L O out lv n as ovs) (le : n ≤ m) : Sta K H0 H L O out lv m as ovs :=
  ⟨h.hL, h.hO, h.po, h.pp, h.nd, h.nL, h.nO, h.LO, h.fL, h.fO, h.fr, h.sm, by have := h.b1; omega, Nat.le_trans h.b2 le, fun l m => Nat.le_trans (h.b4 l m) le⟩
theorem Sta.last (h : Sta K H0 H L O out (lv ++ [l]) n as ovs) : ∃ bs b, as = bs ++ [b] ∧ Paired (LvlV K H) bs lv ∧ LvlV K H b l := by
  have hl := paired_len h.pp
  have ne : as ≠ [] := fun z => by rw [z] at hl; simp at hl
  refine ⟨as.dropLast, as.getLast ne, (List.dropLast_concat_getLast ne).symm, ?_⟩
  have hp := h.pp
  rw [← List.dropLast_concat_getLast ne] at hp
  refine paired_split ?_ hp
  rw [List.length_append] at hl
  rw [List.length_dropLast]
  simp at hl
  omega
/-- the list of the levels is changed -/
theorem Sta.lvls {as' : List Addr} {lv' : List (List It6)} {m : Nat} (h : Sta K H0 H L O out lv n as ovs) (hp : Paired (LvlV K H) as' lv') (nd : as'.Nodup) (nL : L ∉ as') (nO : O ∉ as') (fr : ∀ x ∈ as', H0 x = none) (b1 : as'.length ≤ m + 1) (b4 : ∀ l ∈ lv', l.length ≤ m) (le : n ≤ m) :
    Sta K H0 (upd H L (.lst (as'.map V.ref))) L O out lv' m as' ovs := by
  have kt := KT.of_lst (ys := as'.map V.ref) h.hL
  have ne : ∀ x ∈ as', x ≠ L := fun x hx z => nL (z ▸ hx)
  exact ⟨upd_same, by rw [upd_ne (Ne.symm h.LO)]; exact h.hO, paired_imp (fun _ _ q => q.kt kt) h.po, paired_mem (fun x hx y q => q.kt kt fun o e => by rw [upd_ne (ne x hx)]; exact e) hp, nd, nL, nO, h.LO, h.fL, h.fO, fr, same_at h.sm h.fL, b1, Nat.le_trans h.b2 le, b4⟩
theorem Sta.pop (h : Sta K H0 H L O out (lv ++ [l]) n (as ++ [a]) ovs) (hp : Paired (LvlV K H) as lv) : Sta K H0 (upd H L (.lst (as.map V.ref))) L O out lv n as ovs := by
  have nd := h.nd
  rw [List.nodup_append] at nd
  refine h.lvls hp nd.1 (fun m => h.nL (List.mem_append_left _ m)) (fun m => h.nO (List.mem_append_left _ m)) (fun x m => h.fr x (List.mem_append_left _ m)) ?_ (fun l m => h.b4 l (List.mem_append_left _ m)) (Nat.le_refl _)
  have := h.b1
  rw [List.length_append] at this
  omega
theorem Sta.push (h : Sta K H0 H L O out lv n as ovs) {b : Addr} (nb : H b = none) : Sta K H0 (upd (upd H b (.lst [])) L (.lst ((as ++ [b]).map V.ref))) L O out (lv ++ [[]]) (n + 1) (as ++ [b]) ovs := by
  have h1 := h.same (same_new nb (.lst []))
  have eb : upd H b (.lst []) b = some (.lst []) := upd_same
  have bL : b ≠ L := fun z => by rw [z, h.hL] at nb; cases nb
  have bO : b ≠ O := fun z => by rw [z, h.hO] at nb; cases nb
  have lvl : ∀ x ∈ as, x ≠ b := fun x hx z => by
    obtain ⟨i, hi⟩ := List.getElem?_of_mem hx
    obtain ⟨y, _, vs, e, _⟩ := paired_take h.pp hi
    rw [z, nb] at e
    cases e
  have fb : H0 b = none := h.sm.free nb
  generalize upd H b (.lst []) = H1 at *
  refine h1.lvls (paired_app h1.pp (.cons ⟨[], eb, .nil⟩ .nil)) ?_ ?_ ?_ ?_ ?_ ?_ (Nat.le_succ n)
  · rw [List.nodup_append]
    exact ⟨h.nd, by simp, fun x hx y hy => by rw [List.mem_singleton.mp hy]; exact lvl x hx⟩
  · intro m
    rcases List.mem_append.mp m with m | m
    · exact h.nL m
    · exact bL (List.mem_singleton.mp m).symm
  · intro m
    rcases List.mem_append.mp m with m | m
    · exact h.nO m
    · exact bO (List.mem_singleton.mp m).symm
  · intro x m
    rcases List.mem_append.mp m with m | m
    · exact h.fr x m
    · rw [List.mem_singleton.mp m]
      exact fb
  · have := h.b1
    rw [List.length_append]
    show as.length + 1 ≤ n + 1 + 1
    omega
  · intro l m
    rcases List.mem_append.mp m with m | m
    · exact Nat.le_succ_of_le (h.b4 l m)
    · rw [List.mem_singleton.mp m]
      exact Nat.zero_le _
/-- an item on the top level -/
theorem Sta.add (h : Sta K H0 H L O out (lv ++ [l]) n (as ++ [a]) ovs) (hp : Paired (LvlV K H) as lv) {vs : List V} {v : V} {it : It6} (e : H a = some (.lst vs)) (hq : Paired (ItemV K H) vs l) (hv : ItemV K H v it) :
    Sta K H0 (upd H a (.lst (vs ++ [v]))) L O out (lv ++ [l ++ [it]]) (n + 1) (as ++ [a]) ovs := by
  have kt := KT.of_lst (ys := vs ++ [v]) e
  have aL : L ≠ a := fun z => h.nL (by rw [z]; simp)
  have aO : O ≠ a := fun z => h.nO (by rw [z]; simp)
  have aas : ∀ x ∈ as, x ≠ a := fun x hx z => by
    have := h.nd
    rw [List.nodup_append] at this
    exact this.2.2 x hx a (by simp) z
  refine ⟨by rw [upd_ne aL]; exact h.hL, by rw [upd_ne aO]; exact h.hO, paired_imp (fun _ _ q => q.kt kt) h.po, paired_app (paired_mem (fun x hx y q => q.kt kt fun o e => by rw [upd_ne (aas x hx)]; exact e) hp) (.cons ⟨_, upd_same, paired_app (paired_imp (fun _ _ q => q.kt kt) hq) (.cons (hv.kt kt) .nil)⟩ .nil),
    h.nd, h.nL, h.nO, h.LO, h.fL, h.fO, h.fr, same_at h.sm (h.fr a (by simp)), Nat.le_succ_of_le h.b1, Nat.le_succ_of_le h.b2, fun x m => ?_⟩
  rcases List.mem_append.mp m with m | m
  · exact Nat.le_succ_of_le (h.b4 x (List.mem_append_left _ m))
  · have := h.b4 l (by simp)
    rw [List.mem_singleton.mp m, List.length_append]
    show l.length + 1 ≤ n + 1
    omega
/-- an end more -/
theorem Sta.outs (h : Sta K H0 H L O out lv n as ovs) {t : FT} {v : V} (hv : PartV K H t v) : Sta K H0 (upd H O (.lst (ovs ++ [v]))) L O (out ++ [t]) lv (n + 1) as (ovs ++ [v]) := by
  have kt := KT.of_lst (ys := ovs ++ [v]) h.hO
  have ne : ∀ x ∈ as, x ≠ O := fun x hx z => h.nO (z ▸ hx)
  refine ⟨by rw [upd_ne h.LO]; exact h.hL, upd_same, paired_app (paired_imp (fun _ _ q => q.kt kt) h.po) (.cons (hv.kt kt) .nil), paired_mem (fun x hx y q => q.kt kt fun o e => by rw [upd_ne (ne x hx)]; exact e) h.pp, h.nd, h.nL, h.nO, h.LO, h.fL, h.fO, h.fr, same_at h.sm h.fO, Nat.le_succ_of_le h.b1, ?_, fun l m => Nat.le_succ_of_le (h.b4 l m)⟩
  have := h.b2
  rw [List.length_append]
  show out.length + 1 ≤ n + 1
  omega
end
end My

set_option Elab.async false
set_option linter.all false
set_option maxRecDepth 100000
namespace My
open PySem L2
abbrev s_law_read : Stmt := top 70
abbrev N_law_read : List Str := ["_law_text", "_law_sign", "_law_words", "_law_levels", "_law_out", "_law_token", "_law_part"]
abbrev P_law_read : List Str := ["_law_text"]
theorem sc_law_read : FnScope N_law_read P_law_read (defScope s_law_read) := ⟨rfl, rfl, rfl, by decide +kernel, rfl, by decide +kernel, by decide +kernel⟩
def wordsR : List (Key × V) := [(.inr "*", .str "both"), (.inr "|", .str "between"), (.inr "&", .str "offered"), (.inr "+", .str "chosen")]
def spRead (K : PySem.W.Frag) : Sp := fun vs H Q _ => ∃ (cs : List Nat) (ts : List FT), vs = [.str (Z cs)] ∧ Gp (rowToks ts) cs ∧ 1 ≤ ts.length ∧ (∀ t ∈ ts, t.Ok) ∧ (rowToks ts).length ≤ 900 ∧ 12 * cs.length + 100 ≤ sizeLine ∧
  ∀ H' p vs', Same H H' → H' p = some (.lst vs') → Paired (fun v t => PartV K H' t v) vs' ts → Q (.ref p) H'
theorem wordsR_get (s : Sg) : valV (mergeK [] wordsR) (.inr (Z [s.code])) = some (.str s.word) := by cases s <;> rfl
theorem rst_cl {s s' : RS} (h : rst s .cl = some s') : ∃ t pp l, fold6 s.top = some t ∧ s.pre = pp ++ [l] ∧ s' = ⟨s.out, pp, l ++ [.pt t]⟩ := by
  unfold rst at h
  cases e1 : fold6 s.top with
  | none => simp [e1] at h
  | some t =>
    cases e2 : s.pre.getLast? with
    | none => simp [e1, e2] at h
    | some l =>
      simp [e1, e2] at h
      have ne : s.pre ≠ [] := fun z => by rw [z] at e2; cases e2
      have e3 : s.pre.getLast ne = l := by
        rw [List.getLast?_eq_getLast ne] at e2
        exact Option.some.inj e2
      exact ⟨t, s.pre.dropLast, l, rfl, by rw [← e3]; exact (List.dropLast_concat_getLast ne).symm, h.symm⟩
theorem rst_cm {s s' : RS} (h : rst s .cm = some s') : ∃ t, fold6 s.top = some t ∧ s' = ⟨s.out ++ [t], s.pre, []⟩ := by
  unfold rst at h
  cases e1 : fold6 s.top with
  | none => simp [e1] at h
  | some t =>
    simp [e1] at h
    exact ⟨t, rfl, h.symm⟩
theorem nm_ne {co : Bool} {n : List Nat} (h : isName (Z n) = true) {c : Nat} (hc : c ∈ signsC) : ¬ V.str (Z (leafS co n)) = V.str (Z [c]) := fun e => by
  have e1 : leafS co n = [c] := congrArg (fun z : Str => z.cps.toList) (V.str.inj e)
  have := (leafS_plain (co := co) h).2 c (by rw [e1]; simp)
  exact this.1 hc
theorem wordsR_none {co : Bool} {n : List Nat} (h : isName (Z n) = true) : valV (mergeK [] wordsR) (.inr (Z (leafS co n))) = none := by
  have em : mergeK [] wordsR = wordsR := rfl
  rw [em]
  unfold valV
  have : wordsR.find? (fun kv => decide (kv.1 = (Sum.inr (Z (leafS co n)) : Key))) = none := by
    rw [List.find?_eq_none]
    intro kv m e
    have e := of_decide_eq_true e
    have k : ∀ c, c ∈ signsC → kv.1 = (Sum.inr (Z [c]) : Key) → False := fun c hc z => nm_ne (co := co) h hc (by
      rw [z] at e
      rw [Sum.inr.inj e])
    unfold wordsR at m
    simp only [List.mem_cons, List.not_mem_nil, or_false] at m
    rcases m with rfl | rfl | rfl | rfl
    · exact k 42 (by decide) rfl
    · exact k 124 (by decide) rfl
    · exact k 38 (by decide) rfl
    · exact k 43 (by decide) rfl
  rw [this]
  rfl
theorem cut_tilde (n : List Nat) : cutS (Z (n ++ [126])) none (some (-1)) = Z n := by
  unfold cutS
  have e1 : HT.sIx (Z (n ++ [126])).length 0 none = 0 := rfl
  have e2 : HT.sIx (Z (n ++ [126])).length (Z (n ++ [126])).length (some (-1)) = n.length := by
    rw [Z_len, List.length_append]
    unfold HT.sIx
    simp
    omega
  rw [e1, e2]
  show (⟨(((n ++ [126]).drop 0).take (n.length - 0)).toArray⟩ : Str) = Z n
  simp
theorem toks_pos (h : Bool) (t : FT) : 1 ≤ (toks h t).length := by
  cases t with
  | leaf co n => cases h <;> exact Nat.le_refl _
  | node s l r =>
    cases h with
    | true =>
      show 1 ≤ ([40] :: (toks true l ++ ([s.code] :: toks true r) ++ [[41]])).length
      simp
    | false =>
      show 1 ≤ (toks true l ++ ([s.code] :: toks true r)).length
      simp
      omega
theorem row_len (ts : List FT) : ts.length ≤ (rowToks ts).length := by
  have more : ∀ ts : List FT, ts.length ≤ (moreToks ts).length := fun ts => by
    induction ts with
    | nil => exact Nat.zero_le _
    | cons t ts ih =>
      unfold moreToks at ih ⊢
      rw [List.map_cons, List.flatten_cons, List.length_append, List.length_cons, List.length_cons]
      omega
  cases ts with
  | nil => exact Nat.zero_le _
  | cons t ts =>
    show ts.length + 1 ≤ (toks false t ++ moreToks ts).length
    rw [List.length_append]
    have := more ts
    have := toks_pos false t
    omega
theorem map_last (bs : List Addr) (b : Addr) : ((bs ++ [b]).map V.ref)[((bs ++ [b]).map V.ref).length - 1]? = some (.ref b) ∧ ((bs ++ [b]).map V.ref).dropLast = bs.map V.ref := by
  rw [List.map_append]
  constructor
  · simp
  · exact List.dropLast_concat
theorem map_at (bs : List Addr) (b : Addr) : atI ((bs ++ [b]).map V.ref) (-1) = some (.ref b) := by
  rw [List.map_append]
  exact atI_last _ _
section
variable {P : Program} {w : World} {K : PySem.W.Frag} {mg : Str → Option Value} {base : Heap} {f : Addr} {fd : FuncData}
theorem ok_law_read (T : Txt K mg) (F : Fun K "_law_read" "_law_read" s_law_read f fd) (C_law_folded : Cal P w K mg base "_law_folded" 1 P_law_folded (spFolded K)) : FnOk P w K mg base CX0 2 f fd P_law_read (spRead K) := by
  refine F.ok sc_law_read (fun vs H Q E h => ?_) (fun cdv A outer s H vs Q E hr h => ?_)
  · obtain ⟨cs, ts, rfl, _⟩ := h
    rfl
  obtain ⟨cs, ts, rfl, hg, h1, hok, hn, hl, q⟩ := h
  refine ⟨_, (pss_cons (Rpl.ps_repl (i := 0) (k := 1) PassesOwn.never rfl sc_law_read.nd rfl rfl (by decide) rfl rfl (by decide +kernel) (by decide +kernel) (by decide +kernel) (by decide) (by decide) (by decide) rfl rfl rfl rfl)
  (pss_cons (ps_par3 (i := 2) (j := 3) (l := 4) (by rfl) sc_law_read.nd rfl rfl rfl (by decide) (by decide) (by decide) rfl rfl rfl (pa_cons (pe_disp (pps_cons pe_str pe_str (pps_cons pe_str pe_str (pps_cons pe_str pe_str (pps_cons pe_str pe_str pps_nil)))) (by rfl) (by rfl) (fun z => by cases z) (by decide)) (pa_cons (pe_lst (pa_cons (pe_lst pa_nil) pa_nil)) (pa_cons (pe_lst pa_nil) pa_nil))) (by rfl))
  (pss_cons (ps_for PassesOwn.never rfl (pi_list (pe_words (pv 0))) (pg_name (i := 5) sc_law_read.nd rfl (Or.inl rfl))
    (pss_one (ps_if (pt_cmpR op_eq (pv 5) pe_str (nomark _))
      (pss_one (ps_expr (pe_bm PySem.F.plainAttrs_list PySem.F.slot_list_append PySem.F.type_list_append mt_append (pv 3) (pa_cons (pe_lst pa_nil) pa_nil))))
      (pss_one (ps_if (pt_cmpR op_eq (pv 5) pe_str (nomark _))
        (pss_cons (ps_set (i := 6) sc_law_read.nd rfl (Or.inl rfl) (pe_callC C_law_folded hr (pa_cons (pe_bm0 PySem.F.plainAttrs_list PySem.F.slot_list_pop PySem.F.type_list_pop mt_pop (pv 3)) pa_nil)))
        (pss_one (ps_expr (pe_bm PySem.F.plainAttrs_list PySem.F.slot_list_append PySem.F.type_list_append mt_append (pe_ix ix_list (pv 3) (pe_un un_neg pe_int) (fun _ _ => rfl)) (pa_cons (pv 6) pa_nil)))))
        (pss_one (ps_if (pt_cmpR op_eq (pv 5) pe_str (nomark _))
          (pss_cons (ps_expr (pe_bm PySem.F.plainAttrs_list PySem.F.slot_list_append PySem.F.type_list_append mt_append (pv 4) (pa_cons (pe_callC C_law_folded hr (pa_cons (pe_bm0 PySem.F.plainAttrs_list PySem.F.slot_list_pop PySem.F.type_list_pop mt_pop (pv 3)) pa_nil)) pa_nil)))
          (pss_one (ps_expr (pe_bm PySem.F.plainAttrs_list PySem.F.slot_list_append PySem.F.type_list_append mt_append (pv 3) (pa_cons (pe_lst pa_nil) pa_nil)))))
          (pss_one (ps_if (pt_cmp (pc_din (hu_of hr) (pv 5) (pv 2)))
            (pss_one (ps_expr (pe_bm PySem.F.plainAttrs_list PySem.F.slot_list_append PySem.F.type_list_append mt_append (pe_ix ix_list (pv 3) (pe_un un_neg pe_int) (fun _ _ => rfl)) (pa_cons (pe_dget (hu_of hr) (pv 2) (pv 5) (fun _ _ => rfl)) pa_nil))))
            (pss_one (ps_if (pt_cmpR op_eq (pe_ix ix_str (pv 5) (pe_un un_neg pe_int) (fun _ _ => rfl)) pe_str (nomark _))
              (pss_one (ps_expr (pe_bm PySem.F.plainAttrs_list PySem.F.slot_list_append PySem.F.type_list_append mt_append (pe_ix ix_list (pv 3) (pe_un un_neg pe_int) (fun _ _ => rfl)) (pa_cons (pe_tupN (pa_cons (pe_tupN (pa_cons pe_str (pa_cons (pe_slice sl_str (pv 5) po_none (po_some (pe_un un_neg pe_int))) pa_nil))) (pa_cons pe_int pa_nil))) pa_nil))))
              (pss_one (ps_expr (pe_bm PySem.F.plainAttrs_list PySem.F.slot_list_append PySem.F.type_list_append mt_append (pe_ix ix_list (pv 3) (pe_un un_neg pe_int) (fun _ _ => rfl)) (pa_cons (pe_tupN (pa_cons (pe_tupN (pa_cons pe_str (pa_cons (pv 5) pa_nil))) (pa_cons pe_int pa_nil))) pa_nil)))))))))))))))
  (pss_one (ps_ret (pe_op op_catLN (pv 4) (pe_lstN (pa_cons (pe_callC C_law_folded hr (pa_cons (pe_bm0 PySem.F.plainAttrs_list PySem.F.slot_list_pop PySem.F.type_list_pop mt_pop (pv 3)) pa_nil)) pa_nil)))))))), ?_⟩
  have hb : sizeLine ≤ 16777216 := by decide
  refine ⟨cs, rfl, by omega, ?_⟩
  intro W nW
  refine ⟨upd_same, wordsR, rfl, by decide, ?_⟩
  have s1 : Same H (upd (upd H W (.dK [])) W (.dK (mergeK [] wordsR))) := same_disp nW
  have eW : upd (upd H W (.dK [])) W (.dK (mergeK [] wordsR)) W = some (.dK (mergeK [] wordsR)) := upd_same
  generalize upd (upd H W (.dK [])) W (.dK (mergeK [] wordsR)) = H1 at *
  refine ⟨Nat.zero_le _, fun A nA => ⟨(by show 1 ≤ sizeLine; decide), fun L nL => ⟨Nat.zero_le _, fun O nO => ⟨_, _, _, rfl, ?_⟩⟩⟩⟩
  have s2 := same_new nA (.lst [])
  have s3 := same_new nL (.lst [V.ref A])
  have s4 := same_new nO (.lst [])
  have eA : upd (upd (upd H1 A (.lst [])) L (.lst [V.ref A])) O (.lst []) A = some (.lst []) := s4 _ _ (s3 _ _ upd_same)
  have eL : upd (upd (upd H1 A (.lst [])) L (.lst [V.ref A])) O (.lst []) L = some (.lst [V.ref A]) := s4 _ _ upd_same
  have eO : upd (upd (upd H1 A (.lst [])) L (.lst [V.ref A])) O (.lst []) O = some (.lst []) := upd_same
  have fA : H A = none := s1.free nA
  have fL : H L = none := (s1.trans s2).free nL
  have fO : H O = none := ((s1.trans s2).trans s3).free nO
  have AL : L ≠ A := fun z => by
    subst z
    rw [upd_same] at nL
    cases nL
  have OA : O ≠ A := fun z => by
    subst z
    rw [s3 _ _ upd_same] at nO
    cases nO
  have LO : L ≠ O := fun z => by
    subst z
    rw [upd_same] at nO
    cases nO
  have sA := ((s1.trans s2).trans s3).trans s4
  have eW4 := s4 _ _ (s3 _ _ (s2 _ _ eW))
  generalize upd (upd (upd H1 A (.lst [])) L (.lst [V.ref A])) O (.lst []) = H4 at *
  have st0 : Sta K H H4 L O [] [[]] 0 [A] [] := ⟨eL, eO, .nil, .cons ⟨[], eA, .nil⟩ .nil, by simp, by simp [AL], by simp [OA], LO, fL, fO, by simp [fA], sA, by simp, by simp, by simp⟩
  clear eA eL eO AL OA LO s2 s3 s4 nL nO nA eW
  have hsl := Rpl.spaced_len signsC cs
  refine ⟨_, rfl, ⟨_, rfl⟩, Rpl.ZZ (Rpl.spaced signsC cs), rfl, rfl, by rw [Rpl.ZZ_len]; omega, fun p np => ⟨p, rfl, ⟨_, SqL.of upd_same⟩, ?_⟩⟩
  rw [words_text hok hg]
  have s5 := same_new np (.lst (((rowToks ts).map Z).map V.str))
  have ep : upd H4 p (.lst (((rowToks ts).map Z).map V.str)) p = some (.lst (((rowToks ts).map Z).map V.str)) := upd_same
  have pL : p ≠ L := fun z => by rw [z, st0.hL] at np; cases np
  have pO : p ≠ O := fun z => by rw [z, st0.hO] at np; cases np
  have pA : p ∉ [A] := fun m => by
    have hp := st0.pp
    cases hp with | cons h1 _ =>
    obtain ⟨vs, e, _⟩ := h1
    rw [List.mem_singleton.mp m, e] at np
    cases np
  have st5 := st0.same s5
  have eW5 := s5 _ _ eW4
  generalize upd H4 p (.lst (((rowToks ts).map Z).map V.str)) = H5 at *
  clear s5 np eW4 st0 sA fA
  obtain ⟨u, vl, r1, r2, r3, r4⟩ := rrun_row h1
  have eks : ((rowToks ts).map Z).map V.str = (rowTks ts).map fun k => V.str (Z k.txt) := by
    rw [← rowTks_txt, List.map_map, List.map_map]
    rfl
  rw [eks] at ep
  have ksn : (rowTks ts).length ≤ 900 := by
    have := congrArg List.length (rowTks_txt ts)
    rw [List.length_map] at this
    omega
  have kok := rowTks_ok ts hok
  generalize rowTks ts = ks at *
  refine for_it (walk_list (xs := ks.map fun k => V.str (Z k.txt))) (fun i σ H' => ∃ (s : RS) (as : List Addr) (ovs : List V) (o5 o6 : Option V), σ = [some (.str (Rpl.ZZ (Rpl.spaced signsC cs))), none, some (.ref W), some (.ref L), some (.ref O), o5, o6] ∧ Sta K H H' L O s.out (s.pre ++ [s.top]) (2 * i) as ovs ∧ H' p = some (.lst (ks.map fun k => V.str (Z k.txt))) ∧ p ∉ as ∧ H' W = some (.dK (mergeK [] wordsR)) ∧ rrun s (ks.drop i) = some u)
    ⟨⟨[], [], []⟩, [A], [], none, none, rfl, st5, ep, pA, eW5, r1⟩ (fun i σ H' _ ⟨_, _, _, _, _, _, _, h, _⟩ => SqL.of h) (fun i x σ H6 H7 hi pv y => ?_) (fun σ H' pv => ?_)
  · obtain ⟨rfl, hx⟩ := y
    obtain ⟨s, as, ovs, o5, o6, rfl, st, hp, pas, hW, hru⟩ := pv
    rw [List.length_map] at hi
    obtain ⟨k, hk, rfl⟩ : ∃ k, ks[i]? = some k ∧ x = .str (Z k.txt) := by
      rw [List.getElem?_map] at hx
      cases e : ks[i]? with
      | none => rw [e] at hx; cases hx
      | some k =>
        rw [e] at hx
        exact ⟨k, rfl, (Option.some.inj hx).symm⟩
    have hdrop : ks.drop i = k :: ks.drop (i + 1) := by
      rw [List.drop_eq_getElem_cons hi]
      congr 1
      have := List.getElem?_eq_getElem hi
      rw [hk] at this
      exact (Option.some.inj this).symm
    rw [hdrop] at hru
    obtain ⟨s', hs', hru⟩ : ∃ s', rst s k = some s' ∧ rrun s' (ks.drop (i + 1)) = some u := by
      have hru : (match rst s k with | some t => rrun t (ks.drop (i + 1)) | none => none) = some u := hru
      cases e : rst s k with
      | none => rw [e] at hru; cases hru
      | some s' =>
        rw [e] at hru
        exact ⟨s', rfl, hru⟩
    have fin : ∀ (as' : List Addr) (ovs' : List V) (H' : Hp) (o6 : Option V), Sta K H H' L O s'.out (s'.pre ++ [s'.top]) (2 * (i + 1)) as' ovs' → H' p = some (.lst (ks.map fun k => V.str (Z k.txt))) → p ∉ as' → H' W = some (.dK (mergeK [] wordsR)) →
        ∃ (s : RS) (as : List Addr) (ovs : List V) (o5' o6' : Option V), [some (V.str (Rpl.ZZ (Rpl.spaced signsC cs))), none, some (.ref W), some (.ref L), some (.ref O), some (.str (Z k.txt)), o6] = [some (V.str (Rpl.ZZ (Rpl.spaced signsC cs))), none, some (.ref W), some (.ref L), some (.ref O), o5', o6'] ∧ Sta K H H' L O s.out (s.pre ++ [s.top]) (2 * (i + 1)) as ovs ∧ H' p = some (.lst (ks.map fun k => V.str (Z k.txt))) ∧ p ∉ as ∧ H' W = some (.dK (mergeK [] wordsR)) ∧ rrun s (ks.drop (i + 1)) = some u :=
      fun as' ovs' H' o6 g1 g2 g3 g4 => ⟨s', as', ovs', _, o6, rfl, g1, g2, g3, g4, hru⟩
    have okk := kok k (List.mem_of_getElem? hk)
    have i900 : i < 900 := by omega
    have WL : W ≠ L := fun z => by rw [z, st.hL] at hW; cases hW
    have WO : W ≠ O := fun z => by rw [z, st.hO] at hW; cases hW
    obtain ⟨bs, b, rfl, hbs, ⟨vs, eb, hvs⟩⟩ := st.last
    have Wb : W ≠ b := fun z => by rw [z, eb] at hW; cases hW
    have pb : p ≠ b := fun z => pas (by rw [z]; simp)
    have lvs := paired_len hvs
    have b4t := st.b4 s.top (by simp)
    refine ⟨_, rfl, rfl, _, rfl, ?_⟩
    cases k with
    | op =>
      cases hs'
      refine ite2 (fun _ => ?_) (fun c => absurd (by decide +kernel) c)
      refine ⟨_, rfl, .inl ⟨rfl, _, SqL.of st.hL⟩, Nat.zero_le _, fun c nc => ?_⟩
      have h1 := same_new nc (.lst [])
      refine ⟨L, _, _, rfl, rfl, h1 _ _ st.hL, ?_, ?_⟩
      · rw [List.length_map]
        have := st.b1
        have : sizeLine > 2000 := by decide
        omega
      have e1 : (bs ++ [b]).map V.ref ++ [.ref c] = (bs ++ [b] ++ [c]).map V.ref := by
        rw [List.map_append (l₂ := [c])]
        rfl
      rw [e1]
      have cp : p ≠ c := fun z => by rw [z, nc] at hp; cases hp
      refine fin (bs ++ [b] ++ [c]) ovs _ _ ((st.push nc).mono (by omega)) ?_ ?_ ?_
      · rw [upd_ne pL, upd_ne cp]
        exact hp
      · intro m
        rcases List.mem_append.mp m with m | m
        · exact pas m
        · exact cp (List.mem_singleton.mp m)
      · rw [upd_ne WL]
        exact h1 _ _ hW
    | cl =>
      refine ite2 (fun c => absurd c (by decide +kernel)) (fun _ => ?_)
      refine ⟨_, rfl, rfl, _, rfl, ?_⟩
      refine ite2 (fun _ => ?_) (fun c => absurd (by decide +kernel) c)
      obtain ⟨t, pp, l, ft, epre, rfl⟩ := rst_cl hs'
      obtain ⟨m1, m2⟩ := map_last bs b
      refine ⟨_, rfl, .inl ⟨rfl, _, SqL.of st.hL⟩, L, _, .ref b, rfl, rfl, st.hL, m1, ?_⟩
      rw [m2]
      have stp := st.pop hbs
      have bL : b ≠ L := fun z => st.nL (by rw [z]; simp)
      have kt := KT.of_lst (ys := bs.map V.ref) st.hL
      refine ⟨b, vs, s.top, t, rfl, SqL.of (by rw [upd_ne bL]; exact eb), paired_imp (fun _ _ q => q.kt kt) hvs, ft, fun H8 v s8 hv => ?_⟩
      have st8 := stp.same s8
      rw [epre] at st8
      obtain ⟨cs2, a2, e2, hcs, ⟨vs2, ea2, hvs2⟩⟩ := st8.last
      subst e2
      have l2 := paired_len hvs2
      have b4l := st8.b4 l (by simp)
      refine ⟨_, rfl, 1, rfl, L, _, _, .ref a2, rfl, rfl, SqL.of st8.hL, map_at cs2 a2, .inl ⟨rfl, _, SqL.of ea2⟩, _, rfl, a2, vs2, v, rfl, rfl, ea2, ?_, ?_⟩
      · have : sizeLine > 2000 := by decide
        omega
      have pa2 : p ≠ a2 := fun z => pas (by rw [z]; simp)
      have Wa2 : W ≠ a2 := fun z => by
        have := s8 _ _ (show upd H7 L (.lst ((cs2 ++ [a2]).map V.ref)) W = _ by rw [upd_ne WL]; exact hW)
        rw [z, ea2] at this
        cases this
      refine fin (cs2 ++ [a2]) ovs _ _ ((st8.add hcs ea2 hvs2 (it := .pt t) hv).mono (by omega)) ?_ (fun m => pas (List.mem_append_left _ m)) ?_
      · rw [upd_ne pa2]
        exact s8 _ _ (by rw [upd_ne pL]; exact hp)
      · rw [upd_ne Wa2]
        exact s8 _ _ (by rw [upd_ne WL]; exact hW)
    | cm =>
      refine ite2 (fun c => absurd c (by decide +kernel)) (fun _ => ?_)
      refine ⟨_, rfl, rfl, _, rfl, ?_⟩
      refine ite2 (fun c => absurd c (by decide +kernel)) (fun _ => ?_)
      refine ⟨_, rfl, rfl, _, rfl, ?_⟩
      refine ite2 (fun _ => ?_) (fun c => absurd (by decide +kernel) c)
      obtain ⟨t, ft, rfl⟩ := rst_cm hs'
      obtain ⟨m1, m2⟩ := map_last bs b
      refine ⟨_, rfl, .inl ⟨rfl, _, SqL.of st.hO⟩, _, rfl, .inl ⟨rfl, _, SqL.of st.hL⟩, L, _, .ref b, rfl, rfl, st.hL, m1, ?_⟩
      rw [m2]
      have stp := st.pop hbs
      have bL : b ≠ L := fun z => st.nL (by rw [z]; simp)
      have kt := KT.of_lst (ys := bs.map V.ref) st.hL
      refine ⟨b, vs, s.top, t, rfl, SqL.of (by rw [upd_ne bL]; exact eb), paired_imp (fun _ _ q => q.kt kt) hvs, ft, fun H8 v s8 hv => ?_⟩
      have st8 := stp.same s8
      have hp8 : H8 p = some (.lst (ks.map fun k => V.str (Z k.txt))) := s8 _ _ (by rw [upd_ne pL]; exact hp)
      have hW8 : H8 W = some (.dK (mergeK [] wordsR)) := s8 _ _ (by rw [upd_ne WL]; exact hW)
      have lov := paired_len st8.po
      have b2 := st8.b2
      refine ⟨O, ovs, v, rfl, rfl, st8.hO, ?_, ?_⟩
      · have : sizeLine > 2000 := by decide
        omega
      have st9 := st8.outs hv
      have hp9 : upd H8 O (.lst (ovs ++ [v])) p = some (.lst (ks.map fun k => V.str (Z k.txt))) := by rw [upd_ne pO]; exact hp8
      have hW9 : upd H8 O (.lst (ovs ++ [v])) W = some (.dK (mergeK [] wordsR)) := by rw [upd_ne WO]; exact hW8
      generalize upd H8 O (.lst (ovs ++ [v])) = H9 at *
      refine ⟨_, rfl, .inl ⟨rfl, _, SqL.of st9.hL⟩, Nat.zero_le _, fun c nc => ?_⟩
      have h1 := same_new nc (.lst [])
      refine ⟨L, _, _, rfl, rfl, h1 _ _ st9.hL, ?_, ?_⟩
      · rw [List.length_map]
        have := st8.b1
        have : sizeLine > 2000 := by decide
        omega
      have e1 : bs.map V.ref ++ [.ref c] = (bs ++ [c]).map V.ref := by
        rw [List.map_append]
        rfl
      rw [e1]
      have cp : p ≠ c := fun z => by rw [z, nc] at hp9; cases hp9
      refine fin (bs ++ [c]) _ _ _ ((st9.push nc).mono (by omega)) ?_ ?_ ?_
      · rw [upd_ne pL, upd_ne cp]
        exact hp9
      · intro m
        rcases List.mem_append.mp m with m | m
        · exact pas (List.mem_append_left _ m)
        · exact cp (List.mem_singleton.mp m)
      · rw [upd_ne WL]
        exact h1 _ _ hW9
    | sg g =>
      cases hs'
      refine ite2 (fun c => absurd c (by cases g <;> decide +kernel)) (fun _ => ?_)
      refine ⟨_, rfl, rfl, _, rfl, ?_⟩
      refine ite2 (fun c => absurd c (by cases g <;> decide +kernel)) (fun _ => ?_)
      refine ⟨_, rfl, rfl, _, rfl, ?_⟩
      refine ite2 (fun c => absurd c (by cases g <;> decide +kernel)) (fun _ => ?_)
      refine ⟨_, rfl, _, rfl, W, _, rfl, DGet.k (k := Sum.inr (Z [g.code])) hW, _, rfl, ?_⟩
      rw [wordsR_get]
      refine iteT ⟨_, rfl, 1, rfl, L, _, _, .ref b, rfl, rfl, SqL.of st.hL, map_at bs b, .inl ⟨rfl, _, SqL.of eb⟩, _, rfl, _, rfl, W, .str g.word, rfl, .inl ⟨_, .inr (Z [g.code]), .inl hW, rfl, (wordsR_get g).symm⟩, b, vs, .str g.word, rfl, rfl, eb, ?_, ?_⟩
      · have : sizeLine > 2000 := by decide
        omega
      refine fin (bs ++ [b]) ovs _ _ ((st.add hbs eb hvs (it := .wd g) rfl).mono (by omega)) ?_ pas ?_
      · rw [upd_ne pb]
        exact hp
      · rw [upd_ne Wb]
        exact hW
    | nm co n =>
      cases hs'
      have okn : isName (Z n) = true := okk
      refine ite2 (fun c => absurd (of_decide_eq_true c) (nm_ne (c := 40) okn (by decide))) (fun _ => ?_)
      refine ⟨_, rfl, rfl, _, rfl, ?_⟩
      refine ite2 (fun c => absurd (of_decide_eq_true c) (nm_ne (c := 41) okn (by decide))) (fun _ => ?_)
      refine ⟨_, rfl, rfl, _, rfl, ?_⟩
      refine ite2 (fun c => absurd (of_decide_eq_true c) (nm_ne (c := 44) okn (by decide))) (fun _ => ?_)
      refine ⟨_, rfl, _, rfl, W, _, rfl, DGet.k (k := Sum.inr (Z (leafS co n))) hW, _, rfl, ?_⟩
      rw [wordsR_none okn]
      refine iteF ?_
      have n12 : n.length ≤ 12 ∧ 1 ≤ n.length := by
        have hn2 : (decide (1 ≤ (Z n).length ∧ (Z n).length ≤ 12) && ((Z n).cps.toList.head?.any isL && (Z n).cps.toList.all isLD)) = true := okn
        rw [Z_len, Bool.and_eq_true, decide_eq_true_eq] at hn2
        exact ⟨hn2.1.2, hn2.1.1⟩
      have fin2 : ∀ (H9 : Hp) (p4 p5 : Addr), Same H7 H9 → SqT K H9 p4 [.str (leafZ co), .str (Z n)] → SqT K H9 p5 [.ref p4, .int 0] →
          Sta K H (upd H9 b (.lst (vs ++ [.ref p5]))) L O s.out (s.pre ++ [s.top ++ [.pt (.leaf co n)]]) (2 * (i + 1)) (bs ++ [b]) ovs ∧ upd H9 b (.lst (vs ++ [.ref p5])) p = some (.lst (ks.map fun k => V.str (Z k.txt))) ∧ upd H9 b (.lst (vs ++ [.ref p5])) W = some (.dK (mergeK [] wordsR)) := fun H9 p4 p5 s9 e4 e5 => by
        have st9 := st.same s9
        refine ⟨(st9.add (paired_imp (fun _ _ q => q.kt (Same.kt s9) fun o e => s9 _ _ e) hbs) (s9 _ _ eb) (paired_imp (fun _ _ q => q.kt (Same.kt s9)) hvs) (it := .pt (.leaf co n)) ⟨p5, .ref p4, rfl, e5, p4, rfl, e4⟩).mono (by omega), ?_, ?_⟩
        · rw [upd_ne pb]
          exact s9 _ _ hp
        · rw [upd_ne Wb]
          exact s9 _ _ hW
      have big : sizeLine > 2000 := by decide
      cases co with
      | true =>
        refine ⟨_, rfl, 1, rfl, Z (n ++ [126]), _, 126, rfl, rfl, by rw [Z_len, List.length_append]; simp; omega, atI_last n 126, rfl, _, rfl, ?_⟩
        refine ite2 (fun _ => ?_) (fun c => absurd (by decide +kernel) c)
        refine ⟨_, rfl, 1, rfl, L, _, _, .ref b, rfl, rfl, SqL.of st.hL, map_at bs b, .inl ⟨rfl, _, SqL.of eb⟩, _, rfl, 1, rfl, _, rfl, Z (n ++ [126]), rfl, by rw [Z_len, List.length_append]; simp; omega, le1k, fun p4 H8 s8 e8 => ⟨le1k, fun p5 H9 s9 e9 => ?_⟩⟩
        have e8 : SqT K H8 p4 [.str (leafZ true), .str (cutS (Z (n ++ [126])) none (some (-1)))] := e8
        rw [cut_tilde] at e8
        obtain ⟨g1, g2, g3⟩ := fin2 H9 p4 p5 (s8.trans s9) ((Same.kt s9).seq e8) e9
        exact ⟨b, vs, .ref p5, rfl, rfl, s9 _ _ (s8 _ _ eb), by omega, fin (bs ++ [b]) ovs _ _ g1 g2 pas g3⟩
      | false =>
        obtain ⟨m, x, rfl⟩ : ∃ m x, n = m ++ [x] := by
          rcases List.eq_nil_or_concat n with e | ⟨m, x, e⟩
          · rw [e] at n12
            simp at n12
          · exact ⟨m, x, by rw [e]; simp⟩
        have e0 : leafS false (m ++ [x]) = m ++ [x] := List.append_nil _
        have x126 : x ≠ 126 := fun z => by
          have := (leafS_plain (co := false) okn).2
          have hn2 : (decide (1 ≤ (Z (m ++ [x])).length ∧ (Z (m ++ [x])).length ≤ 12) && ((Z (m ++ [x])).cps.toList.head?.any isL && (m ++ [x]).all isLD)) = true := okn
          rw [Bool.and_eq_true, Bool.and_eq_true] at hn2
          have := List.all_eq_true.mp hn2.2.2 x (by simp)
          rw [z] at this
          exact absurd this (by decide +kernel)
        have ez : Z (leafS false (m ++ [x])) = Z (m ++ [x]) := by rw [e0]
        refine ⟨_, rfl, 1, rfl, Z (leafS false (m ++ [x])), _, x, rfl, rfl, by rw [ez, Z_len]; omega, by rw [ez]; exact atI_last m x, rfl, _, rfl, ?_⟩
        refine ite2 (fun c => absurd (of_decide_eq_true ((sign_dec x 126).symm.trans c)) x126) (fun _ => ?_)
        refine ⟨_, rfl, 1, rfl, L, _, _, .ref b, rfl, rfl, SqL.of st.hL, map_at bs b, .inl ⟨rfl, _, SqL.of eb⟩, _, rfl, le1k, fun p4 H8 s8 e8 => ⟨le1k, fun p5 H9 s9 e9 => ?_⟩⟩
        have e8 : SqT K H8 p4 [.str (leafZ false), .str (Z (leafS false (m ++ [x])))] := e8
        rw [ez] at e8
        obtain ⟨g1, g2, g3⟩ := fin2 H9 p4 p5 (s8.trans s9) ((Same.kt s9).seq e8) e9
        exact ⟨b, vs, .ref p5, rfl, rfl, s9 _ _ (s8 _ _ eb), by omega, fin (bs ++ [b]) ovs _ _ g1 g2 pas g3⟩
  · obtain ⟨s, as, ovs, o5, o6, rfl, st, hp, pas, hW, hru⟩ := pv
    rw [List.length_map, List.drop_length] at hru
    have : s = u := Option.some.inj hru
    subst this
    rw [List.length_map] at st
    obtain ⟨bs, b, rfl, hbs, ⟨vs, eb, hvs⟩⟩ := st.last
    obtain ⟨m1, m2⟩ := map_last bs b
    refine ⟨_, rfl, _, rfl, .inl ⟨rfl, _, SqL.of st.hL⟩, L, _, .ref b, rfl, rfl, st.hL, m1, ?_⟩
    rw [m2]
    have stp := st.pop hbs
    have bL : b ≠ L := fun z => st.nL (by rw [z]; simp)
    have kt := KT.of_lst (ys := bs.map V.ref) st.hL
    refine ⟨b, vs, s.top, vl, rfl, SqL.of (by rw [upd_ne bL]; exact eb), paired_imp (fun _ _ q => q.kt kt) hvs, r3, fun H8 v s8 hv => ?_⟩
    have st8 := stp.same s8
    refine ⟨le1k, fun p9 H9 s9 e9 => ⟨O, p9, ovs, [v], rfl, rfl, s9 _ _ st8.hO, e9, ?_, fun p10 H10 s10 e10 => ?_⟩⟩
    · have lov := paired_len st8.po
      have lts : ts.length = s.out.length + 1 := by
        have := congrArg List.length r4
        rw [List.length_append] at this
        simp at this
        omega
      show ovs.length + 1 ≤ 1000
      have := row_len ts
      omega
    · refine q H10 p10 _ ((st8.sm.trans s9).trans s10) e10 ?_
      rw [← r4]
      have k := Same.kt (s9.trans s10)
      exact paired_app (paired_imp (fun _ _ h => h.kt k) st8.po) (.cons (hv.kt k) .nil)
end
end My

set_option Elab.async false
set_option linter.all false
set_option maxRecDepth 100000
namespace My
open PySem L2
abbrev s_law_read_due : Stmt := top 71
abbrev N_law_read_due : List Str := ["_law_text", "_law_is_row", "_law_at", "_law_is_whole", "_law_forms", "_law_ends", "_law_form", "_law_tall"]
abbrev P_law_read_due : List Str := ["_law_text", "_law_is_row"]
theorem sc_law_read_due : FnScope N_law_read_due P_law_read_due (defScope s_law_read_due) := ⟨rfl, rfl, rfl, by decide +kernel, rfl, by decide +kernel, by decide +kernel⟩
/-- what is due of a row -/
def spReadDue (K : PySem.W.Frag) : Sp := fun vs H Q _ => ∃ (cs : List Nat) (ts : List FT), vs = [.str (Z cs), .bl true] ∧ Gp (rowToks ts) cs ∧ 1 ≤ ts.length ∧ (∀ t ∈ ts, t.Ok) ∧ (rowToks ts).length ≤ 900 ∧ 12 * cs.length + 100 ≤ sizeLine ∧ lvsL ts ≤ 1000 ∧
  (∀ H' p, Same H H' → (∃ t ∈ ts, 12 < t.dep) → SqT K H' p [.str "deep", .int 12] → Q (.ref p) H') ∧ (∀ H' p, Same H H' → (∀ t ∈ ts, t.dep ≤ 12) → 40 < lvsL ts → SqT K H' p [.str "many", .int 40] → Q (.ref p) H') ∧
  (∀ H' p v, Same H H' → (∀ t ∈ ts, t.dep ≤ 12) → lvsL ts ≤ 40 → SqT K H' p [.str "told", v] → Q (.ref p) H')
theorem lvs_one : ∀ t : FT, (lvs t.data).length = t.lvs
  | .leaf co n => by
    show (lvs (.tuple [.str (leafZ co), .str (Z n)])).length = 1
    rw [lvs2]
    rfl
  | .node s l r => by
    show (lvs (.tuple [.str s.word, l.data, r.data])).length = l.lvs + r.lvs
    rw [lvs3, List.length_append, lvs_one l, lvs_one r]
theorem lvs_data : ∀ ts : List FT, ((ts.map FT.data).flatMap lvs).length = lvsL ts
  | [] => rfl
  | t :: ts => by
    have ih := lvs_data ts
    unfold lvsL at ih ⊢
    rw [List.map_cons, List.flatMap_cons, List.length_append, ih, lvs_one, List.map_cons, List.sum_cons]
theorem dp_of_fm {K : PySem.W.Frag} {H : Hp} {xs : List V} {ts : List FT} (h : Paired (fun v t => Fm K H t v) xs ts) : DpAll K H xs (ts.map FT.data) := by
  induction h with
  | nil => exact .nil
  | cons h _ ih => exact .cons (FT.of_fm _ h) ih
section
variable {P : Program} {w : World} {K : PySem.W.Frag} {mg : Str → Option Value} {base : Heap} {f : Addr} {fd : FuncData}
theorem ok_law_read_due (T : Txt K mg) (F : Fun K "_law_read_due" "_law_read_due" s_law_read_due f fd) (C_law_longest : Cal P w K mg base "_law_longest" 1 P_law_longest (spLongest K)) (C_law_read : Cal P w K mg base "_law_read" 2 P_law_read (spRead K)) (C_law_leaf_many : Cal P w K mg base "_law_leaf_many" 14 P_law_leaf_many (spLeafMany K))
    (hD : ∀ t : FT, t.Ok → t.dep ≤ 12 → isForm 12 t.data = true) : FnOk P w K mg base CX0 15 f fd P_law_read_due (spReadDue K) := by
  refine F.ok sc_law_read_due (fun vs H Q E h => ?_) (fun cdv A outer s H vs Q E hr h => ?_)
  · obtain ⟨cs, ts, rfl, _⟩ := h
    rfl
  obtain ⟨cs, ts, rfl, hg, h1, hok, hn, hl, h1000, q1, q2, q3⟩ := h
  refine ⟨_, (pss_cons (ps_asg (pe_callC C_law_longest hr (pa_cons (pv 0) (pa_cons (pv 1) pa_nil))) (pg_tup rfl (pgs_cons (pg_name (i := 2) sc_law_read_due.nd rfl (Or.inl rfl)) (pgs_cons (pg_name (i := 3) sc_law_read_due.nd rfl (Or.inl rfl)) pgs_nil))))
  (pss_cons (ps_if (pt_not (pt_truth (pv 3) (by intro _; rfl)))
    (pss_one (ps_ret (pe_tupN (pa_cons pe_str (pa_cons (pv 2) pa_nil)))))
    pss_nil)
  (pss_cons (ps_set (i := 4) sc_law_read_due.nd rfl (Or.inl rfl) (pe_callC C_law_read hr (pa_cons (pv 0) pa_nil)))
  (pss_cons (ps_if (pt_cmpR op_gt (pe_callB (cr_max rfl) rfl T.max (by decide +kernel) (pa_cons (pe_lc (own := [("_law_form", 6), ("_law_tall", 7)]) (g := gTup K 2 (gCons (gName 6) (gCons (gName 7) gNil))) (te := tVar 7) rfl sc_law_read_due.nd (pi_list (pv 4)) (blkOk_by (own := [("_law_form", 6), ("_law_tall", 7)]) (N := N_law_read_due) (sc := defScope s_law_read_due) (by decide +kernel)) (fun _ _ _ _ _ => (pg_tup rfl (pgs_cons (pg_name (i := 6) sc_law_read_due.nd rfl (Or.inl rfl)) (pgs_cons (pg_name (i := 7) sc_law_read_due.nd rfl (Or.inl rfl)) pgs_nil)))) (fun _ _ _ _ _ => pts_nil) (fun _ _ _ _ _ => (pv 7))) pa_nil)) pe_int (nomark _))
    (pss_one (ps_ret (pe_tupN (pa_cons pe_str (pa_cons pe_int pa_nil)))))
    pss_nil)
  (pss_cons (ps_setLc (i := 5) (own := [("_law_form", 6), ("_law_tall", 7)]) (g := gTup K 2 (gCons (gName 6) (gCons (gName 7) gNil))) (te := tVar 6) rfl sc_law_read_due.nd rfl rfl (sw_true rfl rfl rfl (by decide +kernel)) (pi_list (pv 4)) (blkOk_by (own := [("_law_form", 6), ("_law_tall", 7)]) (N := N_law_read_due) (sc := defScope s_law_read_due) (by decide +kernel)) (fun _ _ _ _ _ => (pg_tup rfl (pgs_cons (pg_name (i := 6) sc_law_read_due.nd rfl (Or.inl rfl)) (pgs_cons (pg_name (i := 7) sc_law_read_due.nd rfl (Or.inl rfl)) pgs_nil)))) (fun _ _ _ _ _ => pts_nil) (fun _ _ _ _ _ => (pv 6)))
  (pss_cons (ps_if (PW.pt (pw_and (pt_truth (pv 1) (by intro _; rfl)) (pw_and1 (pt_cmpR op_gt (pe_callC C_law_leaf_many hr (pa_cons (pv 5) pa_nil)) pe_int (nomark _)))))
    (pss_one (ps_ret (pe_tupN (pa_cons pe_str (pa_cons pe_int pa_nil)))))
    pss_nil)
  (pss_one (ps_ret (pe_tupN (pa_cons pe_str (pa_cons (pe_ifExp (pt_truth (pv 1) (by intro _; rfl)) (pv 5) (pe_ix ix_list (pv 5) pe_int (fun _ _ => rfl))) pa_nil))))))))))), ?_⟩
  have hb : sizeLine > 2000 := by decide
  refine ⟨_, rfl, _, rfl, cs, true, rfl, by omega, fun H1 p1 s1 e1 => ?_⟩
  rw [longest_row h1 hok hg] at e1
  refine ⟨p1, _, rfl, e1, rfl, _, _, rfl, _, _, rfl, rfl, ?_⟩
  refine ⟨_, rfl, true, rfl, iteF ?_⟩
  refine ⟨_, rfl, cs, ts, rfl, hg, h1, hok, hn, hl, fun H2 p2 vs s2 e2 hv => ?_⟩
  have lv := paired_len hv
  have lts : ts.length ≤ 900 := Nat.le_trans (row_len ts) hn
  refine ⟨_, rfl, p2, rfl, ⟨vs, SqL.of e2⟩, fun D nD => ?_⟩
  refine lc_it (walk_list (xs := vs)) (fun i H' => Same H2 H' ∧ H' D = some (.lst (((ts.take i).map fun t => (t.dep : Int)).map V.int))) ⟨same_new nD _, upd_same⟩ (fun i H' _ p => SqL.of (p.1 _ _ e2)) (fun i y H3 H4 hi p yy => ?_) (fun H3 p => ?_)
  · obtain ⟨rfl, hy⟩ := yy
    obtain ⟨s3, eD⟩ := p
    obtain ⟨t, ht, pq, f0, rfl, hs, hf⟩ := paired_take hv hy
    refine ⟨pq, _, rfl, (Same.kt s3).seq hs, rfl, _, _, rfl, _, _, rfl, rfl, rfl, ?_⟩
    refine ⟨_, rfl, _, eD, small1000 (by rw [List.length_map, List.length_map, List.length_take]; omega), same_at s3 nD, ?_⟩
    rw [upd_same, take_next ht, List.map_append, List.map_append]
    rfl
  obtain ⟨s3, eD⟩ := p
  rw [List.take_of_length_le (by omega)] at eD
  refine ⟨D, _, rfl, SqL.of eD, by rw [List.length_map]; omega, fun m hm hle => ?_⟩
  refine ⟨_, _, rfl, rfl, _, rfl, ?_⟩
  have s03 : Same H H3 := (s1.trans s2).trans s3
  obtain ⟨tm, htm, rfl⟩ := List.mem_map.mp hm
  by_cases c : 12 < tm.dep
  · rw [decide_eq_true (by omega)]
    exact iteT ⟨le1k, fun p H4 s4 e4 => q1 H4 p (s03.trans s4) ⟨tm, htm, c⟩ e4⟩
  rw [decide_eq_false (by omega)]
  have all12 : ∀ t ∈ ts, t.dep ≤ 12 := fun t ht => by
    have := hle (t.dep : Int) (List.mem_map.mpr ⟨t, ht, rfl⟩)
    omega
  refine iteF ⟨_, rfl, p2, rfl, ⟨vs, SqL.of (s3 _ _ e2)⟩, fun D2 nD2 => ?_⟩
  refine lc_it (walk_list (xs := vs)) (fun i H' => Same H3 H' ∧ ∃ xs, H' D2 = some (.lst xs) ∧ Paired (fun v t => Fm K H' t v) xs (ts.take i)) ⟨same_new nD2 _, [], upd_same, .nil⟩ (fun i H' _ p => SqL.of (p.1 _ _ (s3 _ _ e2))) (fun i y H5 H6 hi p yy => ?_) (fun H5 p => ?_)
  · obtain ⟨rfl, hy⟩ := yy
    obtain ⟨s5, xs, eD2, hx⟩ := p
    obtain ⟨t, ht, pq, f0, rfl, hs, hf⟩ := paired_take hv hy
    have k5 := Same.kt (s3.trans s5)
    have lx := paired_len hx
    rw [List.length_take] at lx
    have gl := KT.of_lst (ys := xs ++ [f0]) eD2
    refine ⟨pq, _, rfl, k5.seq hs, rfl, _, _, rfl, _, _, rfl, rfl, rfl, ?_⟩
    refine ⟨_, rfl, _, eD2, small1000 (by omega), same_at s5 nD2, xs ++ [f0], upd_same, ?_⟩
    rw [take_next ht]
    exact paired_app (paired_imp (fun _ _ h => gl.fm _ h) hx) (.cons (gl.fm _ (k5.fm _ hf)) .nil)
  obtain ⟨s5, xs, eD2, hx⟩ := p
  rw [List.take_of_length_le (by omega)] at hx
  have s05 := s03.trans s5
  have dp : DpAll K H5 xs (ts.map FT.data) := dp_of_fm hx
  refine ⟨_, rfl, true, rfl, ?_⟩
  refine iteT ⟨_, rfl, D2, xs, ts.map FT.data, rfl, SqL.of eD2, dp, ?_, by rw [List.length_map]; omega, by rw [lvs_data]; exact h1000, fun H7 s7 => ?_⟩
  · rw [List.all_eq_true]
    intro D hD'
    obtain ⟨t, ht, rfl⟩ := List.mem_map.mp hD'
    exact hD t (hok t ht) (all12 t ht)
  rw [lvs_data]
  refine ⟨_, _, rfl, rfl, _, rfl, ?_⟩
  by_cases c2 : 40 < lvsL ts
  · rw [decide_eq_true (by omega)]
    exact iteT ⟨le1k, fun p H8 s8 e8 => q2 H8 p ((s05.trans s7).trans s8) all12 c2 e8⟩
  rw [decide_eq_false (by omega)]
  refine iteF ⟨_, rfl, true, rfl, iteT ⟨_, rfl, le1k, fun p H8 s8 e8 => q3 H8 p _ ((s05.trans s7).trans s8) all12 (by omega) e8⟩⟩
end
end My

set_option Elab.async false
set_option linter.all false
set_option maxRecDepth 100000
namespace My
open PySem L2
/-! ### rows as texts -/
theorem Gp.sp {ts : List (List Nat)} {cs : List Nat} (g : Gp ts cs) : Gp ts (32 :: cs) := by
  cases g with
  | nil k => exact .nil (k + 1)
  | @cons k t ts cs g => exact .cons (k + 1) g
theorem gp_wrt : ∀ (t : FT) (h : Bool) {ts : List (List Nat)} {cs : List Nat}, Gp ts cs → Gp (toks h t ++ ts) (wrt h t ++ cs)
  | .leaf co n, h, ts, cs, g => by
    have := Gp.cons 0 (t := leafS co n) g
    cases h <;> exact this
  | .node s l r, h, ts, cs, g => by
    have key : ∀ {ts : List (List Nat)} {cs : List Nat}, Gp ts cs → Gp ((toks true l ++ ([s.code] :: toks true r)) ++ ts) ((wrt true l ++ (32 :: s.code :: 32 :: wrt true r)) ++ cs) := fun {ts cs} g => by
      have g1 := (gp_wrt r true g).sp
      have g2 := Gp.cons 1 (t := [s.code]) g1
      have g3 := gp_wrt l true g2
      have e1 : (toks true l ++ ([s.code] :: toks true r)) ++ ts = toks true l ++ ([s.code] :: (toks true r ++ ts)) := by simp only [List.append_assoc, List.cons_append]
      have e2 : (wrt true l ++ (32 :: s.code :: 32 :: wrt true r)) ++ cs = wrt true l ++ (spc 1 ++ ([s.code] ++ (32 :: (wrt true r ++ cs)))) := by
        simp only [List.append_assoc, List.cons_append, List.nil_append, List.replicate_succ, List.replicate_zero]
      rw [e1, e2]
      exact g3
    cases h with
    | false => exact key g
    | true =>
      have g1 := Gp.cons 0 (t := [41]) g
      have g2 := Gp.cons 0 (t := [40]) (key g1)
      have e1 : toks true (.node s l r) ++ ts = [40] :: ((toks true l ++ ([s.code] :: toks true r)) ++ ([41] :: ts)) := by
        show ([40] :: (toks true l ++ ([s.code] :: toks true r) ++ [[41]])) ++ ts = _
        simp only [List.append_assoc, List.cons_append, List.nil_append]
      have e2 : wrt true (.node s l r) ++ cs = spc 0 ++ ([40] ++ ((wrt true l ++ (32 :: s.code :: 32 :: wrt true r)) ++ (spc 0 ++ ([41] ++ cs)))) := by
        show (40 :: (wrt true l ++ (32 :: s.code :: 32 :: wrt true r) ++ [41])) ++ cs = _
        simp only [List.append_assoc, List.cons_append, List.nil_append, List.replicate_zero]
      rw [e1, e2]
      exact g2
theorem more_cons (x : FT) (ts : List FT) : moreToks (x :: ts) = [44] :: (toks false x ++ moreToks ts) := by
  unfold moreToks
  rw [List.map_cons, List.flatten_cons]
  rfl
theorem gp_rowS : ∀ (ts : List FT) (t : FT), Gp (rowToks (t :: ts)) (rowS (t :: ts))
  | [], t => by
    have := gp_wrt t false (Gp.nil 0)
    have e : rowS [t] = wrt false t ++ spc 0 := (List.append_nil _).symm
    rw [e]
    exact this
  | x :: ts, t => by
    have g1 := (gp_rowS ts x).sp
    have g2 := Gp.cons 0 (t := [44]) g1
    have g3 := gp_wrt t false g2
    have e : rowToks (t :: x :: ts) = toks false t ++ ([44] :: rowToks (x :: ts)) := by
      show toks false t ++ moreToks (x :: ts) = _
      rw [more_cons]
      rfl
    rw [e]
    exact g3
theorem gp_txR (t : FT) {ts : List (List Nat)} {cs : List Nat} (h : t.Ok) (g : Gp (toks false t ++ ([44] :: ts)) cs) : ∃ R, TxR (44 :: R) t cs ∧ Gp ts R := by
  cases t with
  | leaf co n =>
    cases g with
    | cons k g =>
      cases g with
      | @cons k2 _ _ R g2 => exact ⟨R, ⟨k, k2, leafS co n, 44 :: R, [], .leaf co n, rfl, .leaf co n h, .nil, .inl ⟨rfl, co, n, rfl⟩, rfl⟩, g2⟩
  | node s l r =>
    have e : toks false (.node s l r) ++ ([44] :: ts) = toks true l ++ ([s.code] :: (toks true r ++ ([44] :: ts))) := by
      show (toks true l ++ ([s.code] :: toks true r)) ++ ([44] :: ts) = _
      simp only [List.append_assoc, List.cons_append]
    rw [e] at g
    obtain ⟨a, tl, c1, rfl, hl, g1⟩ := gp_half l h.1 g
    cases g1 with
    | @cons b _ _ c2 g2 =>
      obtain ⟨c, tr, c3, rfl, hr, g3⟩ := gp_half r h.2 g2
      cases g3 with
      | @cons d _ _ R g4 => exact ⟨R, ⟨a, b, tl, _, [.lf s r], l, rfl, hl, .lf s l c d hr (.rt1 s l), .inr ⟨s, r, rfl⟩, rfl⟩, g4⟩
theorem gp_rwx : ∀ (ts : List FT) (t : FT) {cs : List Nat}, (∀ u ∈ t :: ts, u.Ok) → Gp (rowToks (t :: ts)) cs → RwX (t :: ts) cs
  | [], t, cs, h, g => .one (gp_tx t (h t (List.mem_cons_self ..)) (by
      have g : Gp (toks false t ++ []) cs := g
      rw [List.append_nil] at g
      exact g))
  | x :: ts, t, cs, h, g => by
    have e : rowToks (t :: x :: ts) = toks false t ++ ([44] :: rowToks (x :: ts)) := by
      show toks false t ++ moreToks (x :: ts) = _
      rw [more_cons]
      rfl
    rw [e] at g
    obtain ⟨R, h1, g2⟩ := gp_txR t (h t (List.mem_cons_self ..)) g
    exact .cons h1 (gp_rwx ts x (fun u hu => h u (List.mem_cons_of_mem _ hu)) g2)
theorem rwx_of {ts : List FT} {cs : List Nat} (h1 : 1 ≤ ts.length) (h : ∀ u ∈ ts, u.Ok) (g : Gp (rowToks ts) cs) : RwX ts cs := by
  cases ts with
  | nil => simp at h1
  | cons t ts => exact gp_rwx ts t h g
/-! ### how long -/
theorem toks_le : ∀ t : FT, (toks true t).length + 3 ≤ 4 * t.lvs
  | .leaf co n => Nat.le_refl _
  | .node s l r => by
    have hl := toks_le l
    have hr := toks_le r
    have e : toks true (.node s l r) = [40] :: (toks true l ++ ([s.code] :: toks true r) ++ [[41]]) := rfl
    have e2 : (FT.node s l r).lvs = l.lvs + r.lvs := rfl
    rw [e, e2]
    simp only [List.length_append, List.length_cons, List.length_nil]
    omega
theorem wrt_le : ∀ t : FT, t.Ok → (wrt true t).length + 5 ≤ 18 * t.lvs
  | .leaf co n, h => by
    have hn2 : (decide (1 ≤ (Z n).length ∧ (Z n).length ≤ 12) && ((Z n).cps.toList.head?.any isL && (Z n).cps.toList.all isLD)) = true := h
    rw [Z_len, Bool.and_eq_true, decide_eq_true_eq] at hn2
    have e : (wrt true (.leaf co n)).length ≤ n.length + 1 := by
      show (leafS co n).length ≤ n.length + 1
      unfold leafS
      rw [List.length_append]
      cases co <;> simp
    have e2 : (FT.leaf co n).lvs = 1 := rfl
    rw [e2]
    omega
  | .node s l r, h => by
    have hl := wrt_le l h.1
    have hr := wrt_le r h.2
    have e : wrt true (.node s l r) = 40 :: (wrt true l ++ (32 :: s.code :: 32 :: wrt true r) ++ [41]) := rfl
    have e2 : (FT.node s l r).lvs = l.lvs + r.lvs := rfl
    rw [e, e2]
    simp only [List.length_append, List.length_cons, List.length_nil]
    omega
theorem row_le : ∀ ts : List FT, (rowToks ts).length ≤ 4 * lvsL ts ∧ (moreToks ts).length ≤ 4 * lvsL ts
  | [] => ⟨Nat.zero_le _, Nat.zero_le _⟩
  | t :: ts => by
    obtain ⟨_, h2⟩ := row_le ts
    have ht := toks_le t
    have hs := toks_short false t
    have e : lvsL (t :: ts) = t.lvs + lvsL ts := by
      unfold lvsL
      rw [List.map_cons, List.sum_cons]
    have e1 : rowToks (t :: ts) = toks false t ++ moreToks ts := rfl
    rw [e, e1, more_cons, List.length_append, List.length_cons, List.length_append]
    omega
theorem row_flat (ts : List FT) (h : ∀ t ∈ ts, t.Ok) : (rowToks ts).flatten.length ≤ 19 * lvsL ts ∧ (moreToks ts).flatten.length ≤ 19 * lvsL ts := by
  induction ts with
  | nil => exact ⟨Nat.zero_le _, Nat.zero_le _⟩
  | cons t ts ih =>
    obtain ⟨_, h2⟩ := ih fun u hu => h u (List.mem_cons_of_mem _ hu)
    have ht := wrt_le t (h t (List.mem_cons_self ..))
    have hs := wrt_short false t
    have hf := toks_flat t false
    have e : lvsL (t :: ts) = t.lvs + lvsL ts := by
      unfold lvsL
      rw [List.map_cons, List.sum_cons]
    have e1 : rowToks (t :: ts) = toks false t ++ moreToks ts := rfl
    rw [e, e1, more_cons, List.flatten_append, List.length_append, List.flatten_cons, List.flatten_append, List.length_append, List.length_append]
    have : ([44] : List Nat).length = 1 := rfl
    omega
theorem rowN_le (ts : List FT) (h : ∀ t ∈ ts, t.Ok) : rowN ts ≤ 20 * lvsL ts := by
  induction ts with
  | nil => exact Nat.zero_le _
  | cons t ts ih =>
    have ih := ih fun u hu => h u (List.mem_cons_of_mem _ hu)
    have ht := wrt_le t (h t (List.mem_cons_self ..))
    have hs := wrt_short false t
    unfold rowN lvsL at ih ⊢
    simp only [List.map_cons, List.sum_cons, List.length_cons]
    omega
theorem rowS_le : ∀ ts : List FT, (rowS ts).length ≤ rowN ts
  | [] => Nat.zero_le _
  | [t] => by
    show (wrt false t).length ≤ ([t].map fun t => (wrt false t).length).sum + 2 * 1
    simp
  | t :: x :: ts => by
    have ih := rowS_le (x :: ts)
    have e : rowS (t :: x :: ts) = wrt false t ++ (commaS ++ rowS (x :: ts)) := rfl
    have e2 : rowN (t :: x :: ts) = (wrt false t).length + 2 + rowN (x :: ts) := by
      unfold rowN
      simp only [List.map_cons, List.sum_cons, List.length_cons]
      omega
    rw [e, e2, List.length_append, List.length_append]
    have : commaS.length = 2 := rfl
    omega
theorem lvs_pos : ∀ t : FT, 1 ≤ t.lvs
  | .leaf _ _ => Nat.le_refl _
  | .node _ l r => by
    have := lvs_pos l
    show 1 ≤ l.lvs + r.lvs
    omega
theorem lvsL_mem {ts : List FT} {t : FT} (h : t ∈ ts) : t.lvs ≤ lvsL ts := by
  induction ts with
  | nil => cases h
  | cons x ts ih =>
    unfold lvsL at ih ⊢
    rw [List.map_cons, List.sum_cons]
    rcases List.mem_cons.mp h with rfl | h
    · omega
    · have := ih h
      omega
theorem len_lvsL : ∀ ts : List FT, ts.length ≤ lvsL ts
  | [] => Nat.zero_le _
  | t :: ts => by
    have ih := len_lvsL ts
    have := lvs_pos t
    unfold lvsL at ih ⊢
    rw [List.map_cons, List.sum_cons, List.length_cons]
    omega
end My

set_option Elab.async false
set_option linter.all false
set_option maxRecDepth 100000
namespace My
open PySem L2
theorem ft_isForm : ∀ (t : FT) {k : Nat}, t.Ok → t.dep ≤ k → isForm k t.data = true
  | .leaf co n, k, h, _ => by
    show isForm k (.tuple [.str (leafZ co), .str (Z n)]) = true
    rw [isForm_m2, Bool.and_eq_true]
    exact ⟨by cases co <;> decide +kernel, h⟩
  | .node s l r, k, h, hk => by
    have hk' : 1 + max l.dep r.dep ≤ k := hk
    obtain ⟨j, rfl⟩ : ∃ j, k = j + 1 := ⟨k - 1, by omega⟩
    show isForm (j + 1) (.tuple [.str s.word, l.data, r.data]) = true
    rw [isForm_m3, Bool.and_eq_true, Bool.and_eq_true]
    exact ⟨by cases s <;> decide +kernel, ft_isForm l h.1 (by omega), ft_isForm r h.2 (by omega)⟩
abbrev s_law_ends_right : Stmt := top 72
abbrev N_law_ends_right : List Str := ["_law_pen", "_law_ends", "_law_kept", "_law_text", "_law_tokens_here", "_law_spaced_here", "_law_told", "_law_form"]
abbrev P_law_ends_right : List Str := ["_law_pen", "_law_ends"]
theorem sc_law_ends_right : FnScope N_law_ends_right P_law_ends_right (defScope s_law_ends_right) := ⟨rfl, rfl, rfl, by decide +kernel, rfl, by decide +kernel, by decide +kernel⟩
/-- ends as forms -/
def Ends6 (ts : List FT) : Prop := 1 ≤ ts.length ∧ (∀ t ∈ ts, t.dep ≤ 12 ∧ t.Ok) ∧ lvsL ts ≤ 40
theorem ends_data {ts : List FT} (h : Ends6 ts) {D : PyData} (hD : D = .list (ts.map FT.data) ∨ D = .tuple (ts.map FT.data)) : isEnds D = true ∧ shortD D = true ∧ widD D = true ∧ D.depth ≤ 40 := by
  obtain ⟨h1, h2, h3⟩ := h
  have hl := len_lvsL ts
  have hf : ∀ d ∈ ts.map FT.data, isForm 12 d = true := fun d hd => by
    obtain ⟨t, ht, rfl⟩ := List.mem_map.mp hd
    exact ft_isForm t (h2 t ht).2 (h2 t ht).1
  have ok : ∀ d ∈ ts.map FT.data, shortD d = true ∧ widD d = true ∧ d.depth ≤ 30 := fun d hd => form_ok (hf d hd) (by decide)
  refine ⟨isEnds_good hD (by rw [List.length_map]; exact h1) (by rw [List.length_map]; omega) (List.all_eq_true.mpr hf) (by rw [lvs_data]; exact h3), ?_⟩
  have a1 := shortAll_of fun d hd => (ok d hd).1
  have a2 := widAll_of fun d hd => (ok d hd).2.1
  have a3 := depthAll_of fun d hd => (ok d hd).2.2
  have hlen : (ts.map FT.data).length ≤ 40 := by
    rw [List.length_map]
    omega
  generalize ts.map FT.data = ds at *
  rcases hD with rfl | rfl
  · refine ⟨by unfold shortD; exact a1, by unfold widD; simp only [Bool.and_eq_true, decide_eq_true_eq]; exact ⟨by omega, a2⟩, ?_⟩
    rw [PyData.depth]
    omega
  · refine ⟨by unfold shortD; exact a1, by unfold widD; simp only [Bool.and_eq_true, decide_eq_true_eq]; exact ⟨by omega, a2⟩, ?_⟩
    rw [PyData.depth]
    omega
theorem paired_two {K : PySem.W.Frag} {H : Hp} : ∀ {xs ys : List V} {ts : List FT}, (∀ t ∈ ts, t.dep ≤ 12) → Paired (fun v t => Fm K H t v) xs ts → Paired (fun v t => Fm K H t v) ys ts → Paired (Tw K H 15) xs ys
  | _, _, _, _, .nil, .nil => .nil
  | _, _, _, h, .cons a1 a2, .cons b1 b2 => .cons (tw_fm _ 15 (by have := h _ (List.mem_cons_self ..); omega) a1 b1) (paired_two (fun t ht => h t (List.mem_cons_of_mem _ ht)) a2 b2)
def spEndsRight (K : PySem.W.Frag) : Sp := fun vs H Q _ => ∃ (d L a : Addr) (ns : List Int) (n : Nat) (xs : List V) (ts : List FT), vs = [.ref d, .ref a] ∧ Pen K H d L ns n ∧ n < 2 ^ 38 ∧ H a = some (.lst xs) ∧ Paired (fun v t => Fm K H t v) xs ts ∧ Ends6 ts ∧
  ∀ H', Keep d H H' → Pen K H' d L ns (n + 1000) → Q (.bl true) H'
section
variable {P : Program} {w : World} {K : PySem.W.Frag} {mg : Str → Option Value} {base : Heap} {f : Addr} {fd : FuncData}
theorem ok_law_ends_right {CB CD CM : Addr} (T : Txt K mg) (F : Fun K "_law_ends_right" "_law_ends_right" s_law_ends_right f fd) (C_law_form_text : Cal P w K mg base "_law_form_text" 14 P_law_form_text (spLText K 13)) (C_law_same : Cal P w K mg base "_law_same" 17 P_law_same (spSame K 16))
    (Cends_text : CalX P w K mg base "ends_text" 30 Pends_text (spEndsText K CB)) (Cread_ends : CalX P w K mg base "read_ends" 8 Pread_ends (spReadEnds K CB CD CM)) (C_law_ends_tokens : Cal P w K mg base "_law_ends_tokens" 22 P_law_ends_tokens (spEndsTokens K)) (C_law_spaced : Cal P w K mg base "_law_spaced" 3 P_law_spaced (spSpaced K)) :
    FnOk P w K mg base CX0 31 f fd P_law_ends_right (spEndsRight K) := by
  refine F.ok sc_law_ends_right (fun vs H Q E h => ?_) (fun cdv A outer s H vs Q E hr h => ?_)
  · obtain ⟨d, L, a, ns, n, xs, ts, rfl, _⟩ := h
    rfl
  obtain ⟨d, L, a, ns, n, xs, ts, rfl, p, hn, ha, hp, he, q⟩ := h
  refine ⟨_, (pss_cons (ps_par (i := 2) (j := 3) (by rfl) sc_law_ends_right.nd rfl rfl (by decide) rfl rfl (pa_cons (pe_callTy call_list_of rfl T.list (by decide +kernel) (pa_cons (pv 1) pa_nil)) (pa_cons (pe_join pe_str (pe_lc (own := [("_law_form", 7)]) (g := (gName 7)) (te := tCall (spLText K 13) [] E0 (tCons (tVar 7) (tCons (tC (.bl false)) tNil))) rfl sc_law_ends_right.nd (pi_list (pv 1)) (blkOk_by (own := [("_law_form", 7)]) (N := N_law_ends_right) (sc := defScope s_law_ends_right) (by decide +kernel)) (fun _ _ _ _ _ => (pg_name (i := 7) sc_law_ends_right.nd rfl (Or.inl rfl))) (fun _ _ _ _ _ => pts_nil) (fun _ _ _ _ _ => (pe_callC C_law_form_text hr (pa_cons (pv 7) (pa_cons pe_bl pa_nil)))))) pa_nil)) (by rfl))
  (pss_cons (ps_if (PW.pt (pw_or (pt_not (pt_val (pe_callC C_law_same hr (pa_cons (Told.pe_callV Cends_text hr (pa_cons (pv 1) pa_nil)) (pa_cons (pv 3) pa_nil))))) (pw_or (pt_not (pt_val (pe_callC C_law_same hr (pa_cons (Told.pe_callV Cends_text hr (pa_cons (pe_callTy call_tuple_of rfl T.tuple (by decide +kernel) (pa_cons (pv 1) pa_nil)) pa_nil)) (pa_cons (pv 3) pa_nil))))) (pw_or1 (pt_cmpR (op_neD hr.units) (pv 1) (pv 2) (nomark _))))))
    (pss_one (ps_ret pe_bl))
    pss_nil)
  (pss_cons (ps_set (i := 4) sc_law_ends_right.nd rfl (Or.inl rfl) (pe_callC C_law_ends_tokens hr (pa_cons (pv 1) pa_nil)))
  (pss_cons (ps_for PassesOwn.never rfl (pi_list (pe_lstN (pa_cons (pv 3) (pa_cons (pe_join pe_str (pv 4)) (pa_cons (pe_callC C_law_spaced hr (pa_cons (pv 0) (pa_cons (pv 4) pa_nil))) pa_nil))))) (pg_name (i := 5) sc_law_ends_right.nd rfl (Or.inl rfl))
    (pss_cons (ps_set (i := 6) sc_law_ends_right.nd rfl (Or.inl rfl) (Told.pe_callV Cread_ends hr (pa_cons (pv 5) pa_nil)))
    (pss_cons (ps_if (pt_not (pt_val (pe_callC C_law_same hr (pa_cons (pv 6) (pa_cons (pv 1) pa_nil)))))
      (pss_one (ps_ret pe_bl))
      pss_nil)
    (pss_cons (ps_expr (pe_bm PySem.F.plainAttrs_list PySem.F.slot_list_append PySem.F.type_list_append mt_append (pv 6) (pa_cons (pe_tupN (pa_cons pe_str (pa_cons pe_str pa_nil))) pa_nil)))
    (pss_one (ps_if (pt_not (pt_val (pe_callC C_law_same hr (pa_cons (Told.pe_callV Cread_ends hr (pa_cons (pv 5) pa_nil)) (pa_cons (pv 1) pa_nil)))))
      (pss_one (ps_ret pe_bl))
      pss_nil))))))
  (pss_one (ps_ret pe_bl)))))), ?_⟩
  obtain ⟨h1, hok, h40⟩ := he
  have hlen := paired_len hp
  have hll := len_lvsL ts
  have hbig := big
  have oks : ∀ t ∈ ts, t.Ok := fun t ht => (hok t ht).2
  have dps : ∀ t ∈ ts, t.dep ≤ 12 := fun t ht => (hok t ht).1
  have hN := rowN_le ts oks
  have hT := (row_le ts).1
  have hF := (row_flat ts oks).1
  have wle : ∀ t ∈ ts, (wrt true t).length ≤ 720 := fun t ht => by
    have := wrt_le t (oks t ht)
    have := lvsL_mem ht
    omega
  have nad : a ≠ d := fun e => by
    obtain ⟨kvs, h⟩ := p.isDk
    rw [← e, ha] at h
    cases h
  refine ⟨_, rfl, a, xs, rfl, .inl (SqL.of ha), fun k1 nk1 => ?_⟩
  have s1 := same_new nk1 (.lst xs)
  have ek1 : upd H k1 (.lst xs) k1 = some (.lst xs) := upd_same
  generalize upd H k1 (.lst xs) = H1 at *
  refine ⟨⟨_, rfl⟩, _, rfl, a, rfl, ⟨xs, SqL.of (s1 _ _ ha)⟩, fun B nB => ?_⟩
  refine lc_it (walk_list (xs := xs)) (fun i H' => Same H1 H' ∧ H' B = some (.lst ((ts.take i).map fun t => V.str (Z (wrt false t))))) ⟨same_new nB _, upd_same⟩ (fun i H' _ p => SqL.of (p.1 _ _ (s1 _ _ ha))) (fun i y H3 H4 hi p yy => ?_) (fun H3 p3 => ?_)
  · obtain ⟨rfl, hy⟩ := yy
    obtain ⟨s3, eD⟩ := p
    obtain ⟨t, ht, hyt⟩ := paired_take hp hy
    have tm : t ∈ ts := List.mem_of_getElem? ht
    refine ⟨rfl, y, rfl, y, t, false, rfl, (Same.kt (s1.trans s3)).fm t hyt, by have := dps t tm; omega, by have := wle t tm; omega, fun H5 s5 => ⟨_, s5 _ _ eD, small1000 (by rw [List.length_map, List.length_take]; omega), same_at (s3.trans s5) nB, ?_⟩⟩
    rw [upd_same, take_next ht, List.map_append]
    rfl
  obtain ⟨s3, eD⟩ := p3
  rw [List.take_of_length_le (by omega)] at eD
  have em : (ts.map fun t => V.str (Z (wrt false t))) = ((ts.map (wrt false)).map Z).map V.str := by rw [List.map_map, List.map_map]; rfl
  rw [em] at eD
  refine ⟨_, B, (ts.map (wrt false)).map Z, rfl, rfl, .inl (SqL.of eD), ?_, ?_⟩
  · have : sizeLine ≤ 16777216 := by decide
    have e : (Str.ofString ", ").length = 2 := rfl
    unfold rowN at hN
    rw [joined_sum, e, List.length_map, List.length_map]
    omega
  rw [show Str.ofString ", " = Z commaS from rfl, join_ZS]
  refine ⟨_, _, rfl, ?_⟩
  have s03 : Same H H3 := s1.trans s3
  have hp3 : Paired (fun v t => Fm K H3 t v) xs ts := paired_imp (fun _ _ h => (Same.kt s03).fm _ h) hp
  refine ⟨_, rfl, .ref a, rfl, .inl ⟨a, xs, ts, rfl, .inl (SqL.of (s03 _ _ ha)), hp3, h1, hok, h40, by omega, fun H4 s4 => ?_⟩⟩
  refine ⟨_, rfl, _, _, rfl, .inl ⟨rfl, rfl⟩, fun H5 s5 => ⟨_, rfl, iteF ?_⟩⟩
  have s05 := (s03.trans s4).trans s5
  refine ⟨_, rfl, a, xs, rfl, .inl ⟨SqL.of (s05 _ _ ha), fun l6 n6 => ?_⟩⟩
  have s6 := same_new n6 (.tup xs)
  have e6 : upd H5 l6 (.tup xs) l6 = some (.tup xs) := upd_same
  generalize upd H5 l6 (.tup xs) = H6 at *
  have s06 := s05.trans s6
  refine ⟨_, rfl, .inl ⟨l6, xs, ts, rfl, .inr (.inl (.inl e6)), paired_imp (fun _ _ h => (Same.kt s06).fm _ h) hp, h1, hok, h40, by omega, fun H7 s7 => ?_⟩⟩
  refine ⟨_, rfl, _, _, rfl, .inl ⟨rfl, rfl⟩, fun H8 s8 => ⟨_, rfl, iteF ?_⟩⟩
  have s08 := (s06.trans s7).trans s8
  have s18 := ((((s3.trans s4).trans s5).trans s6).trans s7).trans s8
  have dp8 : ∀ c, H8 c = some (.lst xs) → Dp K H8 (.ref c) (.list (ts.map FT.data)) := fun c e => .lst (SqL.of e) (dp_of_fm (paired_imp (fun _ _ h => (Same.kt s08).fm _ h) hp))
  obtain ⟨_, d2, d3, d4⟩ := ends_data (ts := ts) ⟨h1, hok, h40⟩ (.inl rfl)
  have sh := shaped_of d2 (Nat.le_trans d4 (by decide))
  refine ⟨_, rfl, _, rfl, _, _, dp8 a (s08 _ _ ha), dp8 k1 (s18 _ _ ek1), sh, sh, _, rfl, ?_⟩
  rw [SeqAt.eqv_refl _ (by unfold SeqAt.shaped at sh; rw [Bool.and_eq_true] at sh; exact sh.1)]
  refine iteF ?_
  refine ⟨_, rfl, a, xs, ts, rfl, SqL.of (s08 _ _ ha), paired_imp (fun _ _ h => (Same.kt s08).fm _ h) hp, h1, fun t ht => ⟨by have := dps t ht; omega, ?_, by have := wle t ht; omega⟩, by omega, fun H9 l9 s9 e9 => ?_⟩
  · have := toks_le t
    have := lvsL_mem ht
    omega
  have s09 := s08.trans s9
  have p9 := p.same s09
  have e1 : zsV (rowToks ts) = ((rowToks ts).map Z).map V.str := by unfold zsV; rw [List.map_map]; rfl
  have nl9 : l9 ≠ d := fun e => by
    obtain ⟨kvs, h⟩ := p9.isDk
    rw [← e, e9] at h
    cases h
  refine ⟨_, rfl, ⟨_, rfl⟩, _, rfl, Str.empty, l9, (rowToks ts).map Z, rfl, rfl, .inl (SqL.of (by rw [← e1]; exact e9)), ?_, ?_⟩
  · rw [sum_flat]
    show _ + ((rowToks ts).map Z).length * 0 ≤ 16777216
    omega
  rw [join_Z]
  refine ⟨_, rfl, _, rfl, d, L, l9, ns, n, rowToks ts, rfl, p9, by omega, e9, by omega, by omega, fun cs1 G g1 c1 kg pg => ?_⟩
  have kG : Keep d H G := (Same.toKeep s09).trans kg
  refine ⟨le1k, fun l0 G0 sg eg => ⟨l0, rfl, ⟨_, SqL.of eg⟩, ?_⟩⟩
  have pG0 := pg.same sg
  have ktG : KT H G0 := ((Same.kt s09).trans (kt_pen p9 kg)).trans (Same.kt sg)
  have aG : G0 a = some (.lst xs) := sg _ _ (kG _ _ nad ha)
  have hpG : Paired (fun v t => Fm K G0 t v) xs ts := paired_imp (fun _ _ h => ktG.fm _ h) hp
  refine for_it walk_list (fun i σ H' => ∃ o5 o6 o7, σ = [some (.ref d), some (.ref a), some (.ref k1), some (.str (Z (rowS ts))), some (.ref l9), o5, o6, o7] ∧ Same G0 H') ⟨none, none, none, rfl, Same.refl _⟩ (fun i σ H' _ ⟨_, _, _, _, k⟩ => SqL.of (k _ _ eg)) (fun i x σ G1 G2 hi pv y => ?_) (fun σ H' pv => ?_)
  · obtain ⟨rfl, hx⟩ := y
    obtain ⟨o5, o6, o7, rfl, sG1⟩ := pv
    obtain ⟨cs, rfl, hg, hc⟩ : ∃ cs, x = .str (Z cs) ∧ Gp (rowToks ts) cs ∧ cs.length ≤ 5000 := by
      have hm := List.mem_of_getElem? hx
      simp only [List.mem_cons, List.not_mem_nil, or_false] at hm
      rcases hm with rfl | rfl | rfl
      · refine ⟨rowS ts, rfl, ?_, by have := rowS_le ts; omega⟩
        cases ts with
        | nil => simp at h1
        | cons t ts => exact gp_rowS ts t
      · exact ⟨_, rfl, gp_flat _, by omega⟩
      · exact ⟨_, rfl, g1, by omega⟩
    have rw0 := rwx_of h1 oks hg
    refine ⟨_, rfl, _, rfl, .inl ⟨ts, cs, rfl, rw0, by omega, by omega, fun _ _ J b ys sJ eb nb hy => ?_, fun ⟨t, ht, c⟩ => absurd (dps t ht) (by omega), fun _ c => absurd h40 (by omega)⟩⟩
    have sGJ := sG1.trans sJ
    have tw : ∀ (J' : Hp) (b : Addr) (ys : List V), Same G0 J' → J' b = some (.lst ys) → Paired (fun v t => Fm K J' t v) ys ts → Tw K J' 16 (.ref b) (.ref a) := fun J' b ys s e hy => by
      have := paired_len hy
      exact .inr (.inr (.inr ⟨b, a, ys, xs, rfl, rfl, SqL.of e, SqL.of (s _ _ aG), by omega, paired_two dps hy (paired_imp (fun _ _ h => (Same.kt s).fm _ h) hpG)⟩))
    refine ⟨_, rfl, _, rfl, _, _, rfl, tw J b ys sGJ eb hy, fun J2 s2 => ⟨_, rfl, iteF ?_⟩⟩
    have hly := paired_len hy
    refine ⟨_, rfl, .inl ⟨rfl, _, SqL.of (s2 _ _ eb)⟩, le1k, fun t3 J3 s3 e3 => ⟨b, ys, .ref t3, rfl, rfl, s3 _ _ (s2 _ _ eb), by omega, ?_⟩⟩
    have s4 : Same G0 (upd J3 b (.lst (ys ++ [.ref t3]))) := same_at ((sGJ.trans s2).trans s3) (sG1.free nb)
    refine ⟨_, rfl, _, rfl, .inl ⟨ts, cs, rfl, rw0, by omega, by omega, fun _ _ J5 b5 ys5 s5 eb5 nb5 hy5 => ?_, fun ⟨t, ht, c⟩ => absurd (dps t ht) (by omega), fun _ c => absurd h40 (by omega)⟩⟩
    refine ⟨_, rfl, _, _, rfl, tw J5 b5 ys5 (s4.trans s5) eb5 hy5, fun J6 s6' => ⟨_, rfl, iteF ?_⟩⟩
    exact ⟨_, _, _, rfl, (s4.trans s5).trans s6'⟩
  · obtain ⟨o5, o6, o7, rfl, sG1⟩ := pv
    exact q H' (kG.trans (Same.toKeep (sg.trans sG1))) ((pG0.same sG1).mono (by omega))
end
end My

set_option Elab.async false
set_option linter.all false
set_option maxRecDepth 100000
namespace My
open PySem L2
abbrev s_law_refuses : Stmt := top 74
abbrev N_law_refuses : List Str := ["_law_pen", "_law_ends", "_law_odd", "_law_other"]
abbrev P_law_refuses : List Str := ["_law_pen", "_law_ends"]
theorem sc_law_refuses : FnScope N_law_refuses P_law_refuses (defScope s_law_refuses) := ⟨rfl, rfl, rfl, by decide +kernel, rfl, by decide +kernel, by decide +kernel⟩
abbrev lamQr : Str := "_law_refuses.<locals>.<lambda>"
/-- all but what stands at d, and tables, stays -/
def KeepX (d : Addr) (H H' : Hp) : Prop := ∀ b o, b ≠ d → (∀ ps, o ≠ .tbl ps) → H b = some o → H' b = some o
theorem KeepX.of_keep {d : Addr} {H H' : Hp} (k : Keep d H H') : KeepX d H H' := fun b o n _ h => k b o n h
theorem KeepX.of_ext {d : Addr} {H H' : Hp} (k : LamX.ExtN H H') : KeepX d H H' := fun b o _ t h => k b o h t
theorem KeepX.trans {d : Addr} {H H1 H2 : Hp} (a : KeepX d H H1) (b : KeepX d H1 H2) : KeepX d H H2 := fun c o n t h => b c o n t (a c o n t h)
theorem pen_x {K : PySem.W.Frag} {H H' : Hp} {d L : Addr} {ns : List Int} {n : Nat} (k : LamX.ExtN H H') (p : Pen K H d L ns n) : Pen K H' d L ns n := by
  obtain ⟨⟨b, l, h, h0, h1⟩, c, f⟩ := p
  exact ⟨⟨b, l, k _ _ h (fun _ z => nomatch z), h0, h1⟩, seqL_x k c, f⟩
theorem NoEnds.tw {K : PySem.W.Frag} {H : Hp} {v : V} (h : NoEnds K H v) : Tw K H 65 v v := by
  rcases h with ⟨D, h1, h2, h3, h4, _⟩ | ⟨a, kvs, e, h1, h2, h3⟩
  · exact tw_mono (by omega) (tw_dp D v v h3 h1 h1)
  · exact .inr (.inl ⟨a, kvs, e, e, h1, h2, h3⟩)
/-- what is no text -/
def NoTx (K : PySem.W.Frag) (H : Hp) (v : V) : Prop := (∃ D, Dp K H v D ∧ widD D = true ∧ D.depth ≤ 45 ∧ isStrD D = false) ∨ ∃ (a : Addr) (kvs : List (Key × V)), v = .ref a ∧ H a = some (.dK kvs) ∧ (kvs.map (·.1)).Nodup ∧ ∀ p ∈ kvs, flatB p.2 = true
theorem NoTx.x {K : PySem.W.Frag} {H H' : Hp} {v : V} (k : LamX.ExtN H H') (h : NoTx K H v) : NoTx K H' v := by
  rcases h with ⟨D, h1, h2⟩ | ⟨a, kvs, e, h1, h2⟩
  · exact .inl ⟨D, dp_x k _ _ h1, h2⟩
  · exact .inr ⟨a, kvs, e, k _ _ h1 (fun _ z => nomatch z), h2⟩
theorem NoTx.tw {K : PySem.W.Frag} {H : Hp} {v : V} (h : NoTx K H v) : Tw K H 65 v v := by
  rcases h with ⟨D, h1, h2, h3, _⟩ | ⟨a, kvs, e, h1, h2, h3⟩
  · exact tw_mono (by omega) (tw_dp D v v h2 h1 h1)
  · exact .inr (.inl ⟨a, kvs, e, e, h1, h2, h3⟩)
def spRefuses (K : PySem.W.Frag) (Tb : List (Addr × Str)) : Sp := fun vs H Q _ => ∃ (d L a : Addr) (ns : List Int) (n : Nat) (xs : List V) (ts : List FT), vs = [.ref d, .ref a] ∧ Pen K H d L ns n ∧ n < 2 ^ 37 ∧ H a = some (.lst xs) ∧ Paired (fun v t => Fm K H t v) xs ts ∧ Ends6 ts ∧ LamX.Tabs Tb H ∧ ∀ H', Q (.bl true) H'
section
variable {P : Program} {w : World} {K : PySem.W.Frag} {mg : Str → Option Value} {base : Heap} {f : Addr} {fd : FuncData}
theorem ok_law_refuses {c Pt : Addr} {Tb : List (Addr × Str)} {T : ErrT K mg} (TB : LamX.TabB base mg c Pt) (hin : (Pt, lamQr) ∈ Tb) (hone : ∀ p ∈ Tb, p.1 = Pt → p.2 = lamQr) (F : FunC K "_law_refuses" "_law_refuses" s_law_refuses f fd (.ref c))
    (C_law_no_ends : Cal P w K mg base "_law_no_ends" 18 P_law_no_ends (spNoEnds K)) (C_law_faults : Cal P w K mg base "_law_faults" 101 P_law_faults (spFaults P w K mg base T 33 66))
    (Cends_text : CalX P w K mg base "ends_text" 30 Pends_text (spEndsText K T.B)) (Cread_ends : CalX P w K mg base "read_ends" 8 Pread_ends (spReadEnds K T.B T.D T.M)) :
    FnOk P w K mg base CX0 105 f fd P_law_refuses (spRefuses K Tb) := by
  refine F.ok sc_law_refuses (fun vs H Q E h => ?_) (fun A outer s H vs Q E hr h => ?_)
  · obtain ⟨d, L, a, ns, n, xs, ts, rfl, _⟩ := h
    rfl
  obtain ⟨d, L, a, ns, n, xs, ts, rfl, hp, hn, ha, hf, he, tabs, q⟩ := h
  refine ⟨_, (pss_cons (ps_set (i := 2) sc_law_refuses.nd rfl (Or.inr rfl) (pe_callC C_law_no_ends hr (pa_cons (pv 0) (pa_cons (pv 1) pa_nil))))
  (pss_cons (ps_if (pt_not (pt_val (Clo.pe_callT C_law_faults.ok (hr.mono (by decide)) rfl C_law_faults.m C_law_faults.kp C_law_faults.b (fun _ => rfl) (pa_cons
        (Clo.pe_lam (k := 32) (t := fun E => tCallS (spEndsText K T.B) (WE fun cls d _ H => E cls d H) (tCons (tVar 2) tNil)) TB rfl hin hone (show LamX.LamS (defScope s_law_refuses) _ from LamX.lamS_by (by decide +kernel)) rfl (fun _ _ _ _ _ => rfl)
          (fun A outer s H E f c' hr' => pe_callS Cends_text.ok (hr'.mono (by decide)) rfl Cends_text.m Cends_text.kp Cends_text.b (fun σ => passAt (takes_of rfl rfl rfl rfl) σ) (pa_cons (pv 2) pa_nil)))
        (pa_cons (pe_tup (pa_cons pe_str (pa_cons (pv 2) pa_nil))) pa_nil)))))
    (pss_one (ps_ret pe_bl))
    pss_nil)
  (pss_cons (ps_for PassesOwn.never rfl (pi_list (pe_lstN (pa_cons pe_non (pa_cons pe_bl (pa_cons pe_int (pa_cons (pv 1) (pa_cons (pe_lstN (pa_cons (Told.pe_callV Cends_text hr (pa_cons (pv 1) pa_nil)) pa_nil)) (pa_cons pe_dnewK pa_nil)))))))) (pg_name (i := 3) sc_law_refuses.nd rfl (Or.inr rfl))
    (pss_one (ps_if (pt_not (pt_val (Clo.pe_callT C_law_faults.ok (hr.mono (by decide)) rfl C_law_faults.m C_law_faults.kp C_law_faults.b (fun _ => rfl) (pa_cons
        (Clo.pe_lam (k := 32) (t := fun E => tCallS (spReadEnds K T.B T.D T.M) (WE fun cls d _ H => E cls d H) (tCons (tVar 3) tNil)) TB rfl hin hone (show LamX.LamS (defScope s_law_refuses) _ from LamX.lamS_by (by decide +kernel)) rfl (fun _ _ _ _ _ => rfl)
          (fun A outer s H E f c' hr' => pe_callS Cread_ends.ok (hr'.mono (by decide)) rfl Cread_ends.m Cread_ends.kp Cread_ends.b (fun σ => passAt (takes_of rfl rfl rfl rfl) σ) (pa_cons (pv 3) pa_nil)))
        (pa_cons (pe_tup (pa_cons pe_str (pa_cons (pv 3) pa_nil))) pa_nil)))))
      (pss_one (ps_ret pe_bl))
      pss_nil)))
  (pss_one (ps_ret pe_bl))))), ?_⟩
  have hbig := big
  obtain ⟨h1, hok, h40⟩ := he
  have hlen := paired_len hf
  have hll := len_lvsL ts
  have oks : ∀ t ∈ ts, t.Ok := fun t ht => (hok t ht).2
  have hN := rowN_le ts oks
  obtain ⟨g1, g2, g3, g4⟩ := ends_data (ts := ts) ⟨h1, hok, h40⟩ (.inl rfl)
  have nad : a ≠ d := fun e => by
    obtain ⟨kvs, h⟩ := hp.isDk
    rw [← e, ha] at h
    cases h
  refine ⟨_, rfl, _, rfl, d, L, a, ns, n, xs, _, rfl, hp, hn, ha, dp_of_fm hf, g1, fun odd H8 k8 hbad => ?_⟩
  have a8 : H8 a = some (.lst xs) := k8 _ _ nad ha
  have f8 : Paired (fun v t => Fm K H8 t v) xs ts := paired_imp (fun _ _ h => (kt_pen hp k8).fm _ h) hf
  have tb8 := tabs_keep hp.isDk k8 tabs
  refine ⟨tb8, fun f1 fo1 c1 H9 x9 t9 n9 p9 q9 o9 a9 => ⟨_, rfl, by show 2 ≤ sizeLine; decide, fun tp ntp => ?_⟩⟩
  intro C KC hC
  have out_ : ∀ {b : Addr} {o : HO}, upd H9 tp (.tup [.str "value", odd]) b = some o → C b = none := fun {b o} e => Clo.out_of e hC
  have s9 : Same H9 (upd H9 tp (.tup [.str "value", odd])) := same_new ntp _
  have tp9 : upd H9 tp (.tup [.str "value", odd]) tp = some (.tup [.str "value", odd]) := upd_same
  generalize upd H9 tp (.tup [.str "value", odd]) = G0 at *
  have hD0 : NoEnds K G0 odd := (hbad.x x9).x (LamX.ExtN.of s9)
  refine ⟨.ref f1, .ref tp, rfl, f1, fo1, _, rfl, o9, by rw [Clo.plus_out (out_ (s9 _ _ p9))]; exact s9 _ _ p9, Clo.Act.mono (a9 C KC) (by decide), fun Q' E' i1 i2 => ⟨by rw [Clo.plus_out (out_ (s9 _ _ p9))]; exact s9 _ _ p9, by rw [Clo.plus_out (out_ (s9 _ _ q9))]; exact s9 _ _ q9, fun c o e => Clo.plus_in e, ?_⟩⟩
  rw [minus_plus hC]
  have fin : badE T.B "value" odd G0 (fun cls d H' => (∀ c o, C c = some o → H' c = none) → E' cls d (Clo.plus C H')) := fun d' H10 s10 nd' non => by
    refine i2 _ _ _ ⟨T.B, d', "value", "value", odd, rfl, rfl, .inl ⟨rfl, rfl, rfl⟩, ?_, fun pp npp => ?_⟩
    · rw [Clo.plus_out (Clo.out_of upd_same non)]
      exact upd_same
    · have sG : Same G0 (Clo.plus C (upd H10 d' (.xd [("value", odd)]))) := fun b o e => by
        have e1 := s10 _ _ e
        rw [Clo.plus_out (out_ e), upd_ne (ne_of_none e1 nd')]
        exact e1
      have s2 : Same G0 (upd (Clo.plus C (upd H10 d' (.xd [("value", odd)]))) pp (.tup [.str "value", odd])) := Same.trans sG (same_new npp _)
      have hD2 := hD0.x (LamX.ExtN.of s2)
      refine ⟨.inr (.inr (.inl ⟨pp, tp, [.str "value", odd], [.str "value", odd], rfl, rfl, SqT.of upd_same, SqT.of (s2 _ _ tp9), le1k, .cons (.inl ⟨rfl, rfl⟩) (.cons hD2.tw .nil)⟩)), fun H11 s11 => ⟨fun c o e => ?_, ?_⟩⟩
      · refine s11 _ _ ?_
        have e1 : Clo.plus C (upd H10 d' (.xd [("value", odd)])) c = some (Clo.Pin c o) := Clo.plus_in e
        rw [upd_ne (ne_of_none e1 npp)]
        exact e1
      · refine ⟨true, rfl, ?_⟩
        have sM : Same H9 (Clo.minus C H11) := fun b o e => by
          have e1 := s9 _ _ e
          rw [Clo.minus_out (out_ e1)]
          exact s11 _ _ (s2 _ _ e1)
        have tM := t9.ext sM
        have fM : Paired (fun v t => Fm K (Clo.minus C H11) t v) xs ts := paired_imp (fun _ _ h => (Same.kt sM).fm _ ((kt_x x9).fm _ h)) f8
        have aM : Clo.minus C H11 a = some (.lst xs) := sM _ _ (x9 _ _ a8 (fun _ z => nomatch z))
        clear i1 i2
        generalize Clo.minus C H11 = H20 at *
        have s3 : ∀ {G G' : Hp}, Same G G' → LamX.ExtN G G' := fun s => LamX.ExtN.of s
        refine iteF ⟨_, rfl, _, rfl, _, rfl, .inl ⟨a, xs, ts, rfl, .inl (SqL.of aM), fM, h1, hok, h40, by omega, fun H21 s21 => ⟨le1k, fun l1 H22 s22 e22 => fun p3 np3 => ⟨le1k, fun l4 H23 s23 e23 => ⟨l4, rfl, ⟨_, SqL.of e23⟩, ?_⟩⟩⟩⟩⟩
        have s22' : Same H22 H23 := fun b o e => s23 _ _ (by rw [upd_ne (ne_of_none e np3)]; exact e)
        have s223 := (s21.trans s22).trans s22'
        have f23 : Paired (fun v t => Fm K H23 t v) xs ts := paired_imp (fun _ _ h => (Same.kt s223).fm _ h) fM
        have a23 := s223 _ _ aM
        have tb23 := tM.ext ((s21.trans s22).trans s22')
        have all : ∀ y ∈ [V.non, .bl true, .int 0, .ref a, .ref l1, .ref p3], NoTx K H23 y := by
          intro y hy
          simp only [List.mem_cons, List.not_mem_nil, or_false] at hy
          rcases hy with rfl | rfl | rfl | rfl | rfl | rfl
          · exact .inl ⟨_, .non, rfl, by decide, rfl⟩
          · exact .inl ⟨_, .bl true, rfl, by decide, rfl⟩
          · exact .inl ⟨_, .int 0, rfl, by decide, rfl⟩
          · exact .inl ⟨.list (ts.map FT.data), .lst (SqL.of a23) (dp_of_fm f23), g3, by omega, rfl⟩
          · exact .inl ⟨.list [.str (Z (rowS ts))], .lst (SqL.of (s22' _ _ e22)) (.cons (.str _) .nil), rfl, by simp [PyData.depth, PyData.depthAll], rfl⟩
          · exact .inr ⟨p3, [], rfl, s23 _ _ upd_same, by simp, fun _ h => by cases h⟩
        refine for_it walk_list (fun i σ H' => (∃ o3, σ = [some (.ref d), some (.ref a), some odd, o3]) ∧ LamX.ExtN H23 H' ∧ LamX.Tabs Tb H') ⟨⟨none, rfl⟩, LamX.ExtN.refl _, tb23⟩
          (fun i σ H' _ pv => SqL.of (pv.2.1 _ _ e23 (fun _ z => nomatch z))) (fun i y σ HX H5 hi pv yy => ?_) (fun σ H' pv => q H')
        obtain ⟨rfl, hx5⟩ := yy
        obtain ⟨⟨o3, rfl⟩, kx, tb5⟩ := pv
        have ny : NoTx K H5 y := (all y (List.mem_of_getElem? hx5)).x kx
        refine ⟨tb5, fun f2 fo2 c2 H6 x6 t6 n6 p6 q6 o6 a6 => ⟨_, rfl, by show 2 ≤ sizeLine; decide, fun tq ntq => ?_⟩⟩
        have nyG := (ny.x x6).x (s3 (same_new ntq (.tup [.str "value", y])))
        intro C2 KC2 hC2
        have out2 : ∀ {b : Addr} {o : HO}, upd H6 tq (.tup [.str "value", y]) b = some o → C2 b = none := fun {b o} e => Clo.out_of e hC2
        have s9 : Same H6 (upd H6 tq (.tup [.str "value", y])) := same_new ntq _
        have tq9 : upd H6 tq (.tup [.str "value", y]) tq = some (.tup [.str "value", y]) := upd_same
        generalize upd H6 tq (.tup [.str "value", y]) = G1 at *
        refine ⟨.ref f2, .ref tq, rfl, f2, fo2, _, rfl, o6, by rw [Clo.plus_out (out2 (s9 _ _ p6))]; exact s9 _ _ p6, Clo.Act.mono (a6 C2 KC2) (by decide), fun Q2 E2 j1 j2 => ⟨by rw [Clo.plus_out (out2 (s9 _ _ p6))]; exact s9 _ _ p6, by rw [Clo.plus_out (out2 (s9 _ _ q6))]; exact s9 _ _ q6, fun c o e => Clo.plus_in e, ?_⟩⟩
        rw [minus_plus hC2]
        have fin2 : badE T.B "value" y G1 (fun cls d H' => (∀ c o, C2 c = some o → H' c = none) → E2 cls d (Clo.plus C2 H')) := fun d' H10 s10 nd' non => by
          refine j2 _ _ _ ⟨T.B, d', "value", "value", y, rfl, rfl, .inl ⟨rfl, rfl, rfl⟩, ?_, fun pp npp => ?_⟩
          · rw [Clo.plus_out (Clo.out_of upd_same non)]
            exact upd_same
          · have sG : Same G1 (Clo.plus C2 (upd H10 d' (.xd [("value", y)]))) := fun b o e => by
              have e1 := s10 _ _ e
              rw [Clo.plus_out (out2 e), upd_ne (ne_of_none e1 nd')]
              exact e1
            have s2 : Same G1 (upd (Clo.plus C2 (upd H10 d' (.xd [("value", y)]))) pp (.tup [.str "value", y])) := Same.trans sG (same_new npp _)
            refine ⟨.inr (.inr (.inl ⟨pp, tq, [.str "value", y], [.str "value", y], rfl, rfl, SqT.of upd_same, SqT.of (s2 _ _ tq9), le1k, .cons (.inl ⟨rfl, rfl⟩) (.cons (nyG.x (s3 s2)).tw .nil)⟩)), fun H11 s11 => ⟨fun c o e => ?_, ?_⟩⟩
            · refine s11 _ _ ?_
              have e1 : Clo.plus C2 (upd H10 d' (.xd [("value", y)])) c = some (Clo.Pin c o) := Clo.plus_in e
              rw [upd_ne (ne_of_none e1 npp)]
              exact e1
            · refine ⟨true, rfl, ?_⟩
              have sM : Same H6 (Clo.minus C2 H11) := fun b o e => by
                have e1 := s9 _ _ e
                rw [Clo.minus_out (out2 e1)]
                exact s11 _ _ (s2 _ _ e1)
              exact ⟨⟨_, rfl⟩, (kx.trans x6).trans (s3 sM), t6.ext sM⟩
        refine ⟨_, rfl, _, rfl, ?_⟩
        rcases nyG with ⟨D2, h1, h2, h3, h4⟩ | ⟨b, kvs, e, h1, h2⟩
        · exact .inr (.inl ⟨D2, h1, h4, fin2⟩)
        · exact .inr (.inr ⟨⟨b, kvs, e, h1⟩, fin2⟩)
  refine ⟨_, rfl, _, rfl, .inr ?_⟩
  rcases hD0 with ⟨D, w1, w2, w3, w4, w5⟩ | ⟨a0, kvs, e0, w1, w2, w3⟩
  · exact .inl ⟨D, w1, w2, w3, w5, fin⟩
  · exact .inr ⟨⟨a0, kvs, e0, w1⟩, fin⟩
end
end My

set_option Elab.async false
set_option linter.all false
set_option maxRecDepth 100000
namespace My
open PySem L2
abbrev s_law_beyond : Stmt := top 73
abbrev N_law_beyond : List Str := ["_law_pen", "_law_ends", "_law_at", "_law_more", "_law_deep", "_law_some", "_law_due", "_law_text"]
abbrev P_law_beyond : List Str := ["_law_pen", "_law_ends"]
theorem sc_law_beyond : FnScope N_law_beyond P_law_beyond (defScope s_law_beyond) := ⟨rfl, rfl, rfl, by decide +kernel, rfl, by decide +kernel, by decide +kernel⟩
abbrev lamQb : Str := "_law_beyond.<locals>.<lambda>"
/-- a row in the heap -/
def RowL (K : PySem.W.Frag) (H : Hp) (l : Addr) (ts : List FT) : Prop := ∃ ys, H l = some (.lst ys) ∧ Paired (fun v t => Fm K H t v) ys ts
def Good (ts : List FT) : Prop := 1 ≤ ts.length ∧ (∀ t ∈ ts, t.Ok ∧ t.dep < 20) ∧ lvsL ts ≤ 200
theorem RowL.same {K : PySem.W.Frag} {H H' : Hp} {l : Addr} {ts : List FT} (h : RowL K H l ts) (s : Same H H') : RowL K H' l ts := by
  obtain ⟨ys, e, p⟩ := h
  exact ⟨ys, s _ _ e, paired_imp (fun _ _ h => (Same.kt s).fm _ h) p⟩
theorem RowL.pen {K : PySem.W.Frag} {H H' : Hp} {l : Addr} {ts : List FT} {d L : Addr} {ns : List Int} {n : Nat} (h : RowL K H l ts) (p : Pen K H d L ns n) (k : Keep d H H') : RowL K H' l ts := by
  obtain ⟨ys, e, q⟩ := h
  refine ⟨ys, k _ _ (fun z => ?_) e, paired_imp (fun _ _ h => (kt_pen p k).fm _ h) q⟩
  obtain ⟨kvs, h⟩ := p.isDk
  rw [← z, e] at h
  cases h
theorem RowL.ext {K : PySem.W.Frag} {H H' : Hp} {l : Addr} {ts : List FT} (h : RowL K H l ts) (k : LamX.ExtN H H') : RowL K H' l ts := by
  obtain ⟨ys, e, q⟩ := h
  exact ⟨ys, k _ _ e (fun _ z => nomatch z), paired_imp (fun _ _ h => (kt_x k).fm _ h) q⟩
theorem lvsL_app (a b : List FT) : lvsL (a ++ b) = lvsL a + lvsL b := by
  unfold lvsL
  rw [List.map_append, List.sum_append]
theorem lvsL_rep (t : FT) (h : t.lvs = 1) : ∀ m, lvsL (List.replicate m t) = m
  | 0 => rfl
  | m + 1 => by
    have := lvsL_rep t h m
    unfold lvsL at this ⊢
    rw [List.replicate_succ, List.map_cons, List.sum_cons, this, h]
    omega
theorem paired_drop {α β : Type} {r : α → β → Prop} : ∀ {xs : List α} {ys : List β} (n : Nat), Paired r xs ys → Paired r (xs.drop n) (ys.drop n)
  | _, _, 0, h => h
  | _, _, _ + 1, .nil => .nil
  | _, _, n + 1, .cons _ h => paired_drop n h
theorem paired_tk {α β : Type} {r : α → β → Prop} : ∀ {xs : List α} {ys : List β} (n : Nat), Paired r xs ys → Paired r (xs.take n) (ys.take n)
  | _, _, 0, _ => .nil
  | _, _, _ + 1, .nil => .nil
  | _, _, n + 1, .cons h1 h => .cons h1 (paired_tk n h)
theorem paired_cut {r : V → FT → Prop} {xs : List V} {ts : List FT} (lo hi : Option Int) (h : Paired r xs ts) : ∃ ts', Paired r (cutV xs lo hi) ts' ∧ (∀ t ∈ ts', t ∈ ts) ∧ lvsL ts' ≤ lvsL ts := by
  refine ⟨_, paired_tk _ (paired_drop _ h), fun t m => List.mem_of_mem_drop (List.mem_of_mem_take m), ?_⟩
  have e1 : ∀ (n : Nat) (l : List FT), lvsL (l.take n) ≤ lvsL l := fun n l => by
    have : lvsL l = lvsL (l.take n) + lvsL (l.drop n) := by rw [← lvsL_app, List.take_append_drop]
    omega
  have e2 : ∀ (n : Nat) (l : List FT), lvsL (l.drop n) ≤ lvsL l := fun n l => by
    have : lvsL l = lvsL (l.take n) + lvsL (l.drop n) := by rw [← lvsL_app, List.take_append_drop]
    omega
  exact Nat.le_trans (e1 _ _) (e2 _ _)
theorem paired_rep {r : V → FT → Prop} {v : V} {t : FT} (h : r v t) : ∀ m, Paired r (List.replicate m v) (List.replicate m t)
  | 0 => .nil
  | m + 1 => .cons h (paired_rep h m)
def ftC : FT := .leaf false [99]
def spBeyond (K : PySem.W.Frag) (Tb : List (Addr × Str)) : Sp := fun vs H Q _ => ∃ (d L a : Addr) (ns : List Int) (n : Nat) (xs : List V) (ts : List FT), vs = [.ref d, .ref a] ∧ Pen K H d L ns n ∧ n < 2 ^ 36 + 5000 ∧ H a = some (.lst xs) ∧ Paired (fun v t => Fm K H t v) xs ts ∧ Ends6 ts ∧ LamX.Tabs Tb H ∧
  ∀ H', KeepX d H H' → Pen K H' d L ns (n + 6000) → LamX.Tabs Tb H' → Q (.bl true) H'
section
variable {P : Program} {w : World} {K : PySem.W.Frag} {mg : Str → Option Value} {base : Heap} {f : Addr} {fd : FuncData}
theorem ok_law_beyond {c Pt : Addr} {Tb : List (Addr × Str)} {T : ErrT K mg} (TT : Txt K mg) (TB : LamX.TabB base mg c Pt) (hin : (Pt, lamQb) ∈ Tb) (hone : ∀ p ∈ Tb, p.1 = Pt → p.2 = lamQb) (F : FunC K "_law_beyond" "_law_beyond" s_law_beyond f fd (.ref c))
    (C_law_draw : Cal P w K mg base "_law_draw" 1 ["_law_pen", "_law_span"] (spDraw K)) (C_law_leaf_many : Cal P w K mg base "_law_leaf_many" 14 P_law_leaf_many (spLeafMany K)) (C_law_deeper : Cal P w K mg base "_law_deeper" 14 P_law_deeper (spDeeper K)) (C_law_ends_tokens : Cal P w K mg base "_law_ends_tokens" 22 P_law_ends_tokens (spEndsTokens K)) (C_law_spaced : Cal P w K mg base "_law_spaced" 3 P_law_spaced (spSpaced K))
    (C_law_read_due : Cal P w K mg base "_law_read_due" 15 P_law_read_due (spReadDue K)) (C_law_same : Cal P w K mg base "_law_same" 17 P_law_same (spSame K 16)) (C_law_faults : Cal P w K mg base "_law_faults" 101 P_law_faults (spFaults P w K mg base T 33 66)) (Cread_ends : CalX P w K mg base "read_ends" 8 Pread_ends (spReadEnds K T.B T.D T.M)) :
    FnOk P w K mg base CX0 105 f fd P_law_beyond (spBeyond K Tb) := by
  refine F.ok sc_law_beyond (fun vs H Q E h => ?_) (fun A outer s H vs Q E hr h => ?_)
  · obtain ⟨d, L, a, ns, n, xs, ts, rfl, _⟩ := h
    rfl
  obtain ⟨d, L, a, ns, n, xs, ts, rfl, hp, hn, ha, hf, he, tabs, q⟩ := h
  refine ⟨_, (pss_cons (ps_par (i := 2) (j := 3) (by rfl) sc_law_beyond.nd rfl rfl (by decide) rfl rfl (pa_cons (pe_callC C_law_draw hr (pa_cons (pv 0) (pa_cons (pe_op op_add (pe_callB call_len rfl TT.len (by decide +kernel) (pa_cons (pv 1) pa_nil)) pe_int) pa_nil))) (pa_cons (pe_op op_sub pe_int (pe_callC C_law_leaf_many hr (pa_cons (pv 1) pa_nil))) pa_nil)) (by rfl))
  (pss_cons (ps_set (i := 4) sc_law_beyond.nd rfl (Or.inl rfl) (pe_callC C_law_deeper hr (pa_cons (pe_ix ix_list (pv 1) pe_int (fun _ _ => rfl)) (pa_cons (pe_op op_add pe_int (pe_callC C_law_draw hr (pa_cons (pv 0) (pa_cons pe_int pa_nil)))) pa_nil))))
  (pss_cons (ps_for PassesOwn.never rfl (pi_list (pe_lstN (pa_cons (pe_op op_catLN (pv 1) (pe_op op_rep (pe_lstN (pa_cons (pe_tupN (pa_cons pe_str (pa_cons pe_str pa_nil))) pa_nil)) (pv 3))) (pa_cons (pe_op op_catLN (pv 1) (pe_op op_rep (pe_lstN (pa_cons (pe_tupN (pa_cons pe_str (pa_cons pe_str pa_nil))) pa_nil)) (pe_op op_add (pv 3) pe_int))) (pa_cons (pe_op op_catLN (pe_op op_catLN (pe_slice sl_list (pv 1) po_none (po_some (pv 2))) (pe_op op_rep (pe_lstN (pa_cons (pe_tupN (pa_cons pe_str (pa_cons pe_str pa_nil))) pa_nil)) (pe_op op_add (pe_op op_add (pv 3) pe_int) (pe_callC C_law_draw hr (pa_cons (pv 0) (pa_cons pe_int pa_nil)))))) (pe_slice sl_list (pv 1) (po_some (pv 2)) po_none)) (pa_cons (pe_op op_catLN (pe_op op_catLN (pe_slice sl_list (pv 1) po_none (po_some (pv 2))) (pe_lstN (pa_cons (pv 4) pa_nil))) (pe_slice sl_list (pv 1) (po_some (pv 2)) po_none)) (pa_cons (pe_op op_catLN (pe_op op_catLN (pe_op op_catLN (pe_slice sl_list (pv 1) po_none (po_some (pv 2))) (pe_lstN (pa_cons (pv 4) pa_nil))) (pe_slice sl_list (pv 1) (po_some (pv 2)) po_none)) (pe_op op_rep (pe_lstN (pa_cons (pe_tupN (pa_cons pe_str (pa_cons pe_str pa_nil))) pa_nil)) (pv 3))) pa_nil))))))) (pg_name (i := 5) sc_law_beyond.nd rfl (Or.inl rfl))
    (pss_cons (ps_set (i := 7) sc_law_beyond.nd rfl (Or.inr rfl) (pe_callC C_law_spaced hr (pa_cons (pv 0) (pa_cons (pe_callC C_law_ends_tokens hr (pa_cons (pv 5) pa_nil)) pa_nil))))
    (pss_cons (ps_set (i := 6) sc_law_beyond.nd rfl (Or.inl rfl) (pe_callC C_law_read_due hr (pa_cons (pv 7) (pa_cons pe_bl pa_nil))))
    (pss_one (ps_if (pt_cmpR op_eq (pe_ix ix_tup (pv 6) pe_int (fun _ _ => rfl)) pe_str (nomark _))
      (pss_one (ps_if (pt_not (pt_val (pe_callC C_law_same hr (pa_cons (Told.pe_callV Cread_ends hr (pa_cons (pv 7) pa_nil)) (pa_cons (pv 5) pa_nil)))))
        (pss_one (ps_ret pe_bl))
        pss_nil))
      (pss_one (ps_if (pt_not (pt_val (Clo.pe_callT C_law_faults.ok (hr.mono (by decide)) rfl C_law_faults.m C_law_faults.kp C_law_faults.b (fun _ => rfl) (pa_cons
        (Clo.pe_lam (k := 32) (t := fun E => tCallS (spReadEnds K T.B T.D T.M) (WE fun cls d _ H => E cls d H) (tCons (tVar 7) tNil)) TB rfl hin hone (show LamX.LamS (defScope s_law_beyond) _ from LamX.lamS_by (by decide +kernel)) rfl (fun _ _ _ _ _ => rfl)
          (fun A outer s H E f c' hr' => pe_callS Cread_ends.ok (hr'.mono (by decide)) rfl Cread_ends.m Cread_ends.kp Cread_ends.b (fun σ => passAt (takes_of rfl rfl rfl rfl) σ) (pa_cons (pv 7) pa_nil)))
        (pa_cons (pv 6) pa_nil)))))
        (pss_one (ps_ret pe_bl))
        pss_nil)))))))
  (pss_one (ps_ret pe_bl))))), ?_⟩
  have hbig := big
  obtain ⟨h1, hok, h40⟩ := he
  have hlen := paired_len hf
  have hll := len_lvsL ts
  have oks : ∀ t ∈ ts, t.Ok := fun t ht => (hok t ht).2
  have dps : ∀ t ∈ ts, t.dep ≤ 12 := fun t ht => (hok t ht).1
  have nad : a ≠ d := fun e => by
    obtain ⟨kvs, h⟩ := hp.isDk
    rw [← e, ha] at h
    cases h
  have hforms : (ts.map FT.data).all (isForm 12) = true := by
    rw [List.all_eq_true]
    intro D hD
    obtain ⟨t, ht, rfl⟩ := List.mem_map.mp hD
    exact ft_isForm t (oks t ht) (dps t ht)
  obtain ⟨x0, t0, ex0, et0, hx0⟩ : ∃ x0 t0, xs[0]? = some x0 ∧ ts[0]? = some t0 ∧ Fm K H t0 x0 := by
    have hx : 0 < xs.length := by omega
    obtain ⟨y, hy, hr⟩ := paired_take hf (List.getElem?_eq_getElem hx)
    exact ⟨_, _, List.getElem?_eq_getElem hx, hy, hr⟩
  have t0m : t0 ∈ ts := List.mem_of_getElem? et0
  refine ⟨_, rfl, _, rfl, _, _, rfl, .inl ⟨xs, SqL.of ha, rfl⟩, _, _, rfl, rfl, d, L, ns, n, _, rfl, hp, by omega, by omega, by omega, fun at_ H1 a0 a1 k1 p1 => ?_⟩
  have f1 : Paired (fun v t => Fm K H1 t v) xs ts := paired_imp (fun _ _ h => (kt_pen hp k1).fm _ h) hf
  refine ⟨_, rfl, a, xs, ts.map FT.data, rfl, SqL.of (k1 _ _ nad ha), dp_of_fm f1, hforms, by rw [List.length_map]; omega, by rw [lvs_data]; omega, fun H2 s2 => ⟨_, _, rfl, rfl, _, _, rfl, ?_⟩⟩
  rw [lvs_data]
  have a2 := s2 _ _ (k1 _ _ nad ha)
  have p2 := p1.same s2
  refine ⟨_, rfl, a, xs, 0, x0, rfl, rfl, SqL.of a2, atI_nat (j := 0) ex0, _, rfl, d, L, ns, n + 1, 3, rfl, p2, by omega, by decide, by decide, fun r2 H3 r20 r21 k3 p3 => ?_⟩
  obtain ⟨k, rfl⟩ : ∃ k : Nat, r2 = k := ⟨r2.toNat, by omega⟩
  have k03 : Keep d H H3 := (k1.trans (Same.toKeep s2)).trans k3
  have kt3 : KT H H3 := kt_pen hp k03
  refine ⟨_, _, rfl, rfl, x0, t0.data, 12 + k, ?_, by omega, by omega, FT.of_fm t0 (kt3.fm _ hx0), ft_isForm t0 (oks t0 t0m) (dps t0 t0m), fun v5 D5 H5 h5 d5 lv5 s5 => ?_⟩
  · show [x0, V.int (12 + (k : Int))] = _
    rw [show (12 : Int) + (k : Int) = ((12 + k : Nat) : Int) by omega]
  obtain ⟨t5, rfl, ok5, dep5⟩ : ∃ t5 : FT, D5 = t5.data ∧ t5.Ok ∧ t5.dep ≤ 12 + k := by
    rcases d5 with d5 | ⟨e, d5⟩
    · exact ft_of d5.1
    · obtain ⟨t5, e1, e2, e3⟩ := ft_of d5
      exact ⟨t5, e1, e2, by omega⟩
  rw [lvs_one, lvs_one] at lv5
  have lt0 := lvsL_mem t0m
  have f5 : Fm K H5 t5 v5 := fm_of_dp t5 h5
  have k05 : Keep d H H5 := k03.trans (Same.toKeep s5)
  have a5 : H5 a = some (.lst xs) := k05 _ _ nad ha
  have hf5 : Paired (fun v t => Fm K H5 t v) xs ts := paired_imp (fun _ _ h => (kt_pen hp k05).fm _ h) hf
  have p5 := p3.same s5
  have goodts : ∀ t ∈ ts, t.Ok ∧ t.dep < 20 := fun t ht => ⟨oks t ht, by have := dps t ht; omega⟩
  obtain ⟨M, hM⟩ : ∃ M : Nat, M = 40 - lvsL ts := ⟨_, rfl⟩
  have eM : (40 : Int) - ((lvsL ts : Nat) : Int) = (M : Int) := by omega
  rw [show (fun i j : Int => V.int (i - j)) (40 : Int) ((lvsL ts : Nat) : Int) = V.int ((M : Nat) : Int) from congrArg V.int eM]
  have lone : ∀ t : FT, t.lvs = 1 → ∀ m, lvsL (List.replicate m t) = m := fun t h => lvsL_rep t h
  have gA : ftA.Ok ∧ ftA.dep < 20 := ⟨(by decide +kernel : isName (Z [97]) = true), by decide⟩
  have gB : ftB.Ok ∧ ftB.dep < 20 := ⟨(by decide +kernel : isName (Z [98]) = true), by decide⟩
  have gC : ftC.Ok ∧ ftC.dep < 20 := ⟨(by decide +kernel : isName (Z [99]) = true), by decide⟩
  have good2 : ∀ (u1 u2 : List FT), (∀ t ∈ u1, t.Ok ∧ t.dep < 20) → (∀ t ∈ u2, t.Ok ∧ t.dep < 20) → ∀ t ∈ u1 ++ u2, t.Ok ∧ t.dep < 20 := fun u1 u2 g1 g2 t m => (List.mem_append.mp m).elim (g1 t) (g2 t)
  have goodr : ∀ (t : FT) (m : Nat), t.Ok ∧ t.dep < 20 → ∀ u ∈ List.replicate m t, u.Ok ∧ u.dep < 20 := fun t m g u hu => by
    rw [List.eq_of_mem_replicate hu]
    exact g
  have bigL : ∀ m : Nat, m ≤ 100 → m ≤ sizeLine := fun m h => by omega
  -- the first row
  refine ⟨_, rfl, le1k, fun t6 H6 s6 e6 => ⟨le1k, fun l7 H7 s7 e7 => ⟨_, rfl, l7, _, _, rfl, rfl, e7, by omega, by omega, ?_, fun p8 n8 => ?_⟩⟩⟩
  · show 1 * ((M : Nat) : Int).toNat ≤ sizeLine
    omega
  rw [rep_flat]
  have s8 := same_new n8 (.lst (List.replicate ((M : Nat) : Int).toNat (V.ref t6)))
  have s58 := (s6.trans s7).trans s8
  refine ⟨a, p8, xs, _, rfl, rfl, s58 _ _ a5, upd_same, by rw [List.length_replicate]; omega, fun l9 H9 s9 e9 => ?_⟩
  have s59 := s58.trans s9
  have r1 : RowL K H9 l9 (ts ++ List.replicate M ftA) := ⟨_, e9, paired_app (paired_imp (fun _ _ h => (Same.kt s59).fm _ h) hf5) (paired_rep (v := .ref t6) ⟨t6, rfl, (Same.kt ((s7.trans s8).trans s9)).seq e6⟩ _)⟩
  have q1 : Good (ts ++ List.replicate M ftA) := ⟨by rw [List.length_append]; omega, good2 _ _ goodts (goodr _ _ gA), by rw [lvsL_app, lone ftA rfl]; omega⟩
  -- the second
  refine ⟨_, rfl, le1k, fun t6 H10 s10 e10 => ⟨le1k, fun l11 H11 s11 e11 => ⟨_, rfl, _, _, rfl, rfl, l11, _, _, rfl, rfl, e11, by omega, by omega, ?_, fun p12 n12 => ?_⟩⟩⟩
  · show 1 * (((M : Nat) : Int) + 1).toNat ≤ sizeLine
    omega
  rw [rep_flat]
  have s12 := same_new n12 (.lst (List.replicate (((M : Nat) : Int) + 1).toNat (V.ref t6)))
  have s912 := (s10.trans s11).trans s12
  refine ⟨a, p12, xs, _, rfl, rfl, s912 _ _ (s59 _ _ a5), upd_same, by rw [List.length_replicate]; omega, fun l13 H13 s13 e13 => ?_⟩
  have s913 := s912.trans s13
  have s513 := s59.trans s913
  have r2 : RowL K H13 l13 (ts ++ List.replicate (((M : Nat) : Int) + 1).toNat ftA) := ⟨_, e13, paired_app (paired_imp (fun _ _ h => (Same.kt s513).fm _ h) hf5) (paired_rep (v := .ref t6) ⟨t6, rfl, (Same.kt ((s11.trans s12).trans s13)).seq e10⟩ _)⟩
  have q2 : Good (ts ++ List.replicate (((M : Nat) : Int) + 1).toNat ftA) := ⟨by rw [List.length_append]; omega, good2 _ _ goodts (goodr _ _ gA), by rw [lvsL_app, lone ftA rfl]; omega⟩
  replace r1 := r1.same s913
  have k13 : Keep d H H13 := k05.trans (Same.toKeep s513)
  have a13 : H13 a = some (.lst xs) := s513 _ _ a5
  have p13 : Pen K H13 d L ns (n + 2) := p5.same s513
  -- the third
  refine ⟨_, rfl, _, rfl, _, rfl, a, xs, rfl, SqL.of a13, fun b14 n14 => ?_⟩
  have s14 := same_new n14 (.lst (cutV xs none (some at_)))
  have e14 : upd H13 b14 (.lst (cutV xs none (some at_))) b14 = some (.lst (cutV xs none (some at_))) := upd_same
  generalize upd H13 b14 (.lst (cutV xs none (some at_))) = H14 at *
  refine ⟨le1k, fun t6 H15 s15 e15 => ⟨le1k, fun l16 H16 s16 e16 => ?_⟩⟩
  have s1416 := s14.trans (s15.trans s16)
  have p16 := p13.same s1416
  refine ⟨_, rfl, _, _, rfl, rfl, _, rfl, d, L, ns, n + 2, 20, rfl, p16, by omega, by decide, by decide, fun r17 H17 r170 r171 k17 p17 => ⟨_, _, rfl, rfl, ?_⟩⟩
  obtain ⟨j, rfl⟩ : ∃ j : Nat, r17 = j := ⟨r17.toNat, by omega⟩
  have ne16 : l16 ≠ d := fun z => by
    obtain ⟨kvs, h⟩ := p16.isDk
    rw [← z, e16] at h
    cases h
  have k1317 : Keep d H13 H17 := (Same.toKeep s1416).trans k17
  have k017 := k13.trans k1317
  have kt17 : KT H15 H17 := (Same.kt s16).trans (kt_pen p16 k17)
  have c17 : ∃ us, H17 b14 = some (.lst (cutV xs none (some at_))) ∧ Paired (fun v t => Fm K H17 t v) (cutV xs none (some at_)) us ∧ (∀ t ∈ us, t ∈ ts) ∧ lvsL us ≤ lvsL ts := by
    obtain ⟨us, u1, u2, u3⟩ := paired_cut none (some at_) (paired_imp (s := fun v t => Fm K H17 t v) (fun _ _ h => (kt_pen hp k017).fm _ h) hf)
    refine ⟨us, k17 _ _ (fun z => ?_) (s16 _ _ (s15 _ _ e14)), u1, u2, u3⟩
    obtain ⟨kvs, h⟩ := p16.isDk
    rw [← z, s16 _ _ (s15 _ _ e14)] at h
    cases h
  obtain ⟨us, e17, hus, usm, usl⟩ := c17
  have lus := paired_len hus
  have llus := len_lvsL us
  refine ⟨l16, _, _, rfl, rfl, k17 _ _ ne16 e16, by omega, by omega, ?_, fun p18 n18 => ?_⟩
  · show 1 * (((M : Nat) : Int) + 1 + (j : Int)).toNat ≤ sizeLine
    omega
  rw [rep_flat]
  have s18 := same_new n18 (.lst (List.replicate (((M : Nat) : Int) + 1 + (j : Int)).toNat (V.ref t6)))
  refine ⟨b14, p18, _, _, rfl, rfl, s18 _ _ e17, upd_same, by rw [List.length_replicate]; omega, fun l19 H19 s19 e19 => ?_⟩
  have k1719 := s18.trans s19
  have k1319 : Keep d H13 H19 := k1317.trans (Same.toKeep k1719)
  have a19 : H19 a = some (.lst xs) := k1319 _ _ nad a13
  refine ⟨_, rfl, _, rfl, _, rfl, a, xs, rfl, SqL.of a19, fun b20 n20 => ?_⟩
  have s20 := same_new n20 (.lst (cutV xs (some at_) none))
  have e20 : upd H19 b20 (.lst (cutV xs (some at_) none)) b20 = some (.lst (cutV xs (some at_) none)) := upd_same
  generalize upd H19 b20 (.lst (cutV xs (some at_) none)) = H20 at *
  have k020 : Keep d H H20 := (k13.trans k1319).trans (Same.toKeep s20)
  have f20 : Paired (fun v t => Fm K H20 t v) xs ts := paired_imp (fun _ _ h => (kt_pen hp k020).fm _ h) hf
  obtain ⟨ws, hws, wsm, wsl⟩ := paired_cut (some at_) none f20
  have lws := paired_len hws
  have llws := len_lvsL ws
  have cl1 := cutV_length xs none (some at_)
  have cl2 := cutV_length xs (some at_) none
  refine ⟨l19, b20, _, _, rfl, rfl, s20 _ _ e19, e20, by rw [List.length_append, List.length_replicate]; omega, fun l21 H21 s21 e21 => ?_⟩
  have k1720 := (k1719.trans s20).trans s21
  have k1321 : Keep d H13 H21 := k1317.trans (Same.toKeep k1720)
  have k021 : Keep d H H21 := k13.trans k1321
  have r3 : RowL K H21 l21 (us ++ List.replicate (((M : Nat) : Int) + 1 + (j : Int)).toNat ftB ++ ws) := ⟨_, e21, paired_app (paired_app (paired_imp (fun _ _ h => (Same.kt k1720).fm _ h) hus) (paired_rep (v := .ref t6) ⟨t6, rfl, (Same.kt k1720).seq (kt17.seq e15)⟩ _)) (paired_imp (fun _ _ h => (Same.kt s21).fm _ h) hws)⟩
  have q3 : Good (us ++ List.replicate (((M : Nat) : Int) + 1 + (j : Int)).toNat ftB ++ ws) := ⟨by simp only [List.length_append, List.length_replicate]; omega, good2 _ _ (good2 _ _ (fun t m => goodts t (usm t m)) (goodr _ _ gB)) (fun t m => goodts t (wsm t m)), by rw [lvsL_app, lvsL_app, lone ftB rfl]; omega⟩
  replace r1 := r1.pen p13 k1321
  replace r2 := r2.pen p13 k1321
  have a21 : H21 a = some (.lst xs) := k021 _ _ nad ha
  have p21 : Pen K H21 d L ns (n + 3) := p17.same k1720
  have f521 : Fm K H21 t5 v5 := ((kt_pen p5 ((Same.toKeep s513).trans k1321))).fm t5 f5
  -- the fourth
  refine ⟨_, rfl, _, rfl, _, rfl, a, xs, rfl, SqL.of a21, fun b22 n22 => ?_⟩
  have s22 := same_new n22 (.lst (cutV xs none (some at_)))
  have e22 : upd H21 b22 (.lst (cutV xs none (some at_))) b22 = some (.lst (cutV xs none (some at_))) := upd_same
  generalize upd H21 b22 (.lst (cutV xs none (some at_))) = H22 at *
  refine ⟨_, rfl, le1k, fun l23 H23 s23 e23 => ?_⟩
  refine ⟨b22, l23, _, _, rfl, rfl, s23 _ _ e22, e23, by simp only [List.length_cons, List.length_nil]; omega, fun l24 H24 s24 e24 => ?_⟩
  have s2124 := (s22.trans s23).trans s24
  refine ⟨_, rfl, _, rfl, _, rfl, a, xs, rfl, SqL.of (s2124 _ _ a21), fun b25 n25 => ?_⟩
  have s25 := same_new n25 (.lst (cutV xs (some at_) none))
  have e25 : upd H24 b25 (.lst (cutV xs (some at_) none)) b25 = some (.lst (cutV xs (some at_) none)) := upd_same
  generalize upd H24 b25 (.lst (cutV xs (some at_) none)) = H25 at *
  refine ⟨l24, b25, _, _, rfl, rfl, s25 _ _ e24, e25, by simp only [List.length_append, List.length_cons, List.length_nil]; omega, fun l26 H26 s26 e26 => ?_⟩
  have s2126 := (s2124.trans s25).trans s26
  have cut26 : ∀ (lo hi : Option Int) (G : Hp), Same H21 G → ∃ zs, Paired (fun v t => Fm K G t v) (cutV xs lo hi) zs ∧ (∀ t ∈ zs, t ∈ ts) ∧ lvsL zs ≤ lvsL ts := fun lo hi G s =>
    paired_cut lo hi (paired_imp (s := fun v t => Fm K G t v) (fun _ _ h => (Same.kt s).fm _ ((kt_pen hp k021).fm _ h)) hf)
  obtain ⟨u4, hu4, um4, ul4⟩ := cut26 none (some at_) H26 s2126
  obtain ⟨w4, hw4, wm4, wl4⟩ := cut26 (some at_) none H26 s2126
  have r4 : RowL K H26 l26 (u4 ++ [t5] ++ w4) := ⟨_, e26, paired_app (paired_app hu4 (.cons ((Same.kt s2126).fm t5 f521) .nil)) hw4⟩
  have g5 : ∀ t ∈ [t5], t.Ok ∧ t.dep < 20 := fun t m => by
    rw [List.mem_singleton.mp m]
    exact ⟨ok5, by omega⟩
  have l5 : lvsL [t5] = t5.lvs := by
    unfold lvsL
    simp
  have q4 : Good (u4 ++ [t5] ++ w4) := ⟨by simp only [List.length_append, List.length_cons, List.length_nil]; omega, good2 _ _ (good2 _ _ (fun t m => goodts t (um4 t m)) g5) (fun t m => goodts t (wm4 t m)), by rw [lvsL_app, lvsL_app, l5]; omega⟩
  have a26 := s2126 _ _ a21
  -- the fifth
  refine ⟨_, rfl, _, rfl, _, rfl, a, xs, rfl, SqL.of a26, fun b27 n27 => ?_⟩
  have s27 := same_new n27 (.lst (cutV xs none (some at_)))
  have e27 : upd H26 b27 (.lst (cutV xs none (some at_))) b27 = some (.lst (cutV xs none (some at_))) := upd_same
  generalize upd H26 b27 (.lst (cutV xs none (some at_))) = H27 at *
  refine ⟨_, rfl, le1k, fun l28 H28 s28 e28 => ?_⟩
  refine ⟨b27, l28, _, _, rfl, rfl, s28 _ _ e27, e28, by simp only [List.length_cons, List.length_nil]; omega, fun l29 H29 s29 e29 => ?_⟩
  have s2629 := (s27.trans s28).trans s29
  refine ⟨_, rfl, _, rfl, _, rfl, a, xs, rfl, SqL.of (s2629 _ _ a26), fun b30 n30 => ?_⟩
  have s30 := same_new n30 (.lst (cutV xs (some at_) none))
  have e30 : upd H29 b30 (.lst (cutV xs (some at_) none)) b30 = some (.lst (cutV xs (some at_) none)) := upd_same
  generalize upd H29 b30 (.lst (cutV xs (some at_) none)) = H30 at *
  refine ⟨l29, b30, _, _, rfl, rfl, s30 _ _ e29, e30, by simp only [List.length_append, List.length_cons, List.length_nil]; omega, fun l31 H31 s31 e31 => ?_⟩
  refine ⟨le1k, fun t7 H32 s32 e32 => ⟨le1k, fun l33 H33 s33 e33 => ⟨_, rfl, l33, _, _, rfl, rfl, e33, by omega, by omega, ?_, fun p34 n34 => ?_⟩⟩⟩
  · show 1 * ((M : Nat) : Int).toNat ≤ sizeLine
    omega
  rw [rep_flat]
  have s34 := same_new n34 (.lst (List.replicate ((M : Nat) : Int).toNat (V.ref t7)))
  refine ⟨l31, p34, _, _, rfl, rfl, s34 _ _ (s33 _ _ (s32 _ _ e31)), upd_same, by simp only [List.length_append, List.length_cons, List.length_nil, List.length_replicate]; omega, fun l35 H35 s35 e35 => ?_⟩
  have s2635 := (((((s2629.trans s30).trans s31).trans s32).trans s33).trans s34).trans s35
  have s2135 := s2126.trans s2635
  obtain ⟨u5, hu5, um5, ul5⟩ := cut26 none (some at_) H35 s2135
  obtain ⟨w5, hw5, wm5, wl5⟩ := cut26 (some at_) none H35 s2135
  have r5 : RowL K H35 l35 (u5 ++ [t5] ++ w5 ++ List.replicate M ftC) := ⟨_, e35, paired_app (paired_app (paired_app hu5 (.cons ((Same.kt s2135).fm t5 f521) .nil)) hw5) (paired_rep (v := .ref t7) ⟨t7, rfl, (Same.kt ((s33.trans s34).trans s35)).seq e32⟩ _)⟩
  have q5 : Good (u5 ++ [t5] ++ w5 ++ List.replicate M ftC) := ⟨by simp only [List.length_append, List.length_cons, List.length_nil]; omega, good2 _ _ (good2 _ _ (good2 _ _ (fun t m => goodts t (um5 t m)) g5) (fun t m => goodts t (wm5 t m))) (goodr _ _ gC), by rw [lvsL_app, lvsL_app, lvsL_app, l5, lone ftC rfl]; omega⟩
  replace r1 := r1.same s2135
  replace r2 := r2.same s2135
  replace r3 := r3.same s2135
  replace r4 := r4.same s2635
  refine ⟨le1k, fun l36 H36 s36 e36 => ⟨l36, rfl, ⟨_, SqL.of e36⟩, ?_⟩⟩
  have all : ∀ y ∈ [V.ref l9, .ref l13, .ref l21, .ref l26, .ref l35], ∃ (l : Addr) (zs : List FT), y = .ref l ∧ RowL K H36 l zs ∧ Good zs := by
    intro y hy
    simp only [List.mem_cons, List.not_mem_nil, or_false] at hy
    rcases hy with rfl | rfl | rfl | rfl | rfl
    · exact ⟨_, _, rfl, r1.same s36, q1⟩
    · exact ⟨_, _, rfl, r2.same s36, q2⟩
    · exact ⟨_, _, rfl, r3.same s36, q3⟩
    · exact ⟨_, _, rfl, r4.same s36, q4⟩
    · exact ⟨_, _, rfl, r5.same s36, q5⟩
  have s2136 := s2135.trans s36
  have kA : Keep d H H36 := k021.trans (Same.toKeep s2136)
  have p36 : Pen K H36 d L ns (n + 3) := p21.same s2136
  have tabs36 := tabs_keep hp.isDk kA tabs
  clear r1 r2 r3 r4 r5 q1 q2 q3 q4 q5 hu5 hw5 hu4 hw4 hus hws cut26
  have nl36 : l36 ≠ d := fun e => by
    obtain ⟨kvs, h⟩ := p36.isDk
    rw [← e, e36] at h
    cases h
  refine for_it walk_list (fun i σ H' => (∃ o5 o6 o7, σ = [some (.ref d), some (.ref a), some (.int at_), some (.int (M : Nat)), some v5, o5, o6, o7]) ∧ KeepX d H36 H' ∧ Pen K H' d L ns (n + 3 + 1000 * i) ∧ LamX.Tabs Tb H' ∧ ∀ y ∈ [V.ref l9, .ref l13, .ref l21, .ref l26, .ref l35], ∃ (l : Addr) (zs : List FT), y = .ref l ∧ RowL K H' l zs ∧ Good zs)
    ⟨⟨none, none, none, rfl⟩, fun _ _ _ _ h => h, p36, tabs36, all⟩ (fun i σ H' _ pv => SqL.of (pv.2.1 _ _ nl36 (fun _ z => nomatch z) e36)) (fun i y σ HX HL hi pv yy => ?_) (fun σ H' pv => ?_)
  · obtain ⟨rfl, hx5⟩ := yy
    obtain ⟨⟨o5, o6, o7, rfl⟩, kx, pL, tbL, rows⟩ := pv
    have hi5 : i < 5 := hi
    obtain ⟨l, zs, rfl, ⟨ys, el, hys⟩, z1, zok, z200⟩ := rows y (List.mem_of_getElem? hx5)
    have zoks : ∀ t ∈ zs, t.Ok := fun t ht => (zok t ht).1
    have ztoks := (row_le zs).1
    have zflat := (row_flat zs zoks).1
    have zlen := len_lvsL zs
    refine ⟨_, rfl, _, rfl, l, ys, zs, rfl, SqL.of el, hys, z1, fun t ht => ⟨(zok t ht).2, ?_, ?_⟩, by omega, fun G1 p1' s1 e1 => ?_⟩
    · have := toks_le t
      have := lvsL_mem ht
      omega
    · have := wrt_le t (zoks t ht)
      have := lvsL_mem ht
      omega
    have pG1 := pL.same s1
    refine ⟨d, L, p1', ns, _, rowToks zs, rfl, pG1, by omega, e1, by omega, by omega, fun cs G2 g2 c2 k2 p2 => ?_⟩
    have rwz := rwx_of z1 zoks g2
    refine ⟨_, rfl, cs, zs, rfl, g2, z1, zoks, by omega, by omega, by omega, ?_, ?_, ?_⟩
    · -- deep
      intro G5 due s5 ⟨tz, tzm, tzd⟩ ed
      refine ⟨_, rfl, due, _, 0, _, rfl, rfl, ed, rfl, rfl, _, rfl, ?_⟩
      refine ite2 (fun c => absurd c (by decide +kernel)) (fun _ => ?_)
      have k5 : Keep d HL G5 := ((Same.toKeep s1).trans k2).trans (Same.toKeep s5)
      have p5' := p2.same s5
      have tb5 := tabs_keep pL.isDk k5 tbL
      refine ⟨tb5, fun f1 fo1 c1 H9 x9 t9 n9 p9 q9 o9 a9 => ⟨_, rfl, ?_⟩⟩
      have tp9 := seqT_x x9 ed
      intro C KC hC
      have out_ : ∀ {b : Addr} {o : HO}, H9 b = some o → C b = none := fun {b o} e => Clo.out_of e hC
      refine ⟨.ref f1, .ref due, rfl, f1, fo1, _, rfl, o9, by rw [Clo.plus_out (out_ p9)]; exact p9, Clo.Act.mono (a9 C KC) (by decide), fun Q' E' i1 i2 => ⟨by rw [Clo.plus_out (out_ p9)]; exact p9, by rw [Clo.plus_out (out_ q9)]; exact q9, fun c o e => Clo.plus_in e, ?_⟩⟩
      rw [minus_plus hC]
      have fin : badE T.D "most" (.int 12) H9 (fun cls d H' => (∀ c o, C c = some o → H' c = none) → E' cls d (Clo.plus C H')) := fun d' H10 s10 nd' non => by
        refine i2 _ _ _ ⟨T.D, d', "most", "deep", .int 12, rfl, rfl, .inr (.inr (.inl ⟨rfl, rfl, rfl⟩)), ?_, fun pp npp => ?_⟩
        · rw [Clo.plus_out (Clo.out_of upd_same non)]
          exact upd_same
        · have sG : Same H9 (Clo.plus C (upd H10 d' (.xd [("most", .int 12)]))) := fun b o e => by
            have e1 := s10 _ _ e
            rw [Clo.plus_out (out_ e), upd_ne (ne_of_none e1 nd')]
            exact e1
          have s2' : Same H9 (upd (Clo.plus C (upd H10 d' (.xd [("most", .int 12)]))) pp (.tup [.str "deep", .int 12])) := Same.trans sG (same_new npp _)
          refine ⟨.inr (.inr (.inl ⟨pp, due, [.str "deep", .int 12], [.str "deep", .int 12], rfl, rfl, SqT.of upd_same, (Same.kt s2').seq tp9, le1k, .cons (.inl ⟨rfl, rfl⟩) (.cons (.inl ⟨rfl, rfl⟩) .nil)⟩)), fun H11 s11 => ⟨fun c o e => ?_, ?_⟩⟩
          · refine s11 _ _ ?_
            have e1 : Clo.plus C (upd H10 d' (.xd [("most", .int 12)])) c = some (Clo.Pin c o) := Clo.plus_in e
            rw [upd_ne (ne_of_none e1 npp)]
            exact e1
          · refine ⟨true, rfl, ?_⟩
            have sM : Same H9 (Clo.minus C H11) := fun b o e => by
              rw [Clo.minus_out (out_ e)]
              exact s11 _ _ (s2' _ _ e)
            exact ⟨⟨_, _, _, rfl⟩, ((kx.trans (KeepX.of_keep k5)).trans (KeepX.of_ext x9)).trans (KeepX.of_keep (Same.toKeep sM)), ((pen_x x9 p5').same sM).mono (by omega), t9.ext sM, fun y hy => by
              obtain ⟨l, zs, e1, e2, e3⟩ := rows y hy
              exact ⟨l, zs, e1, ((e2.pen pL k5).ext x9).same sM, e3⟩⟩
      refine ⟨_, rfl, _, rfl, .inl ⟨zs, cs, rfl, rwz, by omega, by omega, fun c1 c2 => absurd (c1 tz tzm) (by omega), fun c => fin, fun c1 c2 => absurd (c1 tz tzm) (by omega)⟩⟩
    · -- many
      intro G5 due s5 all12 l40 ed
      refine ⟨_, rfl, due, _, 0, _, rfl, rfl, ed, rfl, rfl, _, rfl, ?_⟩
      refine ite2 (fun c => absurd c (by decide +kernel)) (fun _ => ?_)
      have k5 : Keep d HL G5 := ((Same.toKeep s1).trans k2).trans (Same.toKeep s5)
      have p5' := p2.same s5
      have tb5 := tabs_keep pL.isDk k5 tbL
      refine ⟨tb5, fun f1 fo1 c1 H9 x9 t9 n9 p9 q9 o9 a9 => ⟨_, rfl, ?_⟩⟩
      have tp9 := seqT_x x9 ed
      intro C KC hC
      have out_ : ∀ {b : Addr} {o : HO}, H9 b = some o → C b = none := fun {b o} e => Clo.out_of e hC
      refine ⟨.ref f1, .ref due, rfl, f1, fo1, _, rfl, o9, by rw [Clo.plus_out (out_ p9)]; exact p9, Clo.Act.mono (a9 C KC) (by decide), fun Q' E' i1 i2 => ⟨by rw [Clo.plus_out (out_ p9)]; exact p9, by rw [Clo.plus_out (out_ q9)]; exact q9, fun c o e => Clo.plus_in e, ?_⟩⟩
      rw [minus_plus hC]
      have fin : badE T.M "most" (.int 40) H9 (fun cls d H' => (∀ c o, C c = some o → H' c = none) → E' cls d (Clo.plus C H')) := fun d' H10 s10 nd' non => by
        refine i2 _ _ _ ⟨T.M, d', "most", "many", .int 40, rfl, rfl, .inr (.inr (.inr ⟨rfl, rfl, rfl⟩)), ?_, fun pp npp => ?_⟩
        · rw [Clo.plus_out (Clo.out_of upd_same non)]
          exact upd_same
        · have sG : Same H9 (Clo.plus C (upd H10 d' (.xd [("most", .int 40)]))) := fun b o e => by
            have e1 := s10 _ _ e
            rw [Clo.plus_out (out_ e), upd_ne (ne_of_none e1 nd')]
            exact e1
          have s2' : Same H9 (upd (Clo.plus C (upd H10 d' (.xd [("most", .int 40)]))) pp (.tup [.str "many", .int 40])) := Same.trans sG (same_new npp _)
          refine ⟨.inr (.inr (.inl ⟨pp, due, [.str "many", .int 40], [.str "many", .int 40], rfl, rfl, SqT.of upd_same, (Same.kt s2').seq tp9, le1k, .cons (.inl ⟨rfl, rfl⟩) (.cons (.inl ⟨rfl, rfl⟩) .nil)⟩)), fun H11 s11 => ⟨fun c o e => ?_, ?_⟩⟩
          · refine s11 _ _ ?_
            have e1 : Clo.plus C (upd H10 d' (.xd [("most", .int 40)])) c = some (Clo.Pin c o) := Clo.plus_in e
            rw [upd_ne (ne_of_none e1 npp)]
            exact e1
          · refine ⟨true, rfl, ?_⟩
            have sM : Same H9 (Clo.minus C H11) := fun b o e => by
              rw [Clo.minus_out (out_ e)]
              exact s11 _ _ (s2' _ _ e)
            exact ⟨⟨_, _, _, rfl⟩, ((kx.trans (KeepX.of_keep k5)).trans (KeepX.of_ext x9)).trans (KeepX.of_keep (Same.toKeep sM)), ((pen_x x9 p5').same sM).mono (by omega), t9.ext sM, fun y hy => by
              obtain ⟨l, zs, e1, e2, e3⟩ := rows y hy
              exact ⟨l, zs, e1, ((e2.pen pL k5).ext x9).same sM, e3⟩⟩
      refine ⟨_, rfl, _, rfl, .inl ⟨zs, cs, rfl, rwz, by omega, by omega, fun c1 c2 => absurd c2 (by omega), fun c => by obtain ⟨tz, tzm, tzd⟩ := c; exact absurd (all12 tz tzm) (by omega), fun c1 c2 => fin⟩⟩
    · -- told
      intro G5 due v s5 all12 l40 ed
      refine ⟨_, rfl, due, _, 0, _, rfl, rfl, ed, rfl, rfl, _, rfl, ?_⟩
      refine ite2 (fun _ => ?_) (fun c => absurd (by decide +kernel) c)
      have k5 : Keep d HL G5 := ((Same.toKeep s1).trans k2).trans (Same.toKeep s5)
      have nld : l ≠ d := fun e => by
        obtain ⟨kvs, h⟩ := pL.isDk
        rw [← e, el] at h
        cases h
      refine ⟨_, rfl, _, rfl, .inl ⟨zs, cs, rfl, rwz, by omega, by omega, fun _ _ J b ys2 sJ eb nb hy => ?_, fun ⟨t, ht, c⟩ => absurd (all12 t ht) (by omega), fun _ c => absurd l40 (by omega)⟩⟩
      have kJ : Keep d HL J := k5.trans (Same.toKeep sJ)
      have hly := paired_len hy
      refine ⟨_, rfl, _, _, rfl, .inr (.inr (.inr ⟨b, l, ys2, ys, rfl, rfl, SqL.of eb, SqL.of (kJ _ _ nld el), by omega, paired_two all12 hy (paired_imp (fun _ _ h => (kt_pen pL kJ).fm _ h) hys)⟩)), fun J2 s2' => ⟨_, rfl, iteF ?_⟩⟩
      have kJ2 : Keep d HL J2 := kJ.trans (Same.toKeep s2')
      exact ⟨⟨_, _, _, rfl⟩, kx.trans (KeepX.of_keep kJ2), (((p2.same s5).same sJ).same s2').mono (by omega), tabs_keep pL.isDk kJ2 tbL, fun y hy => by
        obtain ⟨l, zs, e1, e2, e3⟩ := rows y hy
        exact ⟨l, zs, e1, e2.pen pL kJ2, e3⟩⟩
  · exact q H' ((KeepX.of_keep kA).trans pv.2.1) (pv.2.2.1.mono (by show n + 3 + 1000 * 5 ≤ n + 6000; omega)) pv.2.2.2.1
end
end My

set_option Elab.async false
set_option linter.all false
set_option maxRecDepth 100000
namespace My
open PySem L2
abbrev slaw : Stmt := top 75
abbrev Nlaw : List Str := ["_law_script", "_law_pen", "_law_ends"]
abbrev Plaw : List Str := ["_law_script"]
theorem sclaw : FnScope Nlaw Plaw (defScope slaw) := ⟨rfl, rfl, rfl, by decide +kernel, rfl, by decide +kernel, by decide +kernel⟩
def spLaw (K : PySem.W.Frag) (Tb : List (Addr × Str)) : Sp := fun vs H Q _ => ∃ (a : Addr) (ns : List Int), vs = [.ref a] ∧ SqL K H a (ns.map V.int) ∧ ns.length ≤ 63 ∧ LamX.Tabs Tb H ∧ ∀ H', Q (.bl true) H'
theorem forms_ft : ∀ {ds : List PyData}, ds.all (isForm 12) = true → ∃ ts : List FT, ds = ts.map FT.data ∧ ∀ t ∈ ts, t.dep ≤ 12 ∧ t.Ok
  | [], _ => ⟨[], rfl, fun _ h => by cases h⟩
  | D :: ds, h => by
    rw [List.all_cons, Bool.and_eq_true] at h
    obtain ⟨t, e, o, dp⟩ := ft_of h.1
    obtain ⟨ts, e2, h2⟩ := forms_ft h.2
    refine ⟨t :: ts, by rw [e, e2]; rfl, fun u hu => ?_⟩
    rcases List.mem_cons.mp hu with rfl | hu
    · exact ⟨dp, o⟩
    · exact h2 u hu
theorem ends_ft {ds : List PyData} (h : isEnds (.list ds) = true) : ∃ ts : List FT, ds = ts.map FT.data ∧ Ends6 ts := by
  have key : (decide (1 ≤ ds.length) && decide (ds.length ≤ 40) && ds.all (isForm 12) && decide ((ds.flatMap lvs).length ≤ 40)) = true := h
  simp only [Bool.and_eq_true, decide_eq_true_eq] at key
  obtain ⟨⟨⟨h1, _⟩, h3⟩, h4⟩ := key
  obtain ⟨ts, rfl, h5⟩ := forms_ft h3
  rw [lvs_data] at h4
  rw [List.length_map] at h1
  exact ⟨ts, rfl, h1, h5, h4⟩
theorem fm_of_all {K : PySem.W.Frag} {H : Hp} : ∀ {ts : List FT} {us : List V}, DpAll K H us (ts.map FT.data) → Paired (fun v t => Fm K H t v) us ts
  | [], _, h => by cases h; exact .nil
  | t :: ts, _, h => by
    cases h with | cons h1 h2 => exact .cons (fm_of_dp t h1) (fm_of_all h2)
theorem kt_x6 {K : PySem.W.Frag} {d L : Addr} {ns : List Int} {n : Nat} {H H' : Hp} (p : Pen K H d L ns n) (k : KeepX d H H') : KT H H' := fun a o h e => by
  refine k a o (fun z => ?_) (fun ps z => ?_) e
  · obtain ⟨kvs, hd⟩ := p.isDk
    subst z
    rw [hd] at e
    have e := Option.some.inj e
    rcases h with ⟨xs, rfl⟩ | ⟨_, _, rfl⟩ <;> cases e
  · rcases h with ⟨xs, rfl⟩ | ⟨_, _, rfl⟩ <;> cases z
section
variable {P : Program} {w : World} {K : PySem.W.Frag} {mg : Str → Option Value} {base : Heap} {f : Addr} {fd : FuncData}
theorem ok_law {Tb : List (Addr × Str)} (F : Fun K "law" "law" slaw f fd) (C_law_begin : Cal P w K mg base "_law_begin" 1 ["_law_script"] (spBegin K)) (C_law_some_ends : Cal P w K mg base "_law_some_ends" 16 P_law_some_ends (spSomeEnds K)) (C_law_ends_right : Cal P w K mg base "_law_ends_right" 31 P_law_ends_right (spEndsRight K))
    (C_law_beyond : Cal P w K mg base "_law_beyond" 105 P_law_beyond (spBeyond K Tb)) (C_law_refuses : Cal P w K mg base "_law_refuses" 105 P_law_refuses (spRefuses K Tb)) : FnOk P w K mg base CX0 106 f fd Plaw (spLaw K Tb) := by
  refine F.ok sclaw (fun vs H Q E h => ?_) (fun cdv A outer s H vs Q E hr h => ?_)
  · obtain ⟨a, ns, rfl, _⟩ := h
    rfl
  obtain ⟨a, ns, rfl, hS, h63, tabs, q⟩ := h
  refine ⟨_, (pss_cons (ps_set (i := 1) sclaw.nd rfl (Or.inl rfl) (pe_callC C_law_begin hr (pa_cons (pv 0) pa_nil)))
  (pss_cons (ps_set (i := 2) sclaw.nd rfl (Or.inl rfl) (pe_callC C_law_some_ends hr (pa_cons (pv 1) (pa_cons pe_int (pa_cons pe_int pa_nil)))))
  (pss_cons (ps_if (PW.pt (pw_or (pt_not (pt_val (pe_callC C_law_ends_right hr (pa_cons (pv 1) (pa_cons (pv 2) pa_nil))))) (pw_or1 (pt_not (pt_val (pe_callC C_law_ends_right hr (pa_cons (pv 1) (pa_cons (pe_callC C_law_some_ends hr (pa_cons (pv 1) (pa_cons pe_int (pa_cons pe_int pa_nil)))) pa_nil))))))))
    (pss_one (ps_ret pe_bl))
    pss_nil)
  (pss_one (ps_ret (pe_and (pe_callC C_law_beyond hr (pa_cons (pv 1) (pa_cons (pv 2) pa_nil))) (pe_one (pe_callC C_law_refuses hr (pa_cons (pv 1) (pa_cons (pv 2) pa_nil)))))))))), ?_⟩
  refine ⟨_, rfl, a, ns, rfl, hS, h63, fun d L H1 S1 p1 => ?_⟩
  refine ⟨_, rfl, d, L, ns, 0, 40, 40, rfl, p1, by decide, by decide, by decide, by decide, by decide, fun e us ds H2 k2 p2 e2 d2 ie => ?_⟩
  obtain ⟨ts, rfl, E6⟩ := ends_ft ie
  have f2 := fm_of_all d2
  have tabs2 : LamX.Tabs Tb H2 := tabs_keep p1.isDk k2 (tabs.ext S1)
  have ned : e ≠ d := fun z => by
    obtain ⟨kvs, h⟩ := p2.isDk
    rw [← z, e2] at h
    cases h
  refine ⟨_, rfl, _, rfl, d, L, e, ns, _, us, ts, rfl, p2, by decide, e2, f2, E6, fun H3 k3 p3 => ⟨_, rfl, iteF ?_⟩⟩
  refine ⟨_, rfl, _, rfl, d, L, ns, _, 5, 5, rfl, p3, by decide, by decide, by decide, by decide, by decide, fun e4 us4 ds4 H4 k4 p4 ee4 d4 ie4 => ?_⟩
  obtain ⟨ts4, rfl, E64⟩ := ends_ft ie4
  refine ⟨d, L, e4, ns, _, us4, ts4, rfl, p4, by decide, ee4, fm_of_all d4, E64, fun H5 k5 p5 => ⟨_, rfl, iteF ?_⟩⟩
  have k25 : Keep d H2 H5 := (k3.trans k4).trans k5
  have e5 : H5 e = some (.lst us) := k25 _ _ ned e2
  have f5 : Paired (fun v t => Fm K H5 t v) us ts := paired_imp (fun _ _ h => (kt_pen p2 k25).fm _ h) f2
  refine ⟨_, rfl, _, rfl, d, L, e, ns, _, us, ts, rfl, p5, by decide, e5, f5, E6, tabs_keep p2.isDk k25 tabs2, fun H6 k6 p6 t6 => ?_⟩
  refine ⟨true, rfl, iteT ?_⟩
  exact ⟨_, rfl, _, rfl, d, L, e, ns, _, us, ts, rfl, p6, by decide, k6 _ _ ned (fun _ z => nomatch z) e5, paired_imp (fun _ _ h => (kt_x6 p5 k6).fm _ h) f5, E6, t6, q⟩
end
end My

set_option Elab.async false
set_option linter.all false
set_option maxRecDepth 100000
namespace My
open PySem L2
section
variable {P : Program} {w : World} {K : PySem.W.Frag} {mg : Str → Option Value} {base : Heap} {f : Addr} {fd : FuncData}
theorem vac {C : CXT} {k : Nat} {ps : List Str} {sp : Sp} (no : ∀ vs H Q E, ¬ sp vs H Q E) : FnOk P w K mg base C k f fd ps sp :=
  ⟨fun vs H Q E h => absurd h (no vs H Q E), fun A outer s H args us vs Q E _ _ _ _ h => absurd h (no vs H Q E)⟩
theorem all_fits_form (T : Txt K mg) (F : Fun K "fits_form" "fits_form" sfits_form f fd) (b : Binds K fd Pfits_form []) (m : mg "fits_form" = some (.ref f)) (C : Cal P w K mg base "fits_name" 2 ["value"] (spName K)) : ∀ n : Nat, FnOk P w K mg base CX0 (2 + n) f fd Pfits_form (spForm K n)
  | 0 => vac fun vs H Q E ⟨_, k, _, h, _⟩ => Nat.not_lt_zero k h
  | n + 1 => ok_fits_form T F C ⟨f, fd, all_fits_form T F b m C n, m, F.kp, b⟩
theorem all_law_same (T : Txt K mg) (zip : mg "zip" = none) (F : Fun K "_law_same" "_law_same" s_law_same f fd) (b : Binds K fd P_law_same []) (m : mg "_law_same" = some (.ref f)) : ∀ n : Nat, FnOk P w K mg base CX0 (1 + n) f fd P_law_same (spSame K n)
  | 0 => vac fun vs H Q E ⟨_, _, _, h, _⟩ => h
  | n + 1 => ok_law_same T zip F ⟨f, fd, all_law_same T zip F b m n, m, F.kp, b⟩
theorem all_law_is_form (T : Txt K mg) (F : Fun K "_law_is_form" "_law_is_form" s_law_is_form f fd) (b : Binds K fd P_law_is_form []) (m : mg "_law_is_form" = some (.ref f)) (C : Cal P w K mg base "_law_is_name" 2 ["_law_value"] (spName K)) : ∀ n : Nat, FnOk P w K mg base CX0 (2 + n) f fd P_law_is_form (spFormL K n)
  | 0 => vac fun vs H Q E ⟨_, k, _, _, h, _⟩ => Nat.not_lt_zero k h
  | n + 1 => ok_law_is_form T F C ⟨f, fd, all_law_is_form T F b m C n, m, F.kp, b⟩
theorem all_law_depth (T : Txt K mg) (F : Fun K "_law_depth" "_law_depth" s_law_depth f fd) (b : Binds K fd P_law_depth []) (m : mg "_law_depth" = some (.ref f)) : ∀ n : Nat, FnOk P w K mg base CX0 n f fd P_law_depth (spDepth K n)
  | 0 => vac fun vs H Q E ⟨_, _, k, _, h, _⟩ => Nat.not_lt_zero k h
  | n + 1 => ok_law_depth T F ⟨f, fd, all_law_depth T F b m n, m, F.kp, b⟩
theorem all_law_shape (T : Txt K mg) (F : Fun K "_law_shape" "_law_shape" s_law_shape f fd) (b : Binds K fd P_law_shape []) (m : mg "_law_shape" = some (.ref f)) (C1 : Cal P w K mg base "_law_draw" 1 P_law_draw (spDraw K)) (C2 : Cal P w K mg base "_law_pick" 2 P_law_pick (spPick K)) : ∀ n : Nat, FnOk P w K mg base CX0 (2 + n) f fd P_law_shape (spShape K n)
  | 0 => vac fun vs H Q E ⟨_, _, _, _, _, _, _, t, _, h, _⟩ => Nat.not_lt_zero t h
  | n + 1 => ok_law_shape T F C1 C2 ⟨f, fd, all_law_shape T F b m C1 C2 n, m, F.kp, b⟩
theorem all_law_bent (T : Txt K mg) (F : Fun K "_law_bent" "_law_bent" s_law_bent f fd) (b : Binds K fd P_law_bent []) (m : mg "_law_bent" = some (.ref f)) (C1 : Cal P w K mg base "_law_draw" 1 P_law_draw (spDraw K)) (C2 : Cal P w K mg base "_law_pick" 2 P_law_pick (spPick K)) (C3 : Cal P w K mg base "_law_bent_name" 3 P_law_bent_name (spBentName K)) : ∀ n : Nat, FnOk P w K mg base CX0 (3 + n) f fd P_law_bent (spBent K n)
  | 0 => vac fun vs H Q E ⟨_, _, _, _, _, _, k, _, h, _⟩ => Nat.not_lt_zero k h
  | n + 1 => ok_law_bent T F C1 C2 C3 ⟨f, fd, all_law_bent T F b m C1 C2 C3 n, m, F.kp, b⟩
theorem all_written {f2 : Addr} {fd2 : FuncData} (Y : TxtS K mg w) (F : Fun K "written" "written" swritten f fd) (b : Binds K fd Nis_leaf []) (m : mg "written" = some (.ref f)) (F2 : Fun K "written_half" "written_half" swritten_half f2 fd2) (b2 : Binds K fd2 Nis_leaf []) (m2 : mg "written_half" = some (.ref f2)) (C : Cal P w K mg base "is_leaf" 1 Nis_leaf (spLeafT K)) :
    ∀ n : Nat, FnOk P w K mg base CX0 (1 + 2 * n) f fd Nis_leaf (spWritten K false n)
  | 0 => vac fun vs H Q E ⟨_, _, _, _, h, _⟩ => Nat.not_lt_zero _ h
  | n + 1 => okwritten Y F ⟨f2, fd2, okwritten_half (k := 2 * n) C F2 ⟨f, fd, all_written Y F b m F2 b2 m2 C n, m, F.kp, b⟩, m2, F2.kp, b2⟩
theorem all_law_form_text (T : Txt K mg) (F : Fun K "_law_form_text" "_law_form_text" s_law_form_text f fd) (b : Binds K fd P_law_form_text []) (m : mg "_law_form_text" = some (.ref f)) : ∀ n : Nat, FnOk P w K mg base CX0 (1 + n) f fd P_law_form_text (spLText K n)
  | 0 => vac fun vs H Q E ⟨_, _, _, _, _, h, _⟩ => Nat.not_lt_zero _ h
  | n + 1 => ok_law_form_text T F ⟨f, fd, all_law_form_text T F b m n, m, F.kp, b⟩
theorem all_leaf_count (F : Fun K "leaf_count" "leaf_count" sleaf_count f fd) (b : Binds K fd Pleaf_count []) (m : mg "leaf_count" = some (.ref f)) (C : Cal P w K mg base "is_leaf" 1 Pis_leaf (spIsLeaf K)) : ∀ n : Nat, FnOk P w K mg base CX0 (1 + n) f fd Pleaf_count (spLeafCount K n)
  | 0 => vac fun vs H Q E ⟨_, k, _, _, h, _⟩ => Nat.not_lt_zero k h
  | n + 1 => okleaf_count F C ⟨f, fd, all_leaf_count F b m C n, m, F.kp, b⟩
theorem all_law_leaves (T : Txt7 K mg) (F : Fun K "_law_leaves" "_law_leaves" s_law_leaves f fd) (b : Binds K fd P_law_leaves []) (m : mg "_law_leaves" = some (.ref f)) : ∀ n : Nat, FnOk P w K mg base CX0 n f fd P_law_leaves (spLvs K n)
  | 0 => vac fun vs H Q E ⟨_, k, _, _, h, _⟩ => Nat.not_lt_zero k h
  | n + 1 => ok_law_leaves T F ⟨f, fd, all_law_leaves T F b m n, m, F.kp, b⟩
theorem all_law_unforked (T : Txt7 K mg) (F : Fun K "_law_unforked" "_law_unforked" s_law_unforked f fd) (b : Binds K fd P_law_unforked []) (m : mg "_law_unforked" = some (.ref f)) : ∀ n : Nat, FnOk P w K mg base CX0 n f fd P_law_unforked (spUnforked K n)
  | 0 => vac fun vs H Q E ⟨_, _, k, _, _, h, _⟩ => Nat.not_lt_zero k h
  | n + 1 => ok_law_unforked T F ⟨f, fd, all_law_unforked T F b m n, m, F.kp, b⟩
theorem all_law_tokens (T : Txt K mg) (F : Fun K "_law_tokens" "_law_tokens" s_law_tokens f fd) (b : Binds K fd P_law_form_text []) (m : mg "_law_tokens" = some (.ref f)) : ∀ n : Nat, FnOk P w K mg base CX0 (1 + n) f fd P_law_form_text (spTokens K n)
  | 0 => vac fun vs H Q E ⟨_, _, _, _, _, h, _⟩ => Nat.not_lt_zero _ h
  | n + 1 => ok_law_tokens T F ⟨f, fd, all_law_tokens T F b m n, m, F.kp, b⟩
theorem sc_i3 : FnScope ["self", "most"] ["self", "most"] (defScope (meth 4 0)) := ⟨rfl, rfl, rfl, by decide +kernel, rfl, by decide +kernel, by decide +kernel⟩
theorem ok_i3 (C : Addr) (F : Fun K "__init__" "TooDeep.__init__" (meth 4 0) f fd) : FnOk P w K mg base CX0 1 f fd ["self", "most"] (spInit K C "most") := by
  refine F.ok sc_i3 (fun vs H Q E h => ?_) (fun cdv A outer s H vs Q E hr h => ?_)
  · obtain ⟨a, v, rfl, _⟩ := h
    rfl
  obtain ⟨a, v, rfl, ea, T, no, q⟩ := h
  refine ⟨_, pss_one (ps_ost (pv 0) (pv 1)), ?_⟩
  exact ⟨v, rfl, _, rfl, a, C, rfl, T, no, .inl ⟨ea, fun dx n ne => q dx n ne⟩⟩
theorem sc_i5 : FnScope ["self", "most"] ["self", "most"] (defScope (meth 5 0)) := ⟨rfl, rfl, rfl, by decide +kernel, rfl, by decide +kernel, by decide +kernel⟩
theorem ok_i5 (C : Addr) (F : Fun K "__init__" "TooMany.__init__" (meth 5 0) f fd) : FnOk P w K mg base CX0 1 f fd ["self", "most"] (spInit K C "most") := by
  refine F.ok sc_i5 (fun vs H Q E h => ?_) (fun cdv A outer s H vs Q E hr h => ?_)
  · obtain ⟨a, v, rfl, _⟩ := h
    rfl
  obtain ⟨a, v, rfl, ea, T, no, q⟩ := h
  refine ⟨_, pss_one (ps_ost (pv 0) (pv 1)), ?_⟩
  exact ⟨v, rfl, _, rfl, a, C, rfl, T, no, .inl ⟨ea, fun dx n ne => q dx n ne⟩⟩
abbrev Pcheck_text : List Str := Ncheck_text
abbrev Pwritten : List Str := Nis_leaf
abbrev Pwritten_half : List Str := Nis_leaf
abbrev Ptold_form : List Str := Ntold_form
abbrev P_law_tokens : List Str := P_law_form_text
theorem kd_eq {a : Addr} {z z' : Str} {v : V} (e : z = z') (h : KDct K w a z' v) : KDct K w a z v := by rw [e]; exact h
end
/-- whether an error of the class at A is what «except B» names -/
theorem exm_two {K : PySem.W.Frag} {A B : Addr} {b : Bool} (h1 : PySem.W.subIn K (.ref B) (.type "BaseException") = some true) (h2 : PySem.W.isClsIn K B = true) (h3 : PySem.W.typeIn K (.ref B) = some (.type "type")) (h4 : PySem.W.subIn K (.ref A) (.ref B) = some b) : PySem.W.exmOne K (.ref A) (.ref B) = some b := by
  have e1 : (PySem.W.subIn K (.ref B) (.type "BaseException") == some true) = true := by rw [h1] <;> rfl
  have e2 : ((PySem.W.clsIn K B).isSome && PySem.W.typeIn K (.ref B) == some (.type "type")) = true := by
    have h2' : (PySem.W.clsIn K B).isSome = true := h2
    rw [h2', h3] <;> rfl
  show (if (PySem.W.subIn K (.ref B) (.type "BaseException") == some true) = true then (if ((PySem.W.clsIn K B).isSome && PySem.W.typeIn K (.ref B) == some (.type "type")) = true then PySem.W.subIn K (.ref A) (.ref B) else none) else none) = some b
  rw [if_pos e1, if_pos e2]
  exact h4
set_option maxHeartbeats 0 in
theorem all_mk {l : PySem.W.OpenLaw} {w : World} {K : PySem.W.Frag} {h : Heap} {mg : Str → Option Value} {fa f1 f2 f3 f4 f5 f6 f7 f8 f9 f10 f11 f12 f13 f14 f15 f16 f17 f18 f19 f20 f21 f22 f23 f24 f25 f26 f27 f28 f29 f30 f31 f32 f33 f34 f35 f36 f37 f38 f39 f40 f41 f42 f43 f44 f45 f46 f47 f48 f49 f50 f51 f52 f53 f54 f55 f56 f57 f58 f59 f60 f61 f62 f63 aL aH aS aW CR CW EB EN ED EM cc1 cc2 Pt1 Pt2 : Addr} (X : K.In h) (G : h.Ns mainGlobals mg) (hfa : mg "law" = some (.ref fa))
    {od1 an1 od2 an2 od3 an3 od4 an4 od5 an5 od6 an6 od7 an7 od8 an8 od9 an9 od10 an10 od11 an11 od12 an12 od13 an13 od14 an14 od15 an15 od16 an16 od17 an17 od18 an18 od19 an19 od20 an20 od21 an21 od22 an22 od23 an23 od24 an24 od25 an25 od26 an26 od27 an27 od28 an28 od29 an29 od30 an30 od31 an31 od32 an32 od33 an33 od34 an34 od35 an35 od36 an36 od37 an37 od38 an38 od39 an39 od40 an40 od41 an41 od42 an42 od43 an43 od44 an44 od45 an45 od46 an46 od47 an47 od48 an48 od49 an49 od50 an50 od51 an51 od52 an52 od53 an53 od54 an54 od55 an55 od56 an56 od57 an57 od58 an58 od59 an59 od60 an60 od61 an61 od62 an62 od63 an63 odL odH : Option Addr} {sl1 sl2 sl3 sl4 sl5 sl6 sl7 sl8 sl9 sl10 sl11 sl12 sl13 sl14 sl15 sl16 sl17 sl18 sl19 sl20 sl21 sl22 sl23 sl24 sl25 sl26 sl27 sl28 sl29 sl30 sl31 sl32 sl33 sl34 sl35 sl36 sl37 sl38 sl39 sl40 sl41 sl42 sl43 sl44 sl45 sl46 sl47 sl48 sl49 sl50 sl51 sl52 sl53 sl54 sl55 sl56 sl57 sl58 sl59 sl60 sl61 sl62 sl63 slL slH : Array (Option Value)} {oc1 kV1 dc1 pm1 cd1 ct1 oc2 kV2 dc2 pm2 cd2 ct2 oc3 kV3 dc3 pm3 cd3 ct3 oc4 kV4 dc4 pm4 cd4 ct4 oc5 kV5 dc5 pm5 cd5 ct5 oc6 kV6 dc6 pm6 cd6 ct6 oc7 kV7 dc7 pm7 cd7 ct7 oc8 kV8 dc8 pm8 cd8 ct8 oc9 kV9 dc9 pm9 cd9 ct9 oc10 kV10 dc10 pm10 cd10 ct10 oc11 kV11 dc11 pm11 cd11 ct11 oc12 kV12 dc12 pm12 cd12 ct12 oc13 kV13 dc13 pm13 cd13 ct13 oc14 kV14 dc14 pm14 cd14 ct14 oc15 kV15 dc15 pm15 cd15 ct15 oc16 kV16 dc16 pm16 cd16 ct16 oc17 kV17 dc17 pm17 cd17 ct17 oc18 kV18 dc18 pm18 cd18 ct18 oc19 kV19 dc19 pm19 cd19 ct19 oc20 kV20 dc20 pm20 cd20 ct20 oc21 kV21 dc21 pm21 cd21 ct21 oc22 kV22 dc22 pm22 cd22 ct22 oc23 kV23 dc23 pm23 cd23 ct23 oc24 kV24 dc24 pm24 cd24 ct24 oc25 kV25 dc25 pm25 cd25 ct25 oc26 kV26 dc26 pm26 cd26 ct26 oc27 kV27 dc27 pm27 cd27 ct27 oc28 kV28 dc28 pm28 cd28 ct28 oc29 kV29 dc29 pm29 cd29 ct29 oc30 kV30 dc30 pm30 cd30 ct30 oc31 kV31 dc31 pm31 cd31 ct31 oc32 kV32 dc32 pm32 cd32 ct32 oc33 kV33 dc33 pm33 cd33 ct33 oc34 kV34 dc34 pm34 cd34 ct34 oc35 kV35 dc35 pm35 cd35 ct35 oc36 kV36 dc36 pm36 cd36 ct36 oc37 kV37 dc37 pm37 cd37 ct37 oc38 kV38 dc38 pm38 cd38 ct38 oc39 kV39 dc39 pm39 cd39 ct39 oc40 kV40 dc40 pm40 cd40 ct40 oc41 kV41 dc41 pm41 cd41 ct41 oc42 kV42 dc42 pm42 cd42 ct42 oc43 kV43 dc43 pm43 cd43 ct43 oc44 kV44 dc44 pm44 cd44 ct44 oc45 kV45 dc45 pm45 cd45 ct45 oc46 kV46 dc46 pm46 cd46 ct46 oc47 kV47 dc47 pm47 cd47 ct47 oc48 kV48 dc48 pm48 cd48 ct48 oc49 kV49 dc49 pm49 cd49 ct49 oc50 kV50 dc50 pm50 ct50 oc51 kV51 dc51 pm51 ct51 oc52 kV52 dc52 pm52 cd52 ct52 oc53 kV53 dc53 pm53 cd53 ct53 oc54 kV54 dc54 pm54 cd54 ct54 oc55 kV55 dc55 pm55 cd55 ct55 oc56 kV56 dc56 pm56 cd56 ct56 oc57 kV57 dc57 pm57 cd57 ct57 oc58 kV58 dc58 pm58 cd58 ct58 oc59 kV59 dc59 pm59 cd59 ct59 oc60 kV60 dc60 pm60 cd60 ct60 oc61 kV61 dc61 pm61 cd61 ct61 oc62 kV62 dc62 pm62 cd62 ct62 oc63 kV63 dc63 pm63 cd63 ct63 : Value} {tl td tn tp tm u1 u2 u3 u4 u5 u6 v5 v6 v7 v8 : Tok} {nL nH nS nW : Nat} {esS esW : Array DictEntry}
    {nmB qB : Str} {NB : Addr} {bsB bmB : List Value} {snB : List Str} {subB : List Value} {abB : Bool} {colB : Option Bool} {ddB : Option Addr} {mz0B mz1B mz2B mz3B mz5B : Option Value}
    {nmD qD : Str} {ND : Addr} {bsD bmD : List Value} {snD : List Str} {subD : List Value} {abD : Bool} {colD : Option Bool} {ddD : Option Addr} {mz0D mz1D mz2D mz3D mz5D : Option Value}
    {nmM qM : Str} {NM : Addr} {bsM bmM : List Value} {snM : List Str} {subM : List Value} {abM : Bool} {colM : Option Bool} {ddM : Option Addr} {mz0M mz1M mz2M mz3M mz5M : Option Value}
    (tP1 : h.get? Pt1 = some { cls := .none, data := .fields #[] })
    (tP2 : h.get? Pt2 = some { cls := .none, data := .fields #[] })
    (tD : Pt1 ≠ Pt2)
    (a1 : PySem.W.nsIn K mainGlobals "fits_name" = some (some (.ref f1)))
    (l1 : K.lookup f1 = some ⟨oc1, od1, .func (PySem.W.fnOf "fits_name" "fits_name" (defArgs sfits_name) (defBody sfits_name) (defScope sfits_name) .none kV1 dc1 pm1 an1 cd1 ct1), sl1⟩)
    (c1 : PySem.W.codeIn K cd1 "fits_name" = true)
    (k1 : PySem.W.keepIn K (.ref f1) = true)
    (a2 : PySem.W.nsIn K mainGlobals "fits_form" = some (some (.ref f2)))
    (l2 : K.lookup f2 = some ⟨oc2, od2, .func (PySem.W.fnOf "fits_form" "fits_form" (defArgs sfits_form) (defBody sfits_form) (defScope sfits_form) .none kV2 dc2 pm2 an2 cd2 ct2), sl2⟩)
    (c2 : PySem.W.codeIn K cd2 "fits_form" = true)
    (k2 : PySem.W.keepIn K (.ref f2) = true)
    (a3 : PySem.W.nsIn K mainGlobals "fits_ends" = some (some (.ref f3)))
    (l3 : K.lookup f3 = some ⟨oc3, od3, .func (PySem.W.fnOf "fits_ends" "fits_ends" (defArgs sfits_ends) (defBody sfits_ends) (defScope sfits_ends) .none kV3 dc3 pm3 an3 cd3 ct3), sl3⟩)
    (c3 : PySem.W.codeIn K cd3 "fits_ends" = true)
    (k3 : PySem.W.keepIn K (.ref f3) = true)
    (a4 : PySem.W.nsIn K mainGlobals "is_leaf" = some (some (.ref f4)))
    (l4 : K.lookup f4 = some ⟨oc4, od4, .func (PySem.W.fnOf "is_leaf" "is_leaf" (defArgs sis_leaf) (defBody sis_leaf) (defScope sis_leaf) .none kV4 dc4 pm4 an4 cd4 ct4), sl4⟩)
    (c4 : PySem.W.codeIn K cd4 "is_leaf" = true)
    (k4 : PySem.W.keepIn K (.ref f4) = true)
    (a5 : PySem.W.nsIn K mainGlobals "leaf_count" = some (some (.ref f5)))
    (l5 : K.lookup f5 = some ⟨oc5, od5, .func (PySem.W.fnOf "leaf_count" "leaf_count" (defArgs sleaf_count) (defBody sleaf_count) (defScope sleaf_count) .none kV5 dc5 pm5 an5 cd5 ct5), sl5⟩)
    (c5 : PySem.W.codeIn K cd5 "leaf_count" = true)
    (k5 : PySem.W.keepIn K (.ref f5) = true)
    (a6 : PySem.W.nsIn K mainGlobals "check_ends" = some (some (.ref f6)))
    (l6 : K.lookup f6 = some ⟨oc6, od6, .func (PySem.W.fnOf "check_ends" "check_ends" (defArgs scheck_ends) (defBody scheck_ends) (defScope scheck_ends) .none kV6 dc6 pm6 an6 cd6 ct6), sl6⟩)
    (c6 : PySem.W.codeIn K cd6 "check_ends" = true)
    (k6 : PySem.W.keepIn K (.ref f6) = true)
    (a7 : PySem.W.nsIn K mainGlobals "check_text" = some (some (.ref f7)))
    (l7 : K.lookup f7 = some ⟨oc7, od7, .func (PySem.W.fnOf "check_text" "check_text" (defArgs scheck_text) (defBody scheck_text) (defScope scheck_text) .none kV7 dc7 pm7 an7 cd7 ct7), sl7⟩)
    (c7 : PySem.W.codeIn K cd7 "check_text" = true)
    (k7 : PySem.W.keepIn K (.ref f7) = true)
    (a8 : PySem.W.nsIn K mainGlobals "take_leaf" = some (some (.ref f8)))
    (l8 : K.lookup f8 = some ⟨oc8, od8, .func (PySem.W.fnOf "take_leaf" "take_leaf" (defArgs stake_leaf) (defBody stake_leaf) (defScope stake_leaf) .none kV8 dc8 pm8 an8 cd8 ct8), sl8⟩)
    (c8 : PySem.W.codeIn K cd8 "take_leaf" = true)
    (k8 : PySem.W.keepIn K (.ref f8) = true)
    (a9 : PySem.W.nsIn K mainGlobals "take_sign" = some (some (.ref f9)))
    (l9 : K.lookup f9 = some ⟨oc9, od9, .func (PySem.W.fnOf "take_sign" "take_sign" (defArgs stake_sign) (defBody stake_sign) (defScope stake_sign) .none kV9 dc9 pm9 an9 cd9 ct9), sl9⟩)
    (c9 : PySem.W.codeIn K cd9 "take_sign" = true)
    (k9 : PySem.W.keepIn K (.ref f9) = true)
    (a10 : PySem.W.nsIn K mainGlobals "grouped" = some (some (.ref f10)))
    (l10 : K.lookup f10 = some ⟨oc10, od10, .func (PySem.W.fnOf "grouped" "grouped" (defArgs sgrouped) (defBody sgrouped) (defScope sgrouped) .none kV10 dc10 pm10 an10 cd10 ct10), sl10⟩)
    (c10 : PySem.W.codeIn K cd10 "grouped" = true)
    (k10 : PySem.W.keepIn K (.ref f10) = true)
    (a11 : PySem.W.nsIn K mainGlobals "take_halved" = some (some (.ref f11)))
    (l11 : K.lookup f11 = some ⟨oc11, od11, .func (PySem.W.fnOf "take_halved" "take_halved" (defArgs stake_halved) (defBody stake_halved) (defScope stake_halved) .none kV11 dc11 pm11 an11 cd11 ct11), sl11⟩)
    (c11 : PySem.W.codeIn K cd11 "take_halved" = true)
    (k11 : PySem.W.keepIn K (.ref f11) = true)
    (a12 : PySem.W.nsIn K mainGlobals "take_form" = some (some (.ref f12)))
    (l12 : K.lookup f12 = some ⟨oc12, od12, .func (PySem.W.fnOf "take_form" "take_form" (defArgs stake_form) (defBody stake_form) (defScope stake_form) .none kV12 dc12 pm12 an12 cd12 ct12), sl12⟩)
    (c12 : PySem.W.codeIn K cd12 "take_form" = true)
    (k12 : PySem.W.keepIn K (.ref f12) = true)
    (a13 : PySem.W.nsIn K mainGlobals "take_ends" = some (some (.ref f13)))
    (l13 : K.lookup f13 = some ⟨oc13, od13, .func (PySem.W.fnOf "take_ends" "take_ends" (defArgs stake_ends) (defBody stake_ends) (defScope stake_ends) .none kV13 dc13 pm13 an13 cd13 ct13), sl13⟩)
    (c13 : PySem.W.codeIn K cd13 "take_ends" = true)
    (k13 : PySem.W.keepIn K (.ref f13) = true)
    (a14 : PySem.W.nsIn K mainGlobals "told_form" = some (some (.ref f14)))
    (l14 : K.lookup f14 = some ⟨oc14, od14, .func (PySem.W.fnOf "told_form" "told_form" (defArgs stold_form) (defBody stold_form) (defScope stold_form) .none kV14 dc14 pm14 an14 cd14 ct14), sl14⟩)
    (c14 : PySem.W.codeIn K cd14 "told_form" = true)
    (k14 : PySem.W.keepIn K (.ref f14) = true)
    (a15 : PySem.W.nsIn K mainGlobals "told_ends" = some (some (.ref f15)))
    (l15 : K.lookup f15 = some ⟨oc15, od15, .func (PySem.W.fnOf "told_ends" "told_ends" (defArgs stold_ends) (defBody stold_ends) (defScope stold_ends) .none kV15 dc15 pm15 an15 cd15 ct15), sl15⟩)
    (c15 : PySem.W.codeIn K cd15 "told_ends" = true)
    (k15 : PySem.W.keepIn K (.ref f15) = true)
    (a16 : PySem.W.nsIn K mainGlobals "written" = some (some (.ref f16)))
    (l16 : K.lookup f16 = some ⟨oc16, od16, .func (PySem.W.fnOf "written" "written" (defArgs swritten) (defBody swritten) (defScope swritten) .none kV16 dc16 pm16 an16 cd16 ct16), sl16⟩)
    (c16 : PySem.W.codeIn K cd16 "written" = true)
    (k16 : PySem.W.keepIn K (.ref f16) = true)
    (a17 : PySem.W.nsIn K mainGlobals "written_half" = some (some (.ref f17)))
    (l17 : K.lookup f17 = some ⟨oc17, od17, .func (PySem.W.fnOf "written_half" "written_half" (defArgs swritten_half) (defBody swritten_half) (defScope swritten_half) .none kV17 dc17 pm17 an17 cd17 ct17), sl17⟩)
    (c17 : PySem.W.codeIn K cd17 "written_half" = true)
    (k17 : PySem.W.keepIn K (.ref f17) = true)
    (a18 : PySem.W.nsIn K mainGlobals "ends_text" = some (some (.ref f18)))
    (l18 : K.lookup f18 = some ⟨oc18, od18, .func (PySem.W.fnOf "ends_text" "ends_text" (defArgs sends_text) (defBody sends_text) (defScope sends_text) .none kV18 dc18 pm18 an18 cd18 ct18), sl18⟩)
    (c18 : PySem.W.codeIn K cd18 "ends_text" = true)
    (k18 : PySem.W.keepIn K (.ref f18) = true)
    (a19 : PySem.W.nsIn K mainGlobals "read_ends" = some (some (.ref f19)))
    (l19 : K.lookup f19 = some ⟨oc19, od19, .func (PySem.W.fnOf "read_ends" "read_ends" (defArgs sread_ends) (defBody sread_ends) (defScope sread_ends) .none kV19 dc19 pm19 an19 cd19 ct19), sl19⟩)
    (c19 : PySem.W.codeIn K cd19 "read_ends" = true)
    (k19 : PySem.W.keepIn K (.ref f19) = true)
    (a20 : PySem.W.nsIn K mainGlobals "_law_begin" = some (some (.ref f20)))
    (l20 : K.lookup f20 = some ⟨oc20, od20, .func (PySem.W.fnOf "_law_begin" "_law_begin" (defArgs s_law_begin) (defBody s_law_begin) (defScope s_law_begin) .none kV20 dc20 pm20 an20 cd20 ct20), sl20⟩)
    (c20 : PySem.W.codeIn K cd20 "_law_begin" = true)
    (k20 : PySem.W.keepIn K (.ref f20) = true)
    (a21 : PySem.W.nsIn K mainGlobals "_law_draw" = some (some (.ref f21)))
    (l21 : K.lookup f21 = some ⟨oc21, od21, .func (PySem.W.fnOf "_law_draw" "_law_draw" (defArgs s_law_draw) (defBody s_law_draw) (defScope s_law_draw) .none kV21 dc21 pm21 an21 cd21 ct21), sl21⟩)
    (c21 : PySem.W.codeIn K cd21 "_law_draw" = true)
    (k21 : PySem.W.keepIn K (.ref f21) = true)
    (a22 : PySem.W.nsIn K mainGlobals "_law_pick" = some (some (.ref f22)))
    (l22 : K.lookup f22 = some ⟨oc22, od22, .func (PySem.W.fnOf "_law_pick" "_law_pick" (defArgs s_law_pick) (defBody s_law_pick) (defScope s_law_pick) .none kV22 dc22 pm22 an22 cd22 ct22), sl22⟩)
    (c22 : PySem.W.codeIn K cd22 "_law_pick" = true)
    (k22 : PySem.W.keepIn K (.ref f22) = true)
    (a23 : PySem.W.nsIn K mainGlobals "_law_leaves" = some (some (.ref f23)))
    (l23 : K.lookup f23 = some ⟨oc23, od23, .func (PySem.W.fnOf "_law_leaves" "_law_leaves" (defArgs s_law_leaves) (defBody s_law_leaves) (defScope s_law_leaves) .none kV23 dc23 pm23 an23 cd23 ct23), sl23⟩)
    (c23 : PySem.W.codeIn K cd23 "_law_leaves" = true)
    (k23 : PySem.W.keepIn K (.ref f23) = true)
    (a24 : PySem.W.nsIn K mainGlobals "_law_depth" = some (some (.ref f24)))
    (l24 : K.lookup f24 = some ⟨oc24, od24, .func (PySem.W.fnOf "_law_depth" "_law_depth" (defArgs s_law_depth) (defBody s_law_depth) (defScope s_law_depth) .none kV24 dc24 pm24 an24 cd24 ct24), sl24⟩)
    (c24 : PySem.W.codeIn K cd24 "_law_depth" = true)
    (k24 : PySem.W.keepIn K (.ref f24) = true)
    (a25 : PySem.W.nsIn K mainGlobals "_law_form_text" = some (some (.ref f25)))
    (l25 : K.lookup f25 = some ⟨oc25, od25, .func (PySem.W.fnOf "_law_form_text" "_law_form_text" (defArgs s_law_form_text) (defBody s_law_form_text) (defScope s_law_form_text) .none kV25 dc25 pm25 an25 cd25 ct25), sl25⟩)
    (c25 : PySem.W.codeIn K cd25 "_law_form_text" = true)
    (k25 : PySem.W.keepIn K (.ref f25) = true)
    (a26 : PySem.W.nsIn K mainGlobals "_law_leaf_many" = some (some (.ref f26)))
    (l26 : K.lookup f26 = some ⟨oc26, od26, .func (PySem.W.fnOf "_law_leaf_many" "_law_leaf_many" (defArgs s_law_leaf_many) (defBody s_law_leaf_many) (defScope s_law_leaf_many) .none kV26 dc26 pm26 an26 cd26 ct26), sl26⟩)
    (c26 : PySem.W.codeIn K cd26 "_law_leaf_many" = true)
    (k26 : PySem.W.keepIn K (.ref f26) = true)
    (a27 : PySem.W.nsIn K mainGlobals "_law_same" = some (some (.ref f27)))
    (l27 : K.lookup f27 = some ⟨oc27, od27, .func (PySem.W.fnOf "_law_same" "_law_same" (defArgs s_law_same) (defBody s_law_same) (defScope s_law_same) .none kV27 dc27 pm27 an27 cd27 ct27), sl27⟩)
    (c27 : PySem.W.codeIn K cd27 "_law_same" = true)
    (k27 : PySem.W.keepIn K (.ref f27) = true)
    (a28 : PySem.W.nsIn K mainGlobals "_law_fault" = some (some (.ref f28)))
    (l28 : K.lookup f28 = some ⟨oc28, od28, .func (PySem.W.fnOf "_law_fault" "_law_fault" (defArgs s_law_fault) (defBody s_law_fault) (defScope s_law_fault) .none kV28 dc28 pm28 an28 cd28 ct28), sl28⟩)
    (c28 : PySem.W.codeIn K cd28 "_law_fault" = true)
    (k28 : PySem.W.keepIn K (.ref f28) = true)
    (a29 : PySem.W.nsIn K mainGlobals "_law_faults" = some (some (.ref f29)))
    (l29 : K.lookup f29 = some ⟨oc29, od29, .func (PySem.W.fnOf "_law_faults" "_law_faults" (defArgs s_law_faults) (defBody s_law_faults) (defScope s_law_faults) .none kV29 dc29 pm29 an29 cd29 ct29), sl29⟩)
    (c29 : PySem.W.codeIn K cd29 "_law_faults" = true)
    (k29 : PySem.W.keepIn K (.ref f29) = true)
    (a30 : PySem.W.nsIn K mainGlobals "_law_name" = some (some (.ref f30)))
    (l30 : K.lookup f30 = some ⟨oc30, od30, .func (PySem.W.fnOf "_law_name" "_law_name" (defArgs s_law_name) (defBody s_law_name) (defScope s_law_name) .none kV30 dc30 pm30 an30 cd30 ct30), sl30⟩)
    (c30 : PySem.W.codeIn K cd30 "_law_name" = true)
    (k30 : PySem.W.keepIn K (.ref f30) = true)
    (a31 : PySem.W.nsIn K mainGlobals "_law_names" = some (some (.ref f31)))
    (l31 : K.lookup f31 = some ⟨oc31, od31, .func (PySem.W.fnOf "_law_names" "_law_names" (defArgs s_law_names) (defBody s_law_names) (defScope s_law_names) .none kV31 dc31 pm31 an31 cd31 ct31), sl31⟩)
    (c31 : PySem.W.codeIn K cd31 "_law_names" = true)
    (k31 : PySem.W.keepIn K (.ref f31) = true)
    (a32 : PySem.W.nsIn K mainGlobals "_law_shape" = some (some (.ref f32)))
    (l32 : K.lookup f32 = some ⟨oc32, od32, .func (PySem.W.fnOf "_law_shape" "_law_shape" (defArgs s_law_shape) (defBody s_law_shape) (defScope s_law_shape) .none kV32 dc32 pm32 an32 cd32 ct32), sl32⟩)
    (c32 : PySem.W.codeIn K cd32 "_law_shape" = true)
    (k32 : PySem.W.keepIn K (.ref f32) = true)
    (a33 : PySem.W.nsIn K mainGlobals "_law_unforked" = some (some (.ref f33)))
    (l33 : K.lookup f33 = some ⟨oc33, od33, .func (PySem.W.fnOf "_law_unforked" "_law_unforked" (defArgs s_law_unforked) (defBody s_law_unforked) (defScope s_law_unforked) .none kV33 dc33 pm33 an33 cd33 ct33), sl33⟩)
    (c33 : PySem.W.codeIn K cd33 "_law_unforked" = true)
    (k33 : PySem.W.keepIn K (.ref f33) = true)
    (a34 : PySem.W.nsIn K mainGlobals "_law_some_ends" = some (some (.ref f34)))
    (l34 : K.lookup f34 = some ⟨oc34, od34, .func (PySem.W.fnOf "_law_some_ends" "_law_some_ends" (defArgs s_law_some_ends) (defBody s_law_some_ends) (defScope s_law_some_ends) .none kV34 dc34 pm34 an34 cd34 ct34), sl34⟩)
    (c34 : PySem.W.codeIn K cd34 "_law_some_ends" = true)
    (k34 : PySem.W.keepIn K (.ref f34) = true)
    (a35 : PySem.W.nsIn K mainGlobals "_law_is_name" = some (some (.ref f35)))
    (l35 : K.lookup f35 = some ⟨oc35, od35, .func (PySem.W.fnOf "_law_is_name" "_law_is_name" (defArgs s_law_is_name) (defBody s_law_is_name) (defScope s_law_is_name) .none kV35 dc35 pm35 an35 cd35 ct35), sl35⟩)
    (c35 : PySem.W.codeIn K cd35 "_law_is_name" = true)
    (k35 : PySem.W.keepIn K (.ref f35) = true)
    (a36 : PySem.W.nsIn K mainGlobals "_law_is_form" = some (some (.ref f36)))
    (l36 : K.lookup f36 = some ⟨oc36, od36, .func (PySem.W.fnOf "_law_is_form" "_law_is_form" (defArgs s_law_is_form) (defBody s_law_is_form) (defScope s_law_is_form) .none kV36 dc36 pm36 an36 cd36 ct36), sl36⟩)
    (c36 : PySem.W.codeIn K cd36 "_law_is_form" = true)
    (k36 : PySem.W.keepIn K (.ref f36) = true)
    (a37 : PySem.W.nsIn K mainGlobals "_law_bent_name" = some (some (.ref f37)))
    (l37 : K.lookup f37 = some ⟨oc37, od37, .func (PySem.W.fnOf "_law_bent_name" "_law_bent_name" (defArgs s_law_bent_name) (defBody s_law_bent_name) (defScope s_law_bent_name) .none kV37 dc37 pm37 an37 cd37 ct37), sl37⟩)
    (c37 : PySem.W.codeIn K cd37 "_law_bent_name" = true)
    (k37 : PySem.W.keepIn K (.ref f37) = true)
    (a38 : PySem.W.nsIn K mainGlobals "_law_bent" = some (some (.ref f38)))
    (l38 : K.lookup f38 = some ⟨oc38, od38, .func (PySem.W.fnOf "_law_bent" "_law_bent" (defArgs s_law_bent) (defBody s_law_bent) (defScope s_law_bent) .none kV38 dc38 pm38 an38 cd38 ct38), sl38⟩)
    (c38 : PySem.W.codeIn K cd38 "_law_bent" = true)
    (k38 : PySem.W.keepIn K (.ref f38) = true)
    (a39 : PySem.W.nsIn K mainGlobals "_law_deeper" = some (some (.ref f39)))
    (l39 : K.lookup f39 = some ⟨oc39, od39, .func (PySem.W.fnOf "_law_deeper" "_law_deeper" (defArgs s_law_deeper) (defBody s_law_deeper) (defScope s_law_deeper) .none kV39 dc39 pm39 an39 cd39 ct39), sl39⟩)
    (c39 : PySem.W.codeIn K cd39 "_law_deeper" = true)
    (k39 : PySem.W.keepIn K (.ref f39) = true)
    (a40 : PySem.W.nsIn K mainGlobals "_law_no_form" = some (some (.ref f40)))
    (l40 : K.lookup f40 = some ⟨oc40, od40, .func (PySem.W.fnOf "_law_no_form" "_law_no_form" (defArgs s_law_no_form) (defBody s_law_no_form) (defScope s_law_no_form) .none kV40 dc40 pm40 an40 cd40 ct40), sl40⟩)
    (c40 : PySem.W.codeIn K cd40 "_law_no_form" = true)
    (k40 : PySem.W.keepIn K (.ref f40) = true)
    (a41 : PySem.W.nsIn K mainGlobals "_law_no_ends" = some (some (.ref f41)))
    (l41 : K.lookup f41 = some ⟨oc41, od41, .func (PySem.W.fnOf "_law_no_ends" "_law_no_ends" (defArgs s_law_no_ends) (defBody s_law_no_ends) (defScope s_law_no_ends) .none kV41 dc41 pm41 an41 cd41 ct41), sl41⟩)
    (c41 : PySem.W.codeIn K cd41 "_law_no_ends" = true)
    (k41 : PySem.W.keepIn K (.ref f41) = true)
    (a42 : PySem.W.nsIn K mainGlobals "_law_tokens" = some (some (.ref f42)))
    (l42 : K.lookup f42 = some ⟨oc42, od42, .func (PySem.W.fnOf "_law_tokens" "_law_tokens" (defArgs s_law_tokens) (defBody s_law_tokens) (defScope s_law_tokens) .none kV42 dc42 pm42 an42 cd42 ct42), sl42⟩)
    (c42 : PySem.W.codeIn K cd42 "_law_tokens" = true)
    (k42 : PySem.W.keepIn K (.ref f42) = true)
    (a43 : PySem.W.nsIn K mainGlobals "_law_spaced" = some (some (.ref f43)))
    (l43 : K.lookup f43 = some ⟨oc43, od43, .func (PySem.W.fnOf "_law_spaced" "_law_spaced" (defArgs s_law_spaced) (defBody s_law_spaced) (defScope s_law_spaced) .none kV43 dc43 pm43 an43 cd43 ct43), sl43⟩)
    (c43 : PySem.W.codeIn K cd43 "_law_spaced" = true)
    (k43 : PySem.W.keepIn K (.ref f43) = true)
    (a44 : PySem.W.nsIn K mainGlobals "_law_ends_tokens" = some (some (.ref f44)))
    (l44 : K.lookup f44 = some ⟨oc44, od44, .func (PySem.W.fnOf "_law_ends_tokens" "_law_ends_tokens" (defArgs s_law_ends_tokens) (defBody s_law_ends_tokens) (defScope s_law_ends_tokens) .none kV44 dc44 pm44 an44 cd44 ct44), sl44⟩)
    (c44 : PySem.W.codeIn K cd44 "_law_ends_tokens" = true)
    (k44 : PySem.W.keepIn K (.ref f44) = true)
    (a45 : PySem.W.nsIn K mainGlobals "_law_longest" = some (some (.ref f45)))
    (l45 : K.lookup f45 = some ⟨oc45, od45, .func (PySem.W.fnOf "_law_longest" "_law_longest" (defArgs s_law_longest) (defBody s_law_longest) (defScope s_law_longest) .none kV45 dc45 pm45 an45 cd45 ct45), sl45⟩)
    (c45 : PySem.W.codeIn K cd45 "_law_longest" = true)
    (k45 : PySem.W.keepIn K (.ref f45) = true)
    (a46 : PySem.W.nsIn K mainGlobals "_law_folded" = some (some (.ref f46)))
    (l46 : K.lookup f46 = some ⟨oc46, od46, .func (PySem.W.fnOf "_law_folded" "_law_folded" (defArgs s_law_folded) (defBody s_law_folded) (defScope s_law_folded) .none kV46 dc46 pm46 an46 cd46 ct46), sl46⟩)
    (c46 : PySem.W.codeIn K cd46 "_law_folded" = true)
    (k46 : PySem.W.keepIn K (.ref f46) = true)
    (a47 : PySem.W.nsIn K mainGlobals "_law_read" = some (some (.ref f47)))
    (l47 : K.lookup f47 = some ⟨oc47, od47, .func (PySem.W.fnOf "_law_read" "_law_read" (defArgs s_law_read) (defBody s_law_read) (defScope s_law_read) .none kV47 dc47 pm47 an47 cd47 ct47), sl47⟩)
    (c47 : PySem.W.codeIn K cd47 "_law_read" = true)
    (k47 : PySem.W.keepIn K (.ref f47) = true)
    (a48 : PySem.W.nsIn K mainGlobals "_law_read_due" = some (some (.ref f48)))
    (l48 : K.lookup f48 = some ⟨oc48, od48, .func (PySem.W.fnOf "_law_read_due" "_law_read_due" (defArgs s_law_read_due) (defBody s_law_read_due) (defScope s_law_read_due) .none kV48 dc48 pm48 an48 cd48 ct48), sl48⟩)
    (c48 : PySem.W.codeIn K cd48 "_law_read_due" = true)
    (k48 : PySem.W.keepIn K (.ref f48) = true)
    (a49 : PySem.W.nsIn K mainGlobals "_law_ends_right" = some (some (.ref f49)))
    (l49 : K.lookup f49 = some ⟨oc49, od49, .func (PySem.W.fnOf "_law_ends_right" "_law_ends_right" (defArgs s_law_ends_right) (defBody s_law_ends_right) (defScope s_law_ends_right) .none kV49 dc49 pm49 an49 cd49 ct49), sl49⟩)
    (c49 : PySem.W.codeIn K cd49 "_law_ends_right" = true)
    (k49 : PySem.W.keepIn K (.ref f49) = true)
    (a50 : PySem.W.nsIn K mainGlobals "_law_beyond" = some (some (.ref f50)))
    (l50 : K.lookup f50 = some ⟨oc50, od50, .func (PySem.W.fnOf "_law_beyond" "_law_beyond" (defArgs s_law_beyond) (defBody s_law_beyond) (defScope s_law_beyond) .none kV50 dc50 pm50 an50 (.ref cc1) ct50), sl50⟩)
    (c50 : PySem.W.codeIn K (.ref cc1) "_law_beyond" = true)
    (k50 : PySem.W.keepIn K (.ref f50) = true)
    (a51 : PySem.W.nsIn K mainGlobals "_law_refuses" = some (some (.ref f51)))
    (l51 : K.lookup f51 = some ⟨oc51, od51, .func (PySem.W.fnOf "_law_refuses" "_law_refuses" (defArgs s_law_refuses) (defBody s_law_refuses) (defScope s_law_refuses) .none kV51 dc51 pm51 an51 (.ref cc2) ct51), sl51⟩)
    (c51 : PySem.W.codeIn K (.ref cc2) "_law_refuses" = true)
    (k51 : PySem.W.keepIn K (.ref f51) = true)
    (a52 : PySem.W.nsIn K mainGlobals "law" = some (some (.ref f52)))
    (l52 : K.lookup f52 = some ⟨oc52, od52, .func (PySem.W.fnOf "law" "law" (defArgs slaw) (defBody slaw) (defScope slaw) .none kV52 dc52 pm52 an52 cd52 ct52), sl52⟩)
    (c52 : PySem.W.codeIn K cd52 "law" = true)
    (k52 : PySem.W.keepIn K (.ref f52) = true)
    (tN1 : K.lookup Pt1 = none)
    (tC1 : PySem.W.codeHdIn K cc1 Pt1 = true)
    (tN2 : K.lookup Pt2 = none)
    (tC2 : PySem.W.codeHdIn K cc2 Pt2 = true)
    (gCR : PySem.W.nsIn K mainGlobals "Reader" = some (some (.ref CR)))
    (pgCR : PySem.W.plainGet K CR Str.empty = true)
    (hdCR : PySem.W.hasDictIn K CR = true)
    (poCR : PySem.W.plainOver K CR = true)
    (saCR : PySem.W.findIn K (.ref CR) "__setattr__" = some (some (.builtin "object.__setattr__")))
    (mkCR : PySem.W.makesIn K CR = true)
    (kpCR : PySem.W.keepIn K (.ref CR) = true)
    (gCW : PySem.W.nsIn K mainGlobals "Written" = some (some (.ref CW)))
    (pgCW : PySem.W.plainGet K CW Str.empty = true)
    (hdCW : PySem.W.hasDictIn K CW = true)
    (poCW : PySem.W.plainOver K CW = true)
    (saCW : PySem.W.findIn K (.ref CW) "__setattr__" = some (some (.builtin "object.__setattr__")))
    (mkCW : PySem.W.makesIn K CW = true)
    (kpCW : PySem.W.keepIn K (.ref CW) = true)
    (nR0 : PySem.W.findIn K (.ref CR) "at" = some none)
    (nR1 : PySem.W.findIn K (.ref CR) "text" = some none)
    (nW0 : PySem.W.findIn K (.ref CW) "form" = some none)
    (nW1 : PySem.W.findIn K (.ref CW) "depth" = some none)
    (nW2 : PySem.W.findIn K (.ref CW) "leaves" = some none)
    (gEB : PySem.W.nsIn K mainGlobals "BadValue" = some (some (.ref EB)))
    (gaEB : PySem.W.findIn K (.ref EB) "__getattribute__" = some (some (.builtin "BaseException.__getattribute__")))
    (ggEB : PySem.W.findIn K (.ref EB) "__getattr__" = some none)
    (exEB : PySem.W.subIn K (.ref EB) (.type "BaseException") = some true)
    (hdEB : PySem.W.hasDictIn K EB = true)
    (noEB : PySem.W.findIn K (.ref EB) "value" = some none)
    (isEB : PySem.W.isClsIn K EB = true)
    (tyEB : PySem.W.typeIn K (.ref EB) = some (.type "type"))
    (gEN : PySem.W.nsIn K mainGlobals "NotAText" = some (some (.ref EN)))
    (gaEN : PySem.W.findIn K (.ref EN) "__getattribute__" = some (some (.builtin "BaseException.__getattribute__")))
    (ggEN : PySem.W.findIn K (.ref EN) "__getattr__" = some none)
    (exEN : PySem.W.subIn K (.ref EN) (.type "BaseException") = some true)
    (hdEN : PySem.W.hasDictIn K EN = true)
    (noEN : PySem.W.findIn K (.ref EN) "at" = some none)
    (isEN : PySem.W.isClsIn K EN = true)
    (tyEN : PySem.W.typeIn K (.ref EN) = some (.type "type"))
    (gED : PySem.W.nsIn K mainGlobals "TooDeep" = some (some (.ref ED)))
    (gaED : PySem.W.findIn K (.ref ED) "__getattribute__" = some (some (.builtin "BaseException.__getattribute__")))
    (ggED : PySem.W.findIn K (.ref ED) "__getattr__" = some none)
    (exED : PySem.W.subIn K (.ref ED) (.type "BaseException") = some true)
    (hdED : PySem.W.hasDictIn K ED = true)
    (noED : PySem.W.findIn K (.ref ED) "most" = some none)
    (isED : PySem.W.isClsIn K ED = true)
    (tyED : PySem.W.typeIn K (.ref ED) = some (.type "type"))
    (gEM : PySem.W.nsIn K mainGlobals "TooMany" = some (some (.ref EM)))
    (gaEM : PySem.W.findIn K (.ref EM) "__getattribute__" = some (some (.builtin "BaseException.__getattribute__")))
    (ggEM : PySem.W.findIn K (.ref EM) "__getattr__" = some none)
    (exEM : PySem.W.subIn K (.ref EM) (.type "BaseException") = some true)
    (hdEM : PySem.W.hasDictIn K EM = true)
    (noEM : PySem.W.findIn K (.ref EM) "most" = some none)
    (isEM : PySem.W.isClsIn K EM = true)
    (tyEM : PySem.W.typeIn K (.ref EM) = some (.type "type"))
    (sBB : PySem.W.subIn K (.ref EB) (.ref EB) = some true)
    (sNB : PySem.W.subIn K (.ref EN) (.ref EB) = some false)
    (sNN : PySem.W.subIn K (.ref EN) (.ref EN) = some true)
    (sDB : PySem.W.subIn K (.ref ED) (.ref EB) = some false)
    (sDN : PySem.W.subIn K (.ref ED) (.ref EN) = some false)
    (sDD : PySem.W.subIn K (.ref ED) (.ref ED) = some true)
    (sMB : PySem.W.subIn K (.ref EM) (.ref EB) = some false)
    (sMN : PySem.W.subIn K (.ref EM) (.ref EN) = some false)
    (sMD : PySem.W.subIn K (.ref EM) (.ref ED) = some false)
    (sMM : PySem.W.subIn K (.ref EM) (.ref EM) = some true)
    (xB : K.lookup EB = some (excClassObj nmB qB EB NB bsB bmB true snB subB abB colB ddB mz0B mz1B mz2B mz3B mz5B "ValueError.__new__"))
    (rB : PySem.HandSPX.refsVE bmB = true)
    (saB : PySem.W.findIn K (.ref EB) "__setattr__" = some (some (.builtin "object.__setattr__")))
    (kB : PySem.W.keepIn K (.ref EB) = true)
    (xD : K.lookup ED = some (excClassObj nmD qD ED ND bsD bmD true snD subD abD colD ddD mz0D mz1D mz2D mz3D mz5D "ValueError.__new__"))
    (rD : PySem.HandSPX.refsVE bmD = true)
    (saD : PySem.W.findIn K (.ref ED) "__setattr__" = some (some (.builtin "object.__setattr__")))
    (kD : PySem.W.keepIn K (.ref ED) = true)
    (xM : K.lookup EM = some (excClassObj nmM qM EM NM bsM bmM true snM subM abM colM ddM mz0M mz1M mz2M mz3M mz5M "ValueError.__new__"))
    (rM : PySem.HandSPX.refsVE bmM = true)
    (saM : PySem.W.findIn K (.ref EM) "__setattr__" = some (some (.builtin "object.__setattr__")))
    (kM : PySem.W.keepIn K (.ref EM) = true)
    (a53 : PySem.W.findIn K (.ref CR) "__init__" = some (some (.ref f53)))
    (i53 : PySem.W.isFn K (.ref f53) = true)
    (l53 : K.lookup f53 = some ⟨oc53, od53, .func (PySem.W.fnOf "__init__" "Reader.__init__" (defArgs sRd0) (defBody sRd0) (defScope sRd0) .none kV53 dc53 pm53 an53 cd53 ct53), sl53⟩)
    (c53 : PySem.W.codeIn K cd53 "Reader.__init__" = true)
    (k53 : PySem.W.keepIn K (.ref f53) = true)
    (a54 : PySem.W.findIn K (.ref CW) "__init__" = some (some (.ref f54)))
    (i54 : PySem.W.isFn K (.ref f54) = true)
    (l54 : K.lookup f54 = some ⟨oc54, od54, .func (PySem.W.fnOf "__init__" "Written.__init__" (defArgs sWr0) (defBody sWr0) (defScope sWr0) .none kV54 dc54 pm54 an54 cd54 ct54), sl54⟩)
    (c54 : PySem.W.codeIn K cd54 "Written.__init__" = true)
    (k54 : PySem.W.keepIn K (.ref f54) = true)
    (a55 : PySem.W.findIn K (.ref CR) "sees" = some (some (.ref f55)))
    (i55 : PySem.W.isFn K (.ref f55) = true)
    (l55 : K.lookup f55 = some ⟨oc55, od55, .func (PySem.W.fnOf "sees" "Reader.sees" (defArgs sRd1) (defBody sRd1) (defScope sRd1) .none kV55 dc55 pm55 an55 cd55 ct55), sl55⟩)
    (c55 : PySem.W.codeIn K cd55 "Reader.sees" = true)
    (k55 : PySem.W.keepIn K (.ref f55) = true)
    (a56 : PySem.W.findIn K (.ref CR) "is_done" = some (some (.ref f56)))
    (i56 : PySem.W.isFn K (.ref f56) = true)
    (l56 : K.lookup f56 = some ⟨oc56, od56, .func (PySem.W.fnOf "is_done" "Reader.is_done" (defArgs sRd2) (defBody sRd2) (defScope sRd2) .none kV56 dc56 pm56 an56 cd56 ct56), sl56⟩)
    (c56 : PySem.W.codeIn K cd56 "Reader.is_done" = true)
    (k56 : PySem.W.keepIn K (.ref f56) = true)
    (a57 : PySem.W.findIn K (.ref CR) "finish" = some (some (.ref f57)))
    (i57 : PySem.W.isFn K (.ref f57) = true)
    (l57 : K.lookup f57 = some ⟨oc57, od57, .func (PySem.W.fnOf "finish" "Reader.finish" (defArgs sRd3) (defBody sRd3) (defScope sRd3) .none kV57 dc57 pm57 an57 cd57 ct57), sl57⟩)
    (c57 : PySem.W.codeIn K cd57 "Reader.finish" = true)
    (k57 : PySem.W.keepIn K (.ref f57) = true)
    (a58 : PySem.W.findIn K (.ref CR) "take" = some (some (.ref f58)))
    (i58 : PySem.W.isFn K (.ref f58) = true)
    (l58 : K.lookup f58 = some ⟨oc58, od58, .func (PySem.W.fnOf "take" "Reader.take" (defArgs sRd4) (defBody sRd4) (defScope sRd4) .none kV58 dc58 pm58 an58 cd58 ct58), sl58⟩)
    (c58 : PySem.W.codeIn K cd58 "Reader.take" = true)
    (k58 : PySem.W.keepIn K (.ref f58) = true)
    (a59 : PySem.W.findIn K (.ref CR) "skip_spaces" = some (some (.ref f59)))
    (i59 : PySem.W.isFn K (.ref f59) = true)
    (l59 : K.lookup f59 = some ⟨oc59, od59, .func (PySem.W.fnOf "skip_spaces" "Reader.skip_spaces" (defArgs sRd5) (defBody sRd5) (defScope sRd5) .none kV59 dc59 pm59 an59 cd59 ct59), sl59⟩)
    (c59 : PySem.W.codeIn K cd59 "Reader.skip_spaces" = true)
    (k59 : PySem.W.keepIn K (.ref f59) = true)
    (a60 : PySem.W.findIn K (.ref CR) "take_name" = some (some (.ref f60)))
    (i60 : PySem.W.isFn K (.ref f60) = true)
    (l60 : K.lookup f60 = some ⟨oc60, od60, .func (PySem.W.fnOf "take_name" "Reader.take_name" (defArgs sRd9) (defBody sRd9) (defScope sRd9) .none kV60 dc60 pm60 an60 cd60 ct60), sl60⟩)
    (c60 : PySem.W.codeIn K cd60 "Reader.take_name" = true)
    (k60 : PySem.W.keepIn K (.ref f60) = true)
    (a61 : PySem.W.findIn K (.ref EB) "__init__" = some (some (.ref f61)))
    (i61 : PySem.W.typeIn K (.ref f61) = some (.type "function"))
    (l61 : K.lookup f61 = some ⟨oc61, od61, .func (PySem.W.fnOf "__init__" "BadValue.__init__" (defArgs (meth 3 0)) (defBody (meth 3 0)) (defScope (meth 3 0)) .none kV61 dc61 pm61 an61 cd61 ct61), sl61⟩)
    (c61 : PySem.W.codeIn K cd61 "BadValue.__init__" = true)
    (k61 : PySem.W.keepIn K (.ref f61) = true)
    (a62 : PySem.W.findIn K (.ref ED) "__init__" = some (some (.ref f62)))
    (i62 : PySem.W.typeIn K (.ref f62) = some (.type "function"))
    (l62 : K.lookup f62 = some ⟨oc62, od62, .func (PySem.W.fnOf "__init__" "TooDeep.__init__" (defArgs (meth 4 0)) (defBody (meth 4 0)) (defScope (meth 4 0)) .none kV62 dc62 pm62 an62 cd62 ct62), sl62⟩)
    (c62 : PySem.W.codeIn K cd62 "TooDeep.__init__" = true)
    (k62 : PySem.W.keepIn K (.ref f62) = true)
    (a63 : PySem.W.findIn K (.ref EM) "__init__" = some (some (.ref f63)))
    (i63 : PySem.W.typeIn K (.ref f63) = some (.type "function"))
    (l63 : K.lookup f63 = some ⟨oc63, od63, .func (PySem.W.fnOf "__init__" "TooMany.__init__" (defArgs (meth 5 0)) (defBody (meth 5 0)) (defScope (meth 5 0)) .none kV63 dc63 pm63 an63 cd63 ct63), sl63⟩)
    (c63 : PySem.W.codeIn K cd63 "TooMany.__init__" = true)
    (k63 : PySem.W.keepIn K (.ref f63) = true)
    (z1 : PySem.W.nsIn K mainGlobals "isinstance" = some none)
    (z2 : PySem.W.nsIn K mainGlobals "len" = some none)
    (z3 : PySem.W.nsIn K mainGlobals "all" = some none)
    (z4 : PySem.W.nsIn K mainGlobals "str" = some none)
    (z5 : PySem.W.nsIn K mainGlobals "tuple" = some none)
    (z6 : PySem.W.nsIn K mainGlobals "int" = some none)
    (z7 : PySem.W.nsIn K mainGlobals "list" = some none)
    (z8 : PySem.W.nsIn K mainGlobals "abs" = some none)
    (z9 : PySem.W.nsIn K mainGlobals "max" = some none)
    (z10 : PySem.W.nsIn K mainGlobals "min" = some none)
    (z11 : PySem.W.nsIn K mainGlobals "range" = some none)
    (z12 : PySem.W.nsIn K mainGlobals "bool" = some none)
    (z13 : PySem.W.nsIn K mainGlobals "zip" = some none)
    (z14 : PySem.W.nsIn K mainGlobals "dict" = some none)
    (z15 : PySem.W.nsIn K mainGlobals "enumerate" = some none)
    (z16 : PySem.W.nsIn K mainGlobals "sum" = some none)
    (y1 : PySem.W.nsIn K mainGlobals "LETTERS" = some (some (.str zLetters tl)))
    (y2 : PySem.W.nsIn K mainGlobals "DIGITS" = some (some (.str zDigits td)))
    (y3 : PySem.W.nsIn K mainGlobals "LONGEST_NAME" = some (some (.int 12 tn)))
    (y4 : PySem.W.nsIn K mainGlobals "DEEPEST" = some (some (.int 12 tp)))
    (y5 : PySem.W.nsIn K mainGlobals "LEAF_WORDS" = some (some (.ref aL)))
    (y6 : K.lookup aL = some ⟨.type "tuple", odL, .seq #[.str (Str.ofString "good") u1, .str (Str.ofString "counter") u2] nL, slL⟩)
    (y7 : PySem.W.nsIn K mainGlobals "HALVED_WORDS" = some (some (.ref aH)))
    (y8 : K.lookup aH = some ⟨.type "tuple", odH, .seq #[.str (Str.ofString "both") u3, .str (Str.ofString "between") u4, .str (Str.ofString "offered") u5, .str (Str.ofString "chosen") u6] nH, slH⟩)
    (y10 : PySem.W.nsIn K mainGlobals "FORM_WORDS" = some (some (.ref aS)))
    (y11 : K.lookup aS = some ⟨.type "dict", none, .dict esS nS, #[]⟩)
    (y12 : PySem.W.KeysLit w.params esS.toList)
    (y16 : Paired (fun (e : DictEntry) (kv : Key × V) => ∃ x t, e.key = .str x t ∧ kv.1 = .inr x ∧ RelV kv.2 e.val) esS.toList wordsF)
    (y17 : (aS == sysModules) = false)
    (y18 : PySem.W.nsIn K mainGlobals "MOST_LEAVES" = some (some (.int 40 tm)))
    (y13 : PySem.W.nsIn K mainGlobals "WORD_SIGNS" = some (some (.ref aW)))
    (y14 : K.lookup aW = some ⟨.type "dict", none, .dict esW nW, #[]⟩)
    (y15 : PySem.W.KeysLit w.params esW.toList)
    (e5 : PySem.W.nsIn K aW "both" = some (some (.str (Str.ofString "*") v5)))
    (e6 : PySem.W.nsIn K aW "between" = some (some (.str (Str.ofString "|") v6)))
    (e7 : PySem.W.nsIn K aW "offered" = some (some (.str (Str.ofString "&") v7)))
    (e8 : PySem.W.nsIn K aW "chosen" = some (some (.str (Str.ofString "+") v8))) :
    LamX.LawAtS l w K CX0 106 63 "_law_script" mg fa h := by
  have e := hfa.symm.trans (PySem.W.mg_of X G a52)
  cases e
  have T : Txt K mg := {
    isinstance := PySem.W.mg_none_of X G z1, len := PySem.W.mg_none_of X G z2, all := PySem.W.mg_none_of X G z3, str := PySem.W.mg_none_of X G z4, tuple := PySem.W.mg_none_of X G z5, int := PySem.W.mg_none_of X G z6
    list := PySem.W.mg_none_of X G z7, abs := PySem.W.mg_none_of X G z8, max := PySem.W.mg_none_of X G z9, min := PySem.W.mg_none_of X G z10, range := PySem.W.mg_none_of X G z11, bool := PySem.W.mg_none_of X G z12
    LETTERS := ⟨_, PySem.W.mg_of X G y1, ⟨_, rfl⟩⟩, DIGITS := ⟨_, PySem.W.mg_of X G y2, ⟨_, rfl⟩⟩, LONGEST_NAME := ⟨_, PySem.W.mg_of X G y3, ⟨_, rfl⟩⟩, DEEPEST := ⟨_, PySem.W.mg_of X G y4, ⟨_, rfl⟩⟩
    aLeaf := aL, LEAF_WORDS := ⟨_, PySem.W.mg_of X G y5, rfl⟩, sLeaf := fun H => .inr ⟨_, _, _, y6, rfl, rfl, (by show 2 ≤ sizeLine; decide), .cons ⟨_, rfl⟩ (.cons ⟨_, rfl⟩ .nil)⟩
    aHalf := aH, HALVED_WORDS := ⟨_, PySem.W.mg_of X G y7, rfl⟩, sHalf := fun H => .inr ⟨_, _, _, y8, rfl, rfl, (by show 4 ≤ sizeLine; decide), .cons ⟨_, rfl⟩ (.cons ⟨_, rfl⟩ (.cons ⟨_, rfl⟩ (.cons ⟨_, rfl⟩ .nil)))⟩ }
  have T7 : Txt7 K mg := { T with zip := PySem.W.mg_none_of X G z13, enumerate := PySem.W.mg_none_of X G z15, MOST_LEAVES := ⟨_, PySem.W.mg_of X G y18, ⟨_, rfl⟩⟩ }
  have TS : TxtSum K mg := ⟨PySem.W.mg_none_of X G z16⟩
  have YW : TxtW K mg w := {
    max := T.max, DEEPEST := T.DEEPEST, aFW := aS, FORM_WORDS := ⟨_, PySem.W.mg_of X G y10, rfl⟩
    dFW := ⟨esS, nS, y11, y12, y17, y16, (by decide +kernel), (by show 5 ≤ sizeLine; decide)⟩, dict := PySem.W.mg_none_of X G z14 }
  have YS : TxtS K mg w := {
    aWS := aW, WORD_SIGNS := ⟨_, PySem.W.mg_of X G y13, rfl⟩
    kWS := fun s => by
      cases s
      · exact ⟨esW, nW, _, y14, y15, e5, ⟨_, rfl⟩⟩
      · exact ⟨esW, nW, _, y14, y15, e6, ⟨_, rfl⟩⟩
      · exact ⟨esW, nW, _, y14, y15, e7, ⟨_, rfl⟩⟩
      · exact ⟨esW, nW, _, y14, y15, e8, ⟨_, rfl⟩⟩ }
  let TE : ErrT K mg := {
    B := EB, N := EN, D := ED, M := EM, gB := PySem.W.mg_of X G gEB, gN := PySem.W.mg_of X G gEN, gD := PySem.W.mg_of X G gED, gM := PySem.W.mg_of X G gEM
    xB := ⟨gaEB, ggEB, exEB, hdEB⟩, xN := ⟨gaEN, ggEN, exEN, hdEN⟩, xD := ⟨gaED, ggED, exED, hdED⟩, xM := ⟨gaEM, ggEM, exEM, hdEM⟩
    nB := noEB, nN := noEN, nD := noED, nM := noEM
    BB := exm_two exEB isEB tyEB sBB, NB := exm_two exEB isEB tyEB sNB, NN := exm_two exEN isEN tyEN sNN, DB := exm_two exEB isEB tyEB sDB, DN := exm_two exEN isEN tyEN sDN, DD := exm_two exED isED tyED sDD
    MB := exm_two exEB isEB tyEB sMB, MN := exm_two exEN isEN tyEN sMN, MD := exm_two exED isED tyED sMD, MM := exm_two exEM isEM tyEM sMM }
  have F1 := fun_mk (st := sfits_name) l1 c1 k1
  have b1 := F1.binds (ps := Pfits_name) fun _ _ _ _ _ _ us hl => match us, hl with | [_], _ => rfl
  have m1 := PySem.W.mg_of X G a1
  have F2 := fun_mk (st := sfits_form) l2 c2 k2
  have b2 := F2.binds (ps := Pfits_form) fun _ _ _ _ _ _ us hl => match us, hl with | [_, _], _ => rfl
  have m2 := PySem.W.mg_of X G a2
  have F3 := fun_mk (st := sfits_ends) l3 c3 k3
  have b3 := F3.binds (ps := Pfits_ends) fun _ _ _ _ _ _ us hl => match us, hl with | [_], _ => rfl
  have m3 := PySem.W.mg_of X G a3
  have F4 := fun_mk (st := sis_leaf) l4 c4 k4
  have b4 := F4.binds (ps := Pis_leaf) fun _ _ _ _ _ _ us hl => match us, hl with | [_], _ => rfl
  have m4 := PySem.W.mg_of X G a4
  have F5 := fun_mk (st := sleaf_count) l5 c5 k5
  have b5 := F5.binds (ps := Pleaf_count) fun _ _ _ _ _ _ us hl => match us, hl with | [_], _ => rfl
  have m5 := PySem.W.mg_of X G a5
  have F6 := fun_mk (st := scheck_ends) l6 c6 k6
  have b6 := F6.binds (ps := Pcheck_ends) fun _ _ _ _ _ _ us hl => match us, hl with | [_], _ => rfl
  have m6 := PySem.W.mg_of X G a6
  have F7 := fun_mk (st := scheck_text) l7 c7 k7
  have b7 := F7.binds (ps := Pcheck_text) fun _ _ _ _ _ _ us hl => match us, hl with | [_], _ => rfl
  have m7 := PySem.W.mg_of X G a7
  have F8 := fun_mk (st := stake_leaf) l8 c8 k8
  have b8 := F8.binds (ps := Ptake_leaf) fun _ _ _ _ _ _ us hl => match us, hl with | [_, _], _ => rfl
  have m8 := PySem.W.mg_of X G a8
  have F9 := fun_mk (st := stake_sign) l9 c9 k9
  have b9 := F9.binds (ps := Ptake_sign) fun _ _ _ _ _ _ us hl => match us, hl with | [_, _, _], _ => rfl
  have m9 := PySem.W.mg_of X G a9
  have F10 := fun_mk (st := sgrouped) l10 c10 k10
  have b10 := F10.binds (ps := Pgrouped) fun _ _ _ _ _ _ us hl => match us, hl with | [_, _], _ => rfl
  have m10 := PySem.W.mg_of X G a10
  have F11 := fun_mk (st := stake_halved) l11 c11 k11
  have b11 := F11.binds (ps := Ptake_halved) fun _ _ _ _ _ _ us hl => match us, hl with | [_, _], _ => rfl
  have m11 := PySem.W.mg_of X G a11
  have F12 := fun_mk (st := stake_form) l12 c12 k12
  have b12 := F12.binds (ps := Ptake_form) fun _ _ _ _ _ _ us hl => match us, hl with | [_], _ => rfl
  have m12 := PySem.W.mg_of X G a12
  have F13 := fun_mk (st := stake_ends) l13 c13 k13
  have b13 := F13.binds (ps := Ptake_ends) fun _ _ _ _ _ _ us hl => match us, hl with | [_], _ => rfl
  have m13 := PySem.W.mg_of X G a13
  have F14 := fun_mk (st := stold_form) l14 c14 k14
  have b14 := F14.binds (ps := Ptold_form) fun _ _ _ _ _ _ us hl => match us, hl with | [_], _ => rfl
  have m14 := PySem.W.mg_of X G a14
  have F15 := fun_mk (st := stold_ends) l15 c15 k15
  have b15 := F15.binds (ps := Ptold_ends) fun _ _ _ _ _ _ us hl => match us, hl with | [_], _ => rfl
  have m15 := PySem.W.mg_of X G a15
  have F16 := fun_mk (st := swritten) l16 c16 k16
  have b16 := F16.binds (ps := Pwritten) fun _ _ _ _ _ _ us hl => match us, hl with | [_], _ => rfl
  have m16 := PySem.W.mg_of X G a16
  have F17 := fun_mk (st := swritten_half) l17 c17 k17
  have b17 := F17.binds (ps := Pwritten_half) fun _ _ _ _ _ _ us hl => match us, hl with | [_], _ => rfl
  have m17 := PySem.W.mg_of X G a17
  have F18 := fun_mk (st := sends_text) l18 c18 k18
  have b18 := F18.binds (ps := Pends_text) fun _ _ _ _ _ _ us hl => match us, hl with | [_], _ => rfl
  have m18 := PySem.W.mg_of X G a18
  have F19 := fun_mk (st := sread_ends) l19 c19 k19
  have b19 := F19.binds (ps := Pread_ends) fun _ _ _ _ _ _ us hl => match us, hl with | [_], _ => rfl
  have m19 := PySem.W.mg_of X G a19
  have F20 := fun_mk (st := s_law_begin) l20 c20 k20
  have b20 := F20.binds (ps := P_law_begin) fun _ _ _ _ _ _ us hl => match us, hl with | [_], _ => rfl
  have m20 := PySem.W.mg_of X G a20
  have F21 := fun_mk (st := s_law_draw) l21 c21 k21
  have b21 := F21.binds (ps := P_law_draw) fun _ _ _ _ _ _ us hl => match us, hl with | [_, _], _ => rfl
  have m21 := PySem.W.mg_of X G a21
  have F22 := fun_mk (st := s_law_pick) l22 c22 k22
  have b22 := F22.binds (ps := P_law_pick) fun _ _ _ _ _ _ us hl => match us, hl with | [_, _], _ => rfl
  have m22 := PySem.W.mg_of X G a22
  have F23 := fun_mk (st := s_law_leaves) l23 c23 k23
  have b23 := F23.binds (ps := P_law_leaves) fun _ _ _ _ _ _ us hl => match us, hl with | [_], _ => rfl
  have m23 := PySem.W.mg_of X G a23
  have F24 := fun_mk (st := s_law_depth) l24 c24 k24
  have b24 := F24.binds (ps := P_law_depth) fun _ _ _ _ _ _ us hl => match us, hl with | [_], _ => rfl
  have m24 := PySem.W.mg_of X G a24
  have F25 := fun_mk (st := s_law_form_text) l25 c25 k25
  have b25 := F25.binds (ps := P_law_form_text) fun _ _ _ _ _ _ us hl => match us, hl with | [_, _], _ => rfl
  have m25 := PySem.W.mg_of X G a25
  have F26 := fun_mk (st := s_law_leaf_many) l26 c26 k26
  have b26 := F26.binds (ps := P_law_leaf_many) fun _ _ _ _ _ _ us hl => match us, hl with | [_], _ => rfl
  have m26 := PySem.W.mg_of X G a26
  have F27 := fun_mk (st := s_law_same) l27 c27 k27
  have b27 := F27.binds (ps := P_law_same) fun _ _ _ _ _ _ us hl => match us, hl with | [_, _], _ => rfl
  have m27 := PySem.W.mg_of X G a27
  have F28 := fun_mk (st := s_law_fault) l28 c28 k28
  have b28 := F28.binds (ps := P_law_fault) fun _ _ _ _ _ _ us hl => match us, hl with | [_], _ => rfl
  have m28 := PySem.W.mg_of X G a28
  have F29 := fun_mk (st := s_law_faults) l29 c29 k29
  have b29 := F29.binds (ps := P_law_faults) fun _ _ _ _ _ _ us hl => match us, hl with | [_, _], _ => rfl
  have m29 := PySem.W.mg_of X G a29
  have F30 := fun_mk (st := s_law_name) l30 c30 k30
  have b30 := F30.binds (ps := P_law_name) fun _ _ _ _ _ _ us hl => match us, hl with | [_], _ => rfl
  have m30 := PySem.W.mg_of X G a30
  have F31 := fun_mk (st := s_law_names) l31 c31 k31
  have b31 := F31.binds (ps := P_law_names) fun _ _ _ _ _ _ us hl => match us, hl with | [_, _], _ => rfl
  have m31 := PySem.W.mg_of X G a31
  have F32 := fun_mk (st := s_law_shape) l32 c32 k32
  have b32 := F32.binds (ps := P_law_shape) fun _ _ _ _ _ _ us hl => match us, hl with | [_, _, _, _], _ => rfl
  have m32 := PySem.W.mg_of X G a32
  have F33 := fun_mk (st := s_law_unforked) l33 c33 k33
  have b33 := F33.binds (ps := P_law_unforked) fun _ _ _ _ _ _ us hl => match us, hl with | [_, _], _ => rfl
  have m33 := PySem.W.mg_of X G a33
  have F34 := fun_mk (st := s_law_some_ends) l34 c34 k34
  have b34 := F34.binds (ps := P_law_some_ends) fun _ _ _ _ _ _ us hl => match us, hl with | [_, _, _], _ => rfl
  have m34 := PySem.W.mg_of X G a34
  have F35 := fun_mk (st := s_law_is_name) l35 c35 k35
  have b35 := F35.binds (ps := P_law_is_name) fun _ _ _ _ _ _ us hl => match us, hl with | [_], _ => rfl
  have m35 := PySem.W.mg_of X G a35
  have F36 := fun_mk (st := s_law_is_form) l36 c36 k36
  have b36 := F36.binds (ps := P_law_is_form) fun _ _ _ _ _ _ us hl => match us, hl with | [_, _], _ => rfl
  have m36 := PySem.W.mg_of X G a36
  have F37 := fun_mk (st := s_law_bent_name) l37 c37 k37
  have b37 := F37.binds (ps := P_law_bent_name) fun _ _ _ _ _ _ us hl => match us, hl with | [_, _], _ => rfl
  have m37 := PySem.W.mg_of X G a37
  have F38 := fun_mk (st := s_law_bent) l38 c38 k38
  have b38 := F38.binds (ps := P_law_bent) fun _ _ _ _ _ _ us hl => match us, hl with | [_, _], _ => rfl
  have m38 := PySem.W.mg_of X G a38
  have F39 := fun_mk (st := s_law_deeper) l39 c39 k39
  have b39 := F39.binds (ps := P_law_deeper) fun _ _ _ _ _ _ us hl => match us, hl with | [_, _], _ => rfl
  have m39 := PySem.W.mg_of X G a39
  have F40 := fun_mk (st := s_law_no_form) l40 c40 k40
  have b40 := F40.binds (ps := P_law_no_form) fun _ _ _ _ _ _ us hl => match us, hl with | [_, _], _ => rfl
  have m40 := PySem.W.mg_of X G a40
  have F41 := fun_mk (st := s_law_no_ends) l41 c41 k41
  have b41 := F41.binds (ps := P_law_no_ends) fun _ _ _ _ _ _ us hl => match us, hl with | [_, _], _ => rfl
  have m41 := PySem.W.mg_of X G a41
  have F42 := fun_mk (st := s_law_tokens) l42 c42 k42
  have b42 := F42.binds (ps := P_law_tokens) fun _ _ _ _ _ _ us hl => match us, hl with | [_, _], _ => rfl
  have m42 := PySem.W.mg_of X G a42
  have F43 := fun_mk (st := s_law_spaced) l43 c43 k43
  have b43 := F43.binds (ps := P_law_spaced) fun _ _ _ _ _ _ us hl => match us, hl with | [_, _], _ => rfl
  have m43 := PySem.W.mg_of X G a43
  have F44 := fun_mk (st := s_law_ends_tokens) l44 c44 k44
  have b44 := F44.binds (ps := P_law_ends_tokens) fun _ _ _ _ _ _ us hl => match us, hl with | [_], _ => rfl
  have m44 := PySem.W.mg_of X G a44
  have F45 := fun_mk (st := s_law_longest) l45 c45 k45
  have b45 := F45.binds (ps := P_law_longest) fun _ _ _ _ _ _ us hl => match us, hl with | [_, _], _ => rfl
  have m45 := PySem.W.mg_of X G a45
  have F46 := fun_mk (st := s_law_folded) l46 c46 k46
  have b46 := F46.binds (ps := P_law_folded) fun _ _ _ _ _ _ us hl => match us, hl with | [_], _ => rfl
  have m46 := PySem.W.mg_of X G a46
  have F47 := fun_mk (st := s_law_read) l47 c47 k47
  have b47 := F47.binds (ps := P_law_read) fun _ _ _ _ _ _ us hl => match us, hl with | [_], _ => rfl
  have m47 := PySem.W.mg_of X G a47
  have F48 := fun_mk (st := s_law_read_due) l48 c48 k48
  have b48 := F48.binds (ps := P_law_read_due) fun _ _ _ _ _ _ us hl => match us, hl with | [_, _], _ => rfl
  have m48 := PySem.W.mg_of X G a48
  have F49 := fun_mk (st := s_law_ends_right) l49 c49 k49
  have b49 := F49.binds (ps := P_law_ends_right) fun _ _ _ _ _ _ us hl => match us, hl with | [_, _], _ => rfl
  have m49 := PySem.W.mg_of X G a49
  have F50 : FunC K "_law_beyond" "_law_beyond" s_law_beyond f50 _ (.ref cc1) := ⟨oc50, od50, kV50, dc50, pm50, an50, ct50, sl50, rfl, l50, c50⟩
  have b50 := (fun_mk (st := s_law_beyond) l50 c50 k50).binds (ps := P_law_beyond) fun _ _ _ _ _ _ us hl => match us, hl with | [_, _], _ => rfl
  have m50 := PySem.W.mg_of X G a50
  have F51 : FunC K "_law_refuses" "_law_refuses" s_law_refuses f51 _ (.ref cc2) := ⟨oc51, od51, kV51, dc51, pm51, an51, ct51, sl51, rfl, l51, c51⟩
  have b51 := (fun_mk (st := s_law_refuses) l51 c51 k51).binds (ps := P_law_refuses) fun _ _ _ _ _ _ us hl => match us, hl with | [_, _], _ => rfl
  have m51 := PySem.W.mg_of X G a51
  have F52 := fun_mk (st := slaw) l52 c52 k52
  have F53 := fun_mk (st := sRd0) l53 c53 k53
  have b53 := F53.binds (ps := ["self", "text"]) fun _ _ _ _ _ _ us hl => match us, hl with | [_, _], _ => rfl
  have F54 := fun_mk (st := sWr0) l54 c54 k54
  have b54 := F54.binds (ps := ["self", "form", "depth", "leaves"]) fun _ _ _ _ _ _ us hl => match us, hl with | [_, _, _, _], _ => rfl
  have F55 := fun_mk (st := sRd1) l55 c55 k55
  have b55 := F55.binds (ps := ["self", "signs"]) fun _ _ _ _ _ _ us hl => match us, hl with | [_, _], _ => rfl
  have F56 := fun_mk (st := sRd2) l56 c56 k56
  have b56 := F56.binds (ps := ["self"]) fun _ _ _ _ _ _ us hl => match us, hl with | [_], _ => rfl
  have F57 := fun_mk (st := sRd3) l57 c57 k57
  have b57 := F57.binds (ps := ["self"]) fun _ _ _ _ _ _ us hl => match us, hl with | [_], _ => rfl
  have F58 := fun_mk (st := sRd4) l58 c58 k58
  have b58 := F58.binds (ps := ["self", "signs"]) fun _ _ _ _ _ _ us hl => match us, hl with | [_, _], _ => rfl
  have F59 := fun_mk (st := sRd5) l59 c59 k59
  have b59 := F59.binds (ps := ["self"]) fun _ _ _ _ _ _ us hl => match us, hl with | [_], _ => rfl
  have F60 := fun_mk (st := sRd9) l60 c60 k60
  have b60 := F60.binds (ps := ["self"]) fun _ _ _ _ _ _ us hl => match us, hl with | [_], _ => rfl
  have F61 := fun_mk (st := (meth 3 0)) l61 c61 k61
  have b61 := F61.binds (ps := ["self", "value"]) fun _ _ _ _ _ _ us hl => match us, hl with | [_, _], _ => rfl
  have F62 := fun_mk (st := (meth 4 0)) l62 c62 k62
  have b62 := F62.binds (ps := ["self", "most"]) fun _ _ _ _ _ _ us hl => match us, hl with | [_, _], _ => rfl
  have F63 := fun_mk (st := (meth 5 0)) l63 c63 k63
  have b63 := F63.binds (ps := ["self", "most"]) fun _ _ _ _ _ _ us hl => match us, hl with | [_, _], _ => rfl
  have RT : RdTxt K CR := ⟨⟨pgCR, hdCR, poCR, saCR⟩, nR0, nR1⟩
  have RT2 : RdTxt2 K mg CR f53 := ⟨⟨mkCR, a53, i53, kpCR⟩, PySem.W.mg_of X G gCR⟩
  have WT : WrTxt K mg CW f54 := ⟨⟨pgCW, hdCW, poCW, saCW⟩, nW0, nW1, nW2, ⟨mkCW, a54, i54, kpCW⟩, PySem.W.mg_of X G gCW⟩
  refine ⟨PySem.W.fnOf "law" "law" (defArgs slaw) (defBody slaw) (defScope slaw) .none kV52 dc52 pm52 an52 cd52 ct52, [(cc1, Pt1), (cc2, Pt2)], spLaw K [(Pt1, lamQb), (Pt2, lamQr)], fun p hp => ?_, fun p hp => ?_, fun p hp => ?_, fun s v => .of_eq rfl, fun H a ns hl hb hH hS => ?_, fun base _ _ hTB => ?_⟩
  · rcases List.mem_cons.mp hp with e | hp
    · rw [e]; exact tP1
    · rw [List.mem_singleton.mp hp]; exact tP2
  · rcases List.mem_cons.mp hp with e | hp
    · rw [e]; exact tN1
    · rw [List.mem_singleton.mp hp]; exact tN2
  · rcases List.mem_cons.mp hp with e | hp
    · rw [e]; exact PySem.W.codeHd_of_K X tC1
    · rw [List.mem_singleton.mp hp]; exact PySem.W.codeHd_of_K X tC2
  · refine ⟨a, ns, rfl, hS, hl, fun p hp => ?_, fun _ => rfl⟩
    rcases List.mem_cons.mp hp with e | hp
    · rw [e]; exact LamX.TabS.nil (hH (cc1, Pt1) List.mem_cons_self)
    · rw [List.mem_singleton.mp hp]; exact LamX.TabS.nil (hH (cc2, Pt2) (List.mem_cons_of_mem _ List.mem_cons_self))
  have TB1 : LamX.TabB base mg cc1 Pt1 := hTB (cc1, Pt1) List.mem_cons_self
  have TB2 : LamX.TabB base mg cc2 Pt2 := hTB (cc2, Pt2) (List.mem_cons_of_mem _ List.mem_cons_self)
  have one1 : ∀ p ∈ [(Pt1, lamQb), (Pt2, lamQr)], p.1 = Pt1 → p.2 = lamQb := fun p hp e => by
    rcases List.mem_cons.mp hp with e2 | hp
    · rw [e2]
    · rw [List.mem_singleton.mp hp] at e
      exact absurd e.symm tD
  have one2 : ∀ p ∈ [(Pt1, lamQb), (Pt2, lamQr)], p.1 = Pt2 → p.2 = lamQr := fun p hp e => by
    rcases List.mem_cons.mp hp with e2 | hp
    · rw [e2] at e
      exact absurd e tD
    · rw [List.mem_singleton.mp hp]
  have OB : OneE l.prog w K mg base "BadValue" "value" EB := { oex := ⟨⟨nmB, qB, NB, bsB, bmB, snB, subB, abB, colB, ddB, mz0B, mz1B, mz2B, mz3B, mz5B, xB, rB⟩, saB, exEB, tyEB, kB⟩, xf := TE.xB, no := noEB, g := PySem.W.mg_of X G gEB, fI := f61, fd := _, iC := a61, tI := i61, b := b61, F := ok_i2 EB F61 }
  have OD : OneE l.prog w K mg base "TooDeep" "most" ED := { oex := ⟨⟨nmD, qD, ND, bsD, bmD, snD, subD, abD, colD, ddD, mz0D, mz1D, mz2D, mz3D, mz5D, xD, rD⟩, saD, exED, tyED, kD⟩, xf := TE.xD, no := noED, g := PySem.W.mg_of X G gED, fI := f62, fd := _, iC := a62, tI := i62, b := b62, F := ok_i3 ED F62 }
  have OM : OneE l.prog w K mg base "TooMany" "most" EM := { oex := ⟨⟨nmM, qM, NM, bsM, bmM, snM, subM, abM, colM, ddM, mz0M, mz1M, mz2M, mz3M, mz5M, xM, rM⟩, saM, exEM, tyEM, kM⟩, xf := TE.xM, no := noEM, g := PySem.W.mg_of X G gEM, fI := f63, fd := _, iC := a63, tI := i63, b := b63, F := ok_i5 EM F63 }
  have Cfits_name : Cal l.prog w K mg base "fits_name" 2 Pfits_name (spName K) := ⟨_, _, ok_fits_name T F1, m1, k1, b1⟩
  have Cfits_form : Cal l.prog w K mg base "fits_form" 15 Pfits_form (spForm K 13) := ⟨_, _, all_fits_form T F2 b2 m2 Cfits_name 13, m2, k2, b2⟩
  have Cis_leaf : Cal l.prog w K mg base "is_leaf" 1 Pis_leaf (spLeafT K) := ⟨_, _, okis_leaf T F4, m4, k4, b4⟩
  have Cis_leafA : Cal l.prog w K mg base "is_leaf" 1 Pis_leaf (spIsLeaf K) := ⟨_, _, okis_leafA T F4, m4, k4, b4⟩
  have Cleaf_count : Cal l.prog w K mg base "leaf_count" 14 Pleaf_count (spLeafCount K 13) := ⟨_, _, all_leaf_count F5 b5 m5 Cis_leafA 13, m5, k5, b5⟩
  have Cfits_ends : Cal l.prog w K mg base "fits_ends" 16 Pfits_ends (spEnds K) := ⟨_, _, okfits_ends T7 F3 Cfits_form Cleaf_count, m3, k3, b3⟩
  have Ccheck_ends : CalX l.prog w K mg base "check_ends" 17 Pcheck_ends (spCheckEnds K EB) := ⟨_, _, okcheck_ends OB F6 Cfits_ends, m6, k6, b6⟩
  have Ccheck_text : CalX l.prog w K mg base "check_text" 4 Pcheck_text (spCheckText K EB) := ⟨_, _, okcheck_text T OB F7, m7, k7, b7⟩
  have M1 : Mth l.prog w K mg base CR "sees" 1 NRd1 (spSees CR) := ⟨f55, _, ⟨a55, i55, k55⟩, okRd1 T RT F55, b55⟩
  have M2 : Mth l.prog w K mg base CR "is_done" 1 NRd2 (spDone CR) := ⟨f56, _, ⟨a56, i56, k56⟩, okRd2 T RT F56, b56⟩
  have M3 : Mth l.prog w K mg base CR "finish" 2 NRd2 (spFinish CR) := ⟨f57, _, ⟨a57, i57, k57⟩, okRd3 (R := RT) M2 F57, b57⟩
  have M4 : Mth l.prog w K mg base CR "take" 2 NRd1 (spTake CR) := ⟨f58, _, ⟨a58, i58, k58⟩, okRd4 (R := RT) M1 F58, b58⟩
  have M1L : Mth l.prog w K mg base CR "sees" 1 NRd1 (spSeesL K CR) := ⟨f55, _, ⟨a55, i55, k55⟩, okRd1L T RT F55, b55⟩
  have M4L : Mth l.prog w K mg base CR "take" 2 NRd1 (spTakeL K CR) := ⟨f58, _, ⟨a58, i58, k58⟩, okRd4L (R := RT) M1L F58, b58⟩
  have M5 : Mth l.prog w K mg base CR "skip_spaces" 2 NRd2 (spSkip CR) := ⟨f59, _, ⟨a59, i59, k59⟩, okRd5 (R := RT) M1 F59, b59⟩
  have M9 : Mth l.prog w K mg base CR "take_name" 3 NRd2 (spTakeName CR) := ⟨f60, _, ⟨a60, i60, k60⟩, okRd9 (R := RT) T M1 M4 F60, b60⟩
  have GW := okWr0 (P := l.prog) (w := w) (base := base) WT F54
  have GR := okRd0 (P := l.prog) (w := w) (mg := mg) (base := base) RT F53
  have Ctake_leaf : Cal l.prog w K mg base "take_leaf" 4 Ptake_leaf (spTakeLeaf K CR CW) := ⟨_, _, oktake_leaf (R := RT) WT GW b54 M1 M4 M9 F8, m8, k8, b8⟩
  have Cgrouped : Cal l.prog w K mg base "grouped" 3 Pgrouped (spGrouped K CW) := ⟨_, _, okgrouped WT YW GW b54 F10, m10, k10, b10⟩
  have Ctake_sign : Cal l.prog w K mg base "take_sign" 3 Ptake_sign (spTakeSign K CR) := ⟨_, _, oktake_sign (R := RT) M4 M4L F9, m9, k9, b9⟩
  have Ctake_halved : Cal l.prog w K mg base "take_halved" 5 Ptake_halved (spTakeHalved K CR CW) := ⟨_, _, oktake_halved (R := RT) WT T M1 M1L M4 M5 Ctake_leaf Cgrouped Ctake_sign F11, m11, k11, b11⟩
  have Ctake_form : Cal l.prog w K mg base "take_form" 6 Ptake_form (spTakeForm K CR CW) := ⟨_, _, oktake_form YW Ctake_halved F12, m12, k12, b12⟩
  have Ctold_form : CalX l.prog w K mg base "told_form" 4 Ptold_form (spToldX K CW ED) := ⟨_, _, oktold_formX WT YW OD F14, m14, k14, b14⟩
  have Ctake_ends : Cal l.prog w K mg base "take_ends" 7 Ptake_ends (spTakeEnds K CR CW) := ⟨_, _, oktake_ends (R := RT) M1 M4 Ctake_form F13, m13, k13, b13⟩
  have Ctold_ends : CalX l.prog w K mg base "told_ends" 5 Ptold_ends (spToldEnds K CW ED EM) := ⟨_, _, oktold_ends WT T7 TS OM Ctold_form F15, m15, k15, b15⟩
  have Cread_ends : CalX l.prog w K mg base "read_ends" 8 Pread_ends (spReadEnds K EB ED EM) := ⟨_, _, okread_ends (R := RT) RT2 GR b53 Ccheck_text Ctake_ends M3 Ctold_ends F19, m19, k19, b19⟩
  have Cwritten : Cal l.prog w K mg base "written" 27 Pwritten (spWritten K false 13) := ⟨_, _, all_written YS F16 b16 m16 F17 b17 m17 Cis_leaf 13, m16, k16, b16⟩
  have Cends_text : CalX l.prog w K mg base "ends_text" 30 Pends_text (spEndsText K EB) := ⟨_, _, okends_text Ccheck_ends Cwritten F18 (fun ts h1 h2 h3 D hD => ⟨(ends_data ⟨h1, h2, h3⟩ hD).1, (ends_data ⟨h1, h2, h3⟩ hD).2.1, (ends_data ⟨h1, h2, h3⟩ hD).2.2.1, Nat.le_trans (len_lvsL ts) h3⟩), m18, k18, b18⟩
  have C_law_begin : Cal l.prog w K mg base "_law_begin" 1 P_law_begin (spBegin K) := ⟨_, _, ok_law_begin T F20, m20, k20, b20⟩
  have C_law_draw : Cal l.prog w K mg base "_law_draw" 1 P_law_draw (spDraw K) := ⟨_, _, ok_law_draw T F21, m21, k21, b21⟩
  have C_law_pick : Cal l.prog w K mg base "_law_pick" 2 P_law_pick (spPick K) := ⟨_, _, ok_law_pick T F22 C_law_draw, m22, k22, b22⟩
  have C_law_depth : Cal l.prog w K mg base "_law_depth" 13 P_law_depth (spDepth K 13) := ⟨_, _, all_law_depth T F24 b24 m24 13, m24, k24, b24⟩
  have C_law_form_text : Cal l.prog w K mg base "_law_form_text" 14 P_law_form_text (spLText K 13) := ⟨_, _, all_law_form_text T F25 b25 m25 13, m25, k25, b25⟩
  have C_law_tokens : Cal l.prog w K mg base "_law_tokens" 21 P_law_tokens (spTokens K 20) := ⟨_, _, all_law_tokens T F42 b42 m42 20, m42, k42, b42⟩
  have C_law_same : Cal l.prog w K mg base "_law_same" 17 P_law_same (spSame K 16) := ⟨_, _, all_law_same T (PySem.W.mg_none_of X G z13) F27 b27 m27 16, m27, k27, b27⟩
  have C_law_sameM : Cal l.prog w K mg base "_law_same" 67 P_law_same (spSame K 66) := ⟨_, _, all_law_same T (PySem.W.mg_none_of X G z13) F27 b27 m27 66, m27, k27, b27⟩
  have C_law_fault : Cal l.prog w K mg base "_law_fault" 34 P_law_fault (spFault l.prog w K mg base TE 33) := ⟨_, _, ok_law_fault TE F28, m28, k28, b28⟩
  have C_law_faults : Cal l.prog w K mg base "_law_faults" 101 P_law_faults (spFaults l.prog w K mg base TE 33 66) := ⟨_, _, ok_law_faults (k := 33) (n := 66) TE F29 C_law_fault C_law_sameM, m29, k29, b29⟩
  have C_law_name : Cal l.prog w K mg base "_law_name" 3 P_law_name (spNameOf K) := ⟨_, _, ok_law_name T F30 C_law_pick, m30, k30, b30⟩
  have C_law_names : Cal l.prog w K mg base "_law_names" 4 P_law_names (spNames K) := ⟨_, _, ok_law_names T F31 C_law_draw C_law_name, m31, k31, b31⟩
  have C_law_shape : Cal l.prog w K mg base "_law_shape" 15 P_law_shape (spShape K 13) := ⟨_, _, all_law_shape T F32 b32 m32 C_law_draw C_law_pick 13, m32, k32, b32⟩
  have C_law_is_name : Cal l.prog w K mg base "_law_is_name" 2 P_law_is_name (spName K) := ⟨_, _, ok_law_is_name T F35, m35, k35, b35⟩
  have C_law_is_form : Cal l.prog w K mg base "_law_is_form" 15 P_law_is_form (spFormL K 13) := ⟨_, _, all_law_is_form T F36 b36 m36 C_law_is_name 13, m36, k36, b36⟩
  have C_law_bent_name : Cal l.prog w K mg base "_law_bent_name" 3 P_law_bent_name (spBentName K) := ⟨_, _, ok_law_bent_name T F37 C_law_draw C_law_pick, m37, k37, b37⟩
  have C_law_bent : Cal l.prog w K mg base "_law_bent" 16 P_law_bent (spBent K 13) := ⟨_, _, all_law_bent T F38 b38 m38 C_law_draw C_law_pick C_law_bent_name 13, m38, k38, b38⟩
  have C_law_deeper : Cal l.prog w K mg base "_law_deeper" 14 P_law_deeper (spDeeper K) := ⟨_, _, ok_law_deeper T F39 C_law_depth, m39, k39, b39⟩
  have C_law_no_form : Cal l.prog w K mg base "_law_no_form" 17 P_law_no_form (spNoForm K) := ⟨_, _, ok_law_no_form T F40 C_law_pick C_law_bent C_law_is_form C_law_deeper, m40, k40, b40⟩
  have C_law_leaves : Cal l.prog w K mg base "_law_leaves" 13 P_law_leaves (spLvs K 13) := ⟨_, _, all_law_leaves T7 F23 b23 m23 13, m23, k23, b23⟩
  have C_law_leaf_many : Cal l.prog w K mg base "_law_leaf_many" 14 P_law_leaf_many (spLeafMany K) := ⟨_, _, ok_law_leaf_many T7 TS.sum F26 C_law_leaves, m26, k26, b26⟩
  have C_law_unforked : Cal l.prog w K mg base "_law_unforked" 13 P_law_unforked (spUnforked K 13) := ⟨_, _, all_law_unforked T7 F33 b33 m33 13, m33, k33, b33⟩
  have C_law_some_ends : Cal l.prog w K mg base "_law_some_ends" 16 P_law_some_ends (spSomeEnds K) := ⟨_, _, ok_law_some_ends T7 F34 C_law_draw C_law_pick C_law_names C_law_shape C_law_unforked, m34, k34, b34⟩
  have C_law_no_ends : Cal l.prog w K mg base "_law_no_ends" 18 P_law_no_ends (spNoEnds K) := ⟨_, _, ok_law_no_ends T7 F41 C_law_draw C_law_no_form C_law_leaf_many, m41, k41, b41⟩
  have C_law_ends_tokens : Cal l.prog w K mg base "_law_ends_tokens" 22 P_law_ends_tokens (spEndsTokens K) := ⟨_, _, ok_law_ends_tokens F44 C_law_tokens, m44, k44, b44⟩
  have C_law_longest : Cal l.prog w K mg base "_law_longest" 1 P_law_longest (spLongest K) := ⟨_, _, ok_law_longest T T7 F45, m45, k45, b45⟩
  have C_law_folded : Cal l.prog w K mg base "_law_folded" 1 P_law_folded (spFolded K) := ⟨_, _, ok_law_folded T F46, m46, k46, b46⟩
  have C_law_read : Cal l.prog w K mg base "_law_read" 2 P_law_read (spRead K) := ⟨_, _, ok_law_read T F47 C_law_folded, m47, k47, b47⟩
  have C_law_read_due : Cal l.prog w K mg base "_law_read_due" 15 P_law_read_due (spReadDue K) := ⟨_, _, ok_law_read_due T F48 C_law_longest C_law_read C_law_leaf_many (fun t h1 h2 => ft_isForm t h1 h2), m48, k48, b48⟩
  have C_law_spaced : Cal l.prog w K mg base "_law_spaced" 3 P_law_spaced (spSpaced K) := ⟨_, _, ok_law_spaced F43 C_law_draw C_law_pick, m43, k43, b43⟩
  have C_law_ends_right : Cal l.prog w K mg base "_law_ends_right" 31 P_law_ends_right (spEndsRight K) := ⟨_, _, ok_law_ends_right T F49 C_law_form_text C_law_same Cends_text Cread_ends C_law_ends_tokens C_law_spaced, m49, k49, b49⟩
  have in1 : (Pt1, lamQb) ∈ [(Pt1, lamQb), (Pt2, lamQr)] := List.mem_cons_self
  have in2 : (Pt2, lamQr) ∈ [(Pt1, lamQb), (Pt2, lamQr)] := List.mem_cons_of_mem _ List.mem_cons_self
  have C_law_beyond : Cal l.prog w K mg base "_law_beyond" 105 P_law_beyond (spBeyond K [(Pt1, lamQb), (Pt2, lamQr)]) := ⟨_, _, ok_law_beyond (T := TE) T TB1 in1 one1 F50 C_law_draw C_law_leaf_many C_law_deeper C_law_ends_tokens C_law_spaced C_law_read_due C_law_same C_law_faults Cread_ends, m50, k50, b50⟩
  have C_law_refuses : Cal l.prog w K mg base "_law_refuses" 105 P_law_refuses (spRefuses K [(Pt1, lamQb), (Pt2, lamQr)]) := ⟨_, _, ok_law_refuses (T := TE) TB2 in2 one2 F51 C_law_no_ends C_law_faults Cends_text Cread_ends, m51, k51, b51⟩
  exact ok_law F52 C_law_begin C_law_some_ends C_law_ends_right C_law_beyond C_law_refuses
theorem walk {l : PySem.W.OpenLaw} {q : Program} {loose : List Str} {XP : (Str → Option Value) → Heap → Prop} {YP : World → Heap → Prop} {d : DefRec} {K : Params → PySem.W.Frag} (hn : l.most = some 63) (hdf : d.params.defaults = [])
    (hY : ∀ (w : World) (h : Heap), YP w h → (K w.params).In h)
    (F : ∀ (w : World) (mg : Str → Option Value) (fa : Addr) (h : Heap), YP w h → (K w.params).In h → h.Ns mainGlobals mg → mg d.name = some (.ref fa) → LamX.LawAtS l w (K w.params) CX0 106 63 "_law_script" mg fa h) :
    PySem.W.WalkO q loose XP YP l.row.toRowW d [] (fun f vs => PySem.call f vs) :=
  LamX.walk_ofTs (n := 63) (k := 106) (x := "_law_script") (CX := fun _ => CX0) hn (by decide) hdf ⟨rfl, by decide, by decide⟩ hY F fun _ _ _ _ _ z => z
end My

set_option Elab.async false
set_option linter.all false
open PySem PySem.W PyProof.Rows
set_option maxRecDepth 100000 in
set_option maxHeartbeats 0 in
theorem PySem.Challenge.cw_alldeeds_k06_whole_ends_texts_holds : PySem.Challenge.rw_alldeeds_k06_whole_ends_texts.Holds := by
  w_on; o_law; k_head; (case hw => w_witness2)
  k_fill
  refine My.walk (l := PySem.Challenge.rw_alldeeds_k06_whole_ends_texts) rfl rfl (fun w h Y => PySem.W.km_in_of Y) ?F
  case F =>
    intro w mg fa h Y KX G hmg
    have hT := PySem.W.km_tabs_of Y
    refine' My.all_mk KX G hmg ?tP1 ?tP2 ?tD ?a1 ?l1 ?c1 ?k1 ?a2 ?l2 ?c2 ?k2 ?a3 ?l3 ?c3 ?k3 ?a4 ?l4 ?c4 ?k4 ?a5 ?l5 ?c5 ?k5 ?a6 ?l6 ?c6 ?k6 ?a7 ?l7 ?c7 ?k7 ?a8 ?l8 ?c8 ?k8 ?a9 ?l9 ?c9 ?k9 ?a10 ?l10 ?c10 ?k10 ?a11 ?l11 ?c11 ?k11 ?a12 ?l12 ?c12 ?k12 ?a13 ?l13 ?c13 ?k13 ?a14 ?l14 ?c14 ?k14 ?a15 ?l15 ?c15 ?k15 ?a16 ?l16 ?c16 ?k16 ?a17 ?l17 ?c17 ?k17 ?a18 ?l18 ?c18 ?k18 ?a19 ?l19 ?c19 ?k19 ?a20 ?l20 ?c20 ?k20 ?a21 ?l21 ?c21 ?k21 ?a22 ?l22 ?c22 ?k22 ?a23 ?l23 ?c23 ?k23 ?a24 ?l24 ?c24 ?k24 ?a25 ?l25 ?c25 ?k25 ?a26 ?l26 ?c26 ?k26 ?a27 ?l27 ?c27 ?k27 ?a28 ?l28 ?c28 ?k28 ?a29 ?l29 ?c29 ?k29 ?a30 ?l30 ?c30 ?k30 ?a31 ?l31 ?c31 ?k31 ?a32 ?l32 ?c32 ?k32 ?a33 ?l33 ?c33 ?k33 ?a34 ?l34 ?c34 ?k34 ?a35 ?l35 ?c35 ?k35 ?a36 ?l36 ?c36 ?k36 ?a37 ?l37 ?c37 ?k37 ?a38 ?l38 ?c38 ?k38 ?a39 ?l39 ?c39 ?k39 ?a40 ?l40 ?c40 ?k40 ?a41 ?l41 ?c41 ?k41 ?a42 ?l42 ?c42 ?k42 ?a43 ?l43 ?c43 ?k43 ?a44 ?l44 ?c44 ?k44 ?a45 ?l45 ?c45 ?k45 ?a46 ?l46 ?c46 ?k46 ?a47 ?l47 ?c47 ?k47 ?a48 ?l48 ?c48 ?k48 ?a49 ?l49 ?c49 ?k49 ?a50 ?l50 ?c50 ?k50 ?a51 ?l51 ?c51 ?k51 ?a52 ?l52 ?c52 ?k52 ?tN1 ?tC1 ?tN2 ?tC2 ?gCR ?pgCR ?hdCR ?poCR ?saCR ?mkCR ?kpCR ?gCW ?pgCW ?hdCW ?poCW ?saCW ?mkCW ?kpCW ?nR0 ?nR1 ?nW0 ?nW1 ?nW2 ?gEB ?gaEB ?ggEB ?exEB ?hdEB ?noEB ?isEB ?tyEB ?gEN ?gaEN ?ggEN ?exEN ?hdEN ?noEN ?isEN ?tyEN ?gED ?gaED ?ggED ?exED ?hdED ?noED ?isED ?tyED ?gEM ?gaEM ?ggEM ?exEM ?hdEM ?noEM ?isEM ?tyEM ?sBB ?sNB ?sNN ?sDB ?sDN ?sDD ?sMB ?sMN ?sMD ?sMM ?xB ?rB ?saB ?kB ?xD ?rD ?saD ?kD ?xM ?rM ?saM ?kM ?a53 ?i53 ?l53 ?c53 ?k53 ?a54 ?i54 ?l54 ?c54 ?k54 ?a55 ?i55 ?l55 ?c55 ?k55 ?a56 ?i56 ?l56 ?c56 ?k56 ?a57 ?i57 ?l57 ?c57 ?k57 ?a58 ?i58 ?l58 ?c58 ?k58 ?a59 ?i59 ?l59 ?c59 ?k59 ?a60 ?i60 ?l60 ?c60 ?k60 ?a61 ?i61 ?l61 ?c61 ?k61 ?a62 ?i62 ?l62 ?c62 ?k62 ?a63 ?i63 ?l63 ?c63 ?k63 ?z1 ?z2 ?z3 ?z4 ?z5 ?z6 ?z7 ?z8 ?z9 ?z10 ?z11 ?z12 ?z13 ?z14 ?z15 ?z16 ?y1 ?y2 ?y3 ?y4 ?y5 ?y6 ?y7 ?y8 ?y10 ?y11 ?y12 ?y16 ?y17 ?y18 ?y13 ?y14 ?y15 ?e5 ?e6 ?e7 ?e8
    (case tP1 => exact hT _ (List.mem_cons_of_mem _ List.mem_cons_self))
    (case tP2 => exact hT _ (List.mem_cons_self))
    (case tD => decide)
    (case a1 => k_is)
    (case l1 => k_is)
    (case c1 => k_is)
    (case k1 => k_is)
    (case a2 => k_is)
    (case l2 => k_is)
    (case c2 => k_is)
    (case k2 => k_is)
    (case a3 => k_is)
    (case l3 => k_is)
    (case c3 => k_is)
    (case k3 => k_is)
    (case a4 => k_is)
    (case l4 => k_is)
    (case c4 => k_is)
    (case k4 => k_is)
    (case a5 => k_is)
    (case l5 => k_is)
    (case c5 => k_is)
    (case k5 => k_is)
    (case a6 => k_is)
    (case l6 => k_is)
    (case c6 => k_is)
    (case k6 => k_is)
    (case a7 => k_is)
    (case l7 => k_is)
    (case c7 => k_is)
    (case k7 => k_is)
    (case a8 => k_is)
    (case l8 => k_is)
    (case c8 => k_is)
    (case k8 => k_is)
    (case a9 => k_is)
    (case l9 => k_is)
    (case c9 => k_is)
    (case k9 => k_is)
    (case a10 => k_is)
    (case l10 => k_is)
    (case c10 => k_is)
    (case k10 => k_is)
    (case a11 => k_is)
    (case l11 => k_is)
    (case c11 => k_is)
    (case k11 => k_is)
    (case a12 => k_is)
    (case l12 => k_is)
    (case c12 => k_is)
    (case k12 => k_is)
    (case a13 => k_is)
    (case l13 => k_is)
    (case c13 => k_is)
    (case k13 => k_is)
    (case a14 => k_is)
    (case l14 => k_is)
    (case c14 => k_is)
    (case k14 => k_is)
    (case a15 => k_is)
    (case l15 => k_is)
    (case c15 => k_is)
    (case k15 => k_is)
    (case a16 => k_is)
    (case l16 => k_is)
    (case c16 => k_is)
    (case k16 => k_is)
    (case a17 => k_is)
    (case l17 => k_is)
    (case c17 => k_is)
    (case k17 => k_is)
    (case a18 => k_is)
    (case l18 => k_is)
    (case c18 => k_is)
    (case k18 => k_is)
    (case a19 => k_is)
    (case l19 => k_is)
    (case c19 => k_is)
    (case k19 => k_is)
    (case a20 => k_is)
    (case l20 => k_is)
    (case c20 => k_is)
    (case k20 => k_is)
    (case a21 => k_is)
    (case l21 => k_is)
    (case c21 => k_is)
    (case k21 => k_is)
    (case a22 => k_is)
    (case l22 => k_is)
    (case c22 => k_is)
    (case k22 => k_is)
    (case a23 => k_is)
    (case l23 => k_is)
    (case c23 => k_is)
    (case k23 => k_is)
    (case a24 => k_is)
    (case l24 => k_is)
    (case c24 => k_is)
    (case k24 => k_is)
    (case a25 => k_is)
    (case l25 => k_is)
    (case c25 => k_is)
    (case k25 => k_is)
    (case a26 => k_is)
    (case l26 => k_is)
    (case c26 => k_is)
    (case k26 => k_is)
    (case a27 => k_is)
    (case l27 => k_is)
    (case c27 => k_is)
    (case k27 => k_is)
    (case a28 => k_is)
    (case l28 => k_is)
    (case c28 => k_is)
    (case k28 => k_is)
    (case a29 => k_is)
    (case l29 => k_is)
    (case c29 => k_is)
    (case k29 => k_is)
    (case a30 => k_is)
    (case l30 => k_is)
    (case c30 => k_is)
    (case k30 => k_is)
    (case a31 => k_is)
    (case l31 => k_is)
    (case c31 => k_is)
    (case k31 => k_is)
    (case a32 => k_is)
    (case l32 => k_is)
    (case c32 => k_is)
    (case k32 => k_is)
    (case a33 => k_is)
    (case l33 => k_is)
    (case c33 => k_is)
    (case k33 => k_is)
    (case a34 => k_is)
    (case l34 => k_is)
    (case c34 => k_is)
    (case k34 => k_is)
    (case a35 => k_is)
    (case l35 => k_is)
    (case c35 => k_is)
    (case k35 => k_is)
    (case a36 => k_is)
    (case l36 => k_is)
    (case c36 => k_is)
    (case k36 => k_is)
    (case a37 => k_is)
    (case l37 => k_is)
    (case c37 => k_is)
    (case k37 => k_is)
    (case a38 => k_is)
    (case l38 => k_is)
    (case c38 => k_is)
    (case k38 => k_is)
    (case a39 => k_is)
    (case l39 => k_is)
    (case c39 => k_is)
    (case k39 => k_is)
    (case a40 => k_is)
    (case l40 => k_is)
    (case c40 => k_is)
    (case k40 => k_is)
    (case a41 => k_is)
    (case l41 => k_is)
    (case c41 => k_is)
    (case k41 => k_is)
    (case a42 => k_is)
    (case l42 => k_is)
    (case c42 => k_is)
    (case k42 => k_is)
    (case a43 => k_is)
    (case l43 => k_is)
    (case c43 => k_is)
    (case k43 => k_is)
    (case a44 => k_is)
    (case l44 => k_is)
    (case c44 => k_is)
    (case k44 => k_is)
    (case a45 => k_is)
    (case l45 => k_is)
    (case c45 => k_is)
    (case k45 => k_is)
    (case a46 => k_is)
    (case l46 => k_is)
    (case c46 => k_is)
    (case k46 => k_is)
    (case a47 => k_is)
    (case l47 => k_is)
    (case c47 => k_is)
    (case k47 => k_is)
    (case a48 => k_is)
    (case l48 => k_is)
    (case c48 => k_is)
    (case k48 => k_is)
    (case a49 => k_is)
    (case l49 => k_is)
    (case c49 => k_is)
    (case k49 => k_is)
    (case a50 => k_is)
    (case l50 => k_is)
    (case c50 => k_is)
    (case k50 => k_is)
    (case a51 => k_is)
    (case l51 => k_is)
    (case c51 => k_is)
    (case k51 => k_is)
    (case a52 => k_is)
    (case l52 => k_is)
    (case c52 => k_is)
    (case k52 => k_is)
    (case tN1 => kernel_rfl)
    (case tC1 => kernel_rfl)
    (case tN2 => kernel_rfl)
    (case tC2 => kernel_rfl)
    (case gCR => k_is)
    (case pgCR => k_is)
    (case hdCR => k_is)
    (case poCR => k_is)
    (case saCR => k_is)
    (case mkCR => k_is)
    (case kpCR => k_is)
    (case gCW => k_is)
    (case pgCW => k_is)
    (case hdCW => k_is)
    (case poCW => k_is)
    (case saCW => k_is)
    (case mkCW => k_is)
    (case kpCW => k_is)
    (case nR0 => k_is)
    (case nR1 => k_is)
    (case nW0 => k_is)
    (case nW1 => k_is)
    (case nW2 => k_is)
    (case gEB => k_is)
    (case gaEB => k_is)
    (case ggEB => k_is)
    (case exEB => k_is)
    (case hdEB => k_is)
    (case noEB => k_is)
    (case isEB => k_is)
    (case tyEB => k_is)
    (case gEN => k_is)
    (case gaEN => k_is)
    (case ggEN => k_is)
    (case exEN => k_is)
    (case hdEN => k_is)
    (case noEN => k_is)
    (case isEN => k_is)
    (case tyEN => k_is)
    (case gED => k_is)
    (case gaED => k_is)
    (case ggED => k_is)
    (case exED => k_is)
    (case hdED => k_is)
    (case noED => k_is)
    (case isED => k_is)
    (case tyED => k_is)
    (case gEM => k_is)
    (case gaEM => k_is)
    (case ggEM => k_is)
    (case exEM => k_is)
    (case hdEM => k_is)
    (case noEM => k_is)
    (case isEM => k_is)
    (case tyEM => k_is)
    (case sBB => first | rfl | k_is)
    (case sNB => first | rfl | k_is)
    (case sNN => first | rfl | k_is)
    (case sDB => first | rfl | k_is)
    (case sDN => first | rfl | k_is)
    (case sDD => first | rfl | k_is)
    (case sMB => first | rfl | k_is)
    (case sMN => first | rfl | k_is)
    (case sMD => first | rfl | k_is)
    (case sMM => first | rfl | k_is)
    (case xB => k_is)
    (case rB => first | decide +kernel | k_is)
    (case saB => k_is)
    (case kB => k_is)
    (case xD => k_is)
    (case rD => first | decide +kernel | k_is)
    (case saD => k_is)
    (case kD => k_is)
    (case xM => k_is)
    (case rM => first | decide +kernel | k_is)
    (case saM => k_is)
    (case kM => k_is)
    (case a53 => k_is)
    (case i53 => k_is)
    (case l53 => k_is)
    (case c53 => k_is)
    (case k53 => k_is)
    (case a54 => k_is)
    (case i54 => k_is)
    (case l54 => k_is)
    (case c54 => k_is)
    (case k54 => k_is)
    (case a55 => k_is)
    (case i55 => k_is)
    (case l55 => k_is)
    (case c55 => k_is)
    (case k55 => k_is)
    (case a56 => k_is)
    (case i56 => k_is)
    (case l56 => k_is)
    (case c56 => k_is)
    (case k56 => k_is)
    (case a57 => k_is)
    (case i57 => k_is)
    (case l57 => k_is)
    (case c57 => k_is)
    (case k57 => k_is)
    (case a58 => k_is)
    (case i58 => k_is)
    (case l58 => k_is)
    (case c58 => k_is)
    (case k58 => k_is)
    (case a59 => k_is)
    (case i59 => k_is)
    (case l59 => k_is)
    (case c59 => k_is)
    (case k59 => k_is)
    (case a60 => k_is)
    (case i60 => k_is)
    (case l60 => k_is)
    (case c60 => k_is)
    (case k60 => k_is)
    (case a61 => k_is)
    (case i61 => k_is)
    (case l61 => k_is)
    (case c61 => k_is)
    (case k61 => k_is)
    (case a62 => k_is)
    (case i62 => k_is)
    (case l62 => k_is)
    (case c62 => k_is)
    (case k62 => k_is)
    (case a63 => k_is)
    (case i63 => k_is)
    (case l63 => k_is)
    (case c63 => k_is)
    (case k63 => k_is)
    (case z1 => k_is)
    (case z2 => k_is)
    (case z3 => k_is)
    (case z4 => k_is)
    (case z5 => k_is)
    (case z6 => k_is)
    (case z7 => k_is)
    (case z8 => k_is)
    (case z9 => k_is)
    (case z10 => k_is)
    (case z11 => k_is)
    (case z12 => k_is)
    (case z13 => k_is)
    (case z14 => k_is)
    (case z15 => k_is)
    (case z16 => k_is)
    (case y1 => k_is)
    (case y2 => k_is)
    (case y3 => k_is)
    (case y4 => k_is)
    (case y5 => k_is)
    (case y6 => k_is)
    (case y7 => k_is)
    (case y8 => k_is)
    (case y10 => k_is)
    (case y11 => k_is)
    (case y12 => exact ⟨⟨_, _, rfl, rfl⟩, ⟨_, _, rfl, rfl⟩, ⟨_, _, rfl, rfl⟩, ⟨_, _, rfl, rfl⟩, ⟨_, _, rfl, rfl⟩, trivial⟩)
    (case y16 => exact .cons ⟨_, _, rfl, rfl, _, rfl⟩ (.cons ⟨_, _, rfl, rfl, _, rfl⟩ (.cons ⟨_, _, rfl, rfl, _, rfl⟩ (.cons ⟨_, _, rfl, rfl, _, rfl⟩ (.cons ⟨_, _, rfl, rfl, _, rfl⟩ (.nil))))))
    (case y17 => first | rfl | decide +kernel | k_is)
    (case y18 => k_is)
    (case y13 => k_is)
    (case y14 => k_is)
    (case y15 => exact ⟨⟨_, _, rfl, rfl⟩, ⟨_, _, rfl, rfl⟩, ⟨_, _, rfl, rfl⟩, ⟨_, _, rfl, rfl⟩, ⟨_, _, rfl, rfl⟩, ⟨_, _, rfl, rfl⟩, ⟨_, _, rfl, rfl⟩, ⟨_, _, rfl, rfl⟩, trivial⟩)
    (case e5 => k_is)
    (case e6 => k_is)
    (case e7 => k_is)
    (case e8 => k_is)

