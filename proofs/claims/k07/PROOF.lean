import PyProof.Rows.All
import Wide.All
import OpenK.AllK
import Wide.FinOn
import HandS.ForMost
import HandS.Wide
import HandS.IsInst
import HandS.TupAny
import HandS.Style
import HandS.Deep
import HandS.Conv
import HandS.Codes
import KE.KRevSl
import HandS.ForExc
import HandS.Lambda
import HandS.TryMany
import HandS.ExcInit
import HandS.ExcField
import HandS.Zip
import HandS.Walk
import PyProof.EnumMake
import PyProof.Draws
import KE.GoesMore
import HandS.More
import HandS.EndTab
import KE.KNestM
import PySem.Challenge.RW_alldeeds_k07_whole_leaves_and_forks
set_option Elab.async false
set_option linter.all false
set_option maxRecDepth 100000
namespace My
open PySem L2

/-! ### the text by places -/
def top (i : Nat) : Stmt := PySem.Challenge.pw_alldeeds_k07_whole_leaves_and_forks.main.body.getD i (.Pass ⟨0, 0, 0, 0⟩)

/-! ### a def that may be called -/
structure Cal (P : Program) (w : World) (K : PySem.W.Frag) (mg : Str → Option Value) (base : Heap) (x : Str) (k : Nat) (ps : List Str) (sp : Sp) where
  f : Addr
  fd : FuncData
  ok : FnOk P w K mg base CX0 k f fd ps sp
  m : mg x = some (.ref f)
  kp : PySem.W.keepIn K (.ref f) = true
  b : Binds K fd ps []
section
variable {X : Cx} {k j : Nat} {ps : List Str} {sp : Sp} {x : Str} {p pos : Pos} {e : Expr} {es : List Expr} {t : TA}
theorem pe_callC (C : Cal X.prog X.w X.K X.mg X.base x k ps sp) (hr : Room j X.A) (ha : PA X (e :: es) t) (hk : k ≤ j := by omega) (hg : Gl X x := by rfl) (hdb : (x == ("__debug__" : Str)) = false := by decide)
    (he : starEach (e :: es) X.env = (false, eval e X.env) :: starEach es X.env := by rfl) (hpl : (backTo pos (starEach es X.env)).any (·.1) = false := by rfl) :
    PE X (.Call (.Name x p) (e :: es) [] pos) (tCall sp [] E0 t) := pe_call C.ok (hr.mono hk) hg C.m C.kp C.b .nil pass0 ha hdb he hpl
theorem pe_globE {v : V} (h : ∃ u, X.mg x = some u ∧ RelV v u) (hg : Gl X x := by rfl) (hd : (x == ("__debug__" : Str)) = false := by decide) : PE X (.Name x pos) (tC v) := by
  obtain ⟨u, hm, r⟩ := h
  exact pe_glob hg hm r hd
end

/-! ### heaps: all but the object at d is kept -/
def Keep (d : Addr) (H H' : Hp) : Prop := ∀ b o, b ≠ d → H b = some o → H' b = some o
def IsDk (H : Hp) (d : Addr) : Prop := ∃ kvs : List (Key × V), H d = some (.dK kvs)
theorem Keep.refl (d : Addr) (H : Hp) : Keep d H H := fun _ _ _ h => h
theorem Keep.trans {d : Addr} {H H1 H2 : Hp} (a : Keep d H H1) (b : Keep d H1 H2) : Keep d H H2 := fun c o n h => b c o n (a c o n h)
theorem Same.toKeep {d : Addr} {H H' : Hp} (s : Same H H') : Keep d H H' := fun c o _ h => s c o h
theorem same_new {H : Hp} {p : Addr} (h : H p = none) (o : HO) : Same H (upd H p o) := fun b u q => by rw [upd_ne (ne_of_none q h)]; exact q
theorem keep_put {d : Addr} {H : Hp} (o : HO) : Keep d H (upd H d o) := fun b u n q => by rw [upd_ne n]; exact q
theorem rd_keep {d : Addr} {H H' : Hp} {a : Addr} {o : HO} (hd : IsDk H d) (k : Keep d H H') (ho : ∀ kvs, o ≠ .dK kvs) (r : Rd H a o) : Rd H' a o := by
  obtain ⟨kvs, hd⟩ := hd
  have ne : a ≠ d := by
    rintro rfl
    rcases r with r | ⟨ob, r⟩
    · rw [hd] at r; exact ho _ (Option.some.inj r).symm
    · rw [hd] at r; cases r
  rcases r with r | ⟨ob, r⟩
  · exact .inl (k _ _ ne r)
  · exact .inr ⟨ob, k _ _ ne r⟩
variable {K : PySem.W.Frag}
theorem seqL_keep {d : Addr} {H H' : Hp} {a : Addr} {xs : List V} (hd : IsDk H d) (k : Keep d H H') (r : SqL K H a xs) : SqL K H' a xs := by
  rcases r with r | r
  · exact .inl (rd_keep hd k (fun _ z => by cases z) r)
  · exact .inr r
theorem seqT_keep {d : Addr} {H H' : Hp} {a : Addr} {xs : List V} (hd : IsDk H d) (k : Keep d H H') (r : SqT K H a xs) : SqT K H' a xs := by
  rcases r with r | r
  · exact .inl (rd_keep hd k (fun _ z => by cases z) r)
  · exact .inr r
mutual
theorem dp_keep {d : Addr} {H H' : Hp} (hd : IsDk H d) (k : Keep d H H') : ∀ (D : PyData) (v : V), Dp K H v D → Dp K H' v D
  | .none, _, h => by cases h; exact .non
  | .bool b, _, h => by cases h; exact .bl b
  | .int i, _, h => by cases h; exact .int i
  | .str x, _, h => by cases h; exact .str x
  | .list ds, _, h => by cases h with | lst hs ha => exact .lst (seqL_keep hd k hs) (dpAll_keep hd k ds _ ha)
  | .tuple ds, _, h => by cases h with | tup hs ha => exact .tup (seqT_keep hd k hs) (dpAll_keep hd k ds _ ha)
  | .dict _, _, h => by cases h
theorem dpAll_keep {d : Addr} {H H' : Hp} (hd : IsDk H d) (k : Keep d H H') : ∀ (Ds : List PyData) (vs : List V), DpAll K H vs Ds → DpAll K H' vs Ds
  | [], _, h => by cases h; exact .nil
  | D :: Ds, _, h => by cases h with | cons h1 h2 => exact .cons (dp_keep hd k D _ h1) (dpAll_keep hd k Ds _ h2)
end
/-- .. the same where nothing is changed -/
theorem rd_same {H H' : Hp} {a : Addr} {o : HO} (k : Same H H') (r : Rd H a o) : Rd H' a o := by
  rcases r with r | ⟨ob, r⟩
  · exact .inl (k _ _ r)
  · exact .inr ⟨ob, k _ _ r⟩
theorem seqT_same {H H' : Hp} {a : Addr} {xs : List V} (k : Same H H') (r : SqT K H a xs) : SqT K H' a xs := by
  rcases r with r | r
  · exact .inl (rd_same k r)
  · exact .inr r
mutual
theorem dp_same {H H' : Hp} (k : Same H H') : ∀ (D : PyData) (v : V), Dp K H v D → Dp K H' v D
  | .none, _, h => by cases h; exact .non
  | .bool b, _, h => by cases h; exact .bl b
  | .int i, _, h => by cases h; exact .int i
  | .str x, _, h => by cases h; exact .str x
  | .list ds, _, h => by cases h with | lst hs ha => exact .lst (k.seq hs) (dpAll_same k ds _ ha)
  | .tuple ds, _, h => by cases h with | tup hs ha => exact .tup (seqT_same k hs) (dpAll_same k ds _ ha)
  | .dict _, _, h => by cases h
theorem dpAll_same {H H' : Hp} (k : Same H H') : ∀ (Ds : List PyData) (vs : List V), DpAll K H vs Ds → DpAll K H' vs Ds
  | [], _, h => by cases h; exact .nil
  | D :: Ds, _, h => by cases h with | cons h1 h2 => exact .cons (dp_same k D _ h1) (dpAll_same k Ds _ h2)
end

/-! ### what isinstance says of data -/
def tagOf : PyData → String
  | .none => "NoneType" | .bool _ => "bool" | .int _ => "int" | .str _ => "str" | .list _ => "list" | .tuple _ => "tuple" | .dict _ => "dict"
theorem tyx_of {H : Hp} {v : V} {D : PyData} (h : Dp K H v D) : TyX K H v (.type (tagOf D)) := by
  cases h with
  | non => exact .base .non
  | bl b => exact .base (.bl b)
  | int i => exact .base (.int i)
  | str x => exact .base (.str x)
  | lst hs _ =>
    rcases hs with (hs | ⟨o, hs⟩) | ⟨o, its, n, lk, c, _⟩
    · exact .base (.lst hs)
    · exact .base (.frz hs)
    · exact .kList lk c
  | tup hs _ =>
    rcases hs with (hs | ⟨o, hs⟩) | ⟨o, its, n, lk, c, _⟩
    · exact .base (.tup hs)
    · exact .fTuple hs
    · exact .kTuple lk c
def isStrD : PyData → Bool | .str _ => true | _ => false
def isTupD : PyData → Bool | .tuple _ => true | _ => false
def isBoolD : PyData → Bool | .bool _ => true | _ => false
theorem kit_str (D : PyData) : PySem.W.kitOne K (.type (tagOf D)) (.type "str") = some (isStrD D) := by
  cases D <;> (refine kit_ty ?_; simp only [tagOf, isStrD]; decide +kernel)
theorem kit_tuple (D : PyData) : PySem.W.kitOne K (.type (tagOf D)) (.type "tuple") = some (isTupD D) := by
  cases D <;> (refine kit_ty ?_; simp only [tagOf, isTupD]; decide +kernel)
theorem kit_bool (D : PyData) : PySem.W.kitOne K (.type (tagOf D)) (.type "bool") = some (isBoolD D) := by
  cases D <;> (refine kit_ty ?_; simp only [tagOf, isBoolD]; decide +kernel)
theorem kit_dict_str : PySem.W.kitOne K (.type "dict") (.type "str") = some false := kit_ty (by decide +kernel)
theorem kit_dict_tuple : PySem.W.kitOne K (.type "dict") (.type "tuple") = some false := kit_ty (by decide +kernel)

/-! ### a comprehension over a text -/
theorem lc_str {x : Str} {g : TG} {tt : TT} {te : TE} {vs : List Nat} {σ : St} {H1 : Hp} {D : Addr} {Qd : Hp → Prop} (Pv : Nat → Hp → Prop) (h0 : Pv 0 (upd H1 D (.lst [])))
    (hs : ∀ i c H, x.cps.toList[i]? = some c → Pv i H → g (.str ⟨#[c]⟩) (wipe σ vs) H fun σ2 H2 => wipe σ2 vs = wipe σ vs ∧ tt σ2 H2 fun b H3 =>
      if b = true then te σ2 H3 fun y H4 => ∃ acc, H4 D = some (.lst acc) ∧ acc.length < sizeLine ∧ Pv (i + 1) (upd H4 D (.lst (acc ++ [y]))) else Pv (i + 1) H3) (hd : ∀ H, Pv x.cps.toList.length H → Qd H) :
    ∃ W : Nat → Nat → Hp → Prop, (∃ m, W 0 m (upd H1 D (.lst []))) ∧ ∀ i m H, W i m H →
      ((Its x).stop i H ∧ Qd H) ∨ ((Its x).go i H ∧ ∃ Nx : Hp → Prop, (∀ H', Nx H' → ∃ m', m' < m ∧ W (i + 1) m' H') ∧ ∀ x_1 H', (Its x).yld i H x_1 H' → g x_1 (wipe σ vs) H' fun σ2 H2 => wipe σ2 vs = wipe σ vs ∧ tt σ2 H2 fun b H3 =>
        if b = true then te σ2 H3 fun y H4 => ∃ acc, H4 D = some (.lst acc) ∧ acc.length < sizeLine ∧ Nx (upd H4 D (.lst (acc ++ [y]))) else Nx H3) := by
  refine ⟨fun i m H => m = x.cps.size - i ∧ i ≤ x.cps.size ∧ Pv i H, ⟨x.cps.size, by simp, Nat.zero_le _, h0⟩, ?_⟩
  rintro i m H ⟨rfl, hi, p⟩
  by_cases hlt : i < x.cps.size
  · refine .inr ⟨hlt, Pv (i + 1), fun H' p' => ⟨x.cps.size - (i + 1), by omega, rfl, hlt, p'⟩, fun v H' y => ?_⟩
    obtain ⟨e, c, hc, ev⟩ := y
    subst e ev
    exact hs i c _ (by rw [Array.getElem?_toList]; exact hc) p
  · have e : i = x.cps.size := by omega
    subst e
    exact .inl ⟨Nat.le_refl _, hd H p⟩
theorem same_fresh {H H' : Hp} {D : Addr} {o : HO} (k : Same H H') (n : H D = none) : Same H (upd H' D o) := fun b u q => by rw [upd_ne (ne_of_none q n)]; exact k _ _ q
theorem keep_fresh {d : Addr} {H H' : Hp} {D : Addr} {o : HO} (k : Keep d H H') (n : H D = none) : Keep d H (upd H' D o) := fun b u nd q => by rw [upd_ne (ne_of_none q n)]; exact k _ _ nd q
theorem take_next {α : Type} {xs : List α} {i : Nat} {c : α} (h : xs[i]? = some c) : xs.take (i + 1) = xs.take i ++ [c] := by
  rw [List.take_add_one, h]
  rfl

/-! ### names and forms -/
def zLetters : Str := Str.ofString "abcdefghijklmnopqrstuvwxyz"
def zDigits : Str := Str.ofString "0123456789"
def isL (c : Nat) : Bool := decide (c ∈ zLetters.cps.toList)
def isLD (c : Nat) : Bool := isL c || decide (c ∈ zDigits.cps.toList)
def isName (z : Str) : Bool := decide (1 ≤ z.length ∧ z.length ≤ 12) && ((z.cps.toList.head?.any isL) && z.cps.toList.all isLD)
def isNameD : PyData → Bool | .str z => isName z | _ => false
theorem inV_str (x : Str) : ∀ zs : List Str, inV (.str x) (zs.map V.str) = decide (x ∈ zs)
  | [] => by simp [inV]
  | z :: zs => by
    have ih := inV_str x zs
    unfold inV at ih ⊢
    rw [List.map_cons, List.any_cons, ih]
    by_cases e : z = x
    · subst e
      simp [eqV]
    · have e' : ¬ x = z := fun q => e q.symm
      simp [eqV, e, e']
def leafW : List Str := [Str.ofString "good", Str.ofString "counter"]
def halfW : List Str := [Str.ofString "both", Str.ofString "between", Str.ofString "offered", Str.ofString "chosen"]
def isForm : Nat → PyData → Bool
  | _, .tuple [.str x, n] => decide (x ∈ leafW) && isNameD n
  | 0, _ => false
  | k + 1, .tuple [.str x, a, b] => decide (x ∈ halfW) && (isForm k a && isForm k b)
  | _ + 1, _ => false
theorem isForm_tup2 (k : Nat) (a n : PyData) : isForm k (.tuple [a, n]) = (match a with | .str x => decide (x ∈ leafW) && isNameD n | _ => false) := by
  cases k <;> cases a <;> rfl
theorem isForm_tup3_0 (a b c : PyData) : isForm 0 (.tuple [a, b, c]) = false := by cases a <;> rfl
theorem isForm_tup3 (k : Nat) (a b c : PyData) : isForm (k + 1) (.tuple [a, b, c]) = (match a with | .str x => decide (x ∈ halfW) && (isForm k b && isForm k c) | _ => false) := by
  cases a <;> rfl
theorem isForm_tup_len (k : Nat) (ds : List PyData) (h2 : ds.length ≠ 2) (h3 : ds.length ≠ 3) : isForm k (.tuple ds) = false := by
  match ds, h2, h3 with
  | [], _, _ => cases k <;> rfl
  | [a], _, _ => cases k <;> cases a <;> rfl
  | [a, b], h, _ => exact absurd rfl h
  | [a, b, c], _, h => exact absurd rfl h
  | a :: b :: c :: d :: r, _, _ => cases k <;> cases a <;> rfl
theorem isForm_not_tup (k : Nat) (D : PyData) (h : isTupD D = false) : isForm k D = false := by
  cases D with
  | tuple ds => cases h
  | _ => cases k <;> rfl
def okStr (z : Str) : Bool := decide (z.length ≤ 1000) && z.cps.toList.all fun c => decide (c < 128)
mutual
def shortD : PyData → Bool
  | .str z => okStr z
  | .list xs => shortAll xs
  | .tuple xs => shortAll xs
  | .dict _ => false
  | _ => true
def shortAll : List PyData → Bool
  | [] => true
  | d :: ds => shortD d && shortAll ds
end
theorem shortAll_cons {d : PyData} {ds : List PyData} (h : shortAll (d :: ds) = true) : shortD d = true ∧ shortAll ds = true := by
  unfold shortAll at h
  exact Bool.and_eq_true_iff.mp h
theorem short_str {D : PyData} (h : shortD D = true) : ∀ z, D = .str z → z.length ≤ 1000 := by
  rintro z rfl
  unfold shortD okStr at h
  exact of_decide_eq_true (Bool.and_eq_true_iff.mp h).1
theorem strOk_of {z : Str} (h : okStr z = true) : PyData.strOk z = true := by
  unfold okStr at h
  unfold PyData.strOk
  have h2 := (Bool.and_eq_true_iff.mp h).2
  rw [List.all_eq_true] at h2
  rw [Array.all_eq_true']
  intro c hc
  have := of_decide_eq_true (h2 c (Array.mem_toList_iff.mpr hc))
  exact decide_eq_true (by omega)
mutual
theorem canLay_of : ∀ D : PyData, shortD D = true → D.canLay0 = true
  | .none, _ => by simp only [PyData.canLay0]
  | .bool _, _ => by simp only [PyData.canLay0]
  | .int _, _ => by simp only [PyData.canLay0]
  | .str x, h => by
    unfold shortD at h
    simp only [PyData.canLay0]
    exact strOk_of h
  | .list xs, h => by
    unfold shortD at h
    simp only [PyData.canLay0]
    exact canLayAll_of xs h
  | .tuple xs, h => by
    unfold shortD at h
    simp only [PyData.canLay0]
    exact canLayAll_of xs h
  | .dict _, h => by cases h
theorem canLayAll_of : ∀ xs : List PyData, shortAll xs = true → PyData.canLayAll0 xs = true
  | [], _ => by simp only [PyData.canLayAll0]
  | x :: xs, h => by
    have h' := shortAll_cons h
    simp only [PyData.canLayAll0, canLay_of x h'.1, canLayAll_of xs h'.2, Bool.and_self]
end
theorem shaped_of {D : PyData} (h : shortD D = true) (d : D.depth ≤ 64) : SeqAt.shaped D = true := by
  unfold SeqAt.shaped
  rw [canLay_of D h, decide_eq_true d]
  rfl
theorem depth_in {d : PyData} {ds : List PyData} (h : d ∈ ds) : d.depth + 1 ≤ (PyData.tuple ds).depth := by
  have key : ∀ ds : List PyData, d ∈ ds → d.depth ≤ PyData.depthAll ds := by
    intro ds
    induction ds with
    | nil => intro h; cases h
    | cons x xs ih =>
      intro h
      simp only [PyData.depthAll]
      rcases List.mem_cons.mp h with rfl | h
      · exact Nat.le_max_left _ _
      · exact Nat.le_trans (ih h) (Nat.le_max_right _ _)
  simp only [PyData.depth]
  have := key ds h
  omega
def memD (d : PyData) (zs : List Str) : Bool := match d with | .str x => decide (x ∈ zs) | _ => false
theorem any_eqv (d : PyData) : ∀ zs : List Str, ((zs.map PyData.str).any fun z => PyData.eqv z d) = memD d zs
  | [] => by cases d <;> rfl
  | z :: zs => by
    rw [List.map_cons, List.any_cons, any_eqv d zs]
    cases d with
    | str x =>
      unfold memD PyData.eqv
      by_cases e : z = x
      · subst e; simp
      · have e' : ¬ x = z := fun q => e q.symm
        simp [e, e']
    | _ => simp [memD, PyData.eqv]
theorem dpAll_strs {H : Hp} : ∀ zs : List Str, DpAll K H (zs.map V.str) (zs.map PyData.str)
  | [] => .nil
  | z :: zs => .cons (.str z) (dpAll_strs zs)
theorem dpAll_len {H : Hp} : ∀ {xs : List V} {ds : List PyData}, DpAll K H xs ds → xs.length = ds.length
  | _, _, .nil => rfl
  | _, _, .cons _ t => congrArg (· + 1) (dpAll_len t)
theorem inV_23 (n : Nat) : inV (.int n) [.int 2, .int 3] = (decide (n = 2) || decide (n = 3)) := by
  unfold inV
  simp only [List.any_cons, List.any_nil, Bool.or_false]
  have h2 : eqV (.int 2) (.int (n : Int)) = decide (n = 2) := by
    by_cases e : n = 2
    · subst e; rfl
    · rw [decide_eq_false e]
      show (if _ then _ else _) = _ <;> simp [eqV] <;> omega
  have h3 : eqV (.int 3) (.int (n : Int)) = decide (n = 3) := by
    by_cases e : n = 3
    · subst e; rfl
    · rw [decide_eq_false e]
      simp [eqV]
      omega
  rw [h2, h3]
end My

set_option Elab.async false
set_option linter.all false
set_option maxRecDepth 100000
namespace My
open PySem L2

structure Txt (K : PySem.W.Frag) (mg : Str → Option Value) where
  isinstance : mg "isinstance" = none
  len : mg "len" = none
  all : mg "all" = none
  str : mg "str" = none
  tuple : mg "tuple" = none
  int : mg "int" = none
  list : mg "list" = none
  abs : mg "abs" = none
  max : mg "max" = none
  min : mg "min" = none
  range : mg "range" = none
  bool : mg "bool" = none
  LETTERS : ∃ u, mg "LETTERS" = some u ∧ RelV (.str zLetters) u
  DIGITS : ∃ u, mg "DIGITS" = some u ∧ RelV (.str zDigits) u
  LONGEST_NAME : ∃ u, mg "LONGEST_NAME" = some u ∧ RelV (.int 12) u
  DEEPEST : ∃ u, mg "DEEPEST" = some u ∧ RelV (.int 12) u
  aLeaf : Addr
  LEAF_WORDS : ∃ u, mg "LEAF_WORDS" = some u ∧ RelV (.ref aLeaf) u
  sLeaf : ∀ H, SqT K H aLeaf (leafW.map V.str)
  aHalf : Addr
  HALVED_WORDS : ∃ u, mg "HALVED_WORDS" = some u ∧ RelV (.ref aHalf) u
  sHalf : ∀ H, SqT K H aHalf (halfW.map V.str)

/-- what is said of a name -/
def spName (K : PySem.W.Frag) : Sp := fun vs H Q _ => ∃ v, vs = [v] ∧
  ((∃ D, Dp K H v D ∧ (∀ z, D = .str z → z.length ≤ 1000) ∧ ∀ H', Same H H' → Q (.bl (isNameD D)) H') ∨ ((∃ (a : Addr) (kvs : List (Key × V)), v = .ref a ∧ H a = some (.dK kvs)) ∧ ∀ H', Same H H' → Q (.bl false) H'))

abbrev sfits_name : Stmt := top 15
abbrev Nfits_name : List Str := ["value", "sign"]
abbrev Pfits_name : List Str := ["value"]
theorem scfits_name : FnScope Nfits_name Pfits_name (defScope sfits_name) := ⟨rfl, rfl, rfl, by decide +kernel, rfl, by decide +kernel, by decide +kernel⟩
section
variable {P : Program} {w : World} {K : PySem.W.Frag} {mg : Str → Option Value} {base : Heap} {f : Addr} {fd : FuncData}

theorem ok_fits_name (T : Txt K mg) (F : Fun K "fits_name" "fits_name" sfits_name f fd) : FnOk P w K mg base CX0 2 f fd Pfits_name (spName K) := by
  refine F.ok scfits_name (fun vs H Q E h => ?_) (fun cdv A outer s H vs Q E hr h => ?_)
  · obtain ⟨v, rfl, _⟩ := h
    rfl
  obtain ⟨v, rfl, h⟩ := h
  refine ⟨_, (pss_cons (ps_if (PW.pt (pw_or (pt_not (pt_val (pe_callB call_isi rfl T.isinstance (by decide +kernel) (pa_cons (pv 0) (pa_cons (pe_bltn (v := .ty "str") rfl T.str (by decide +kernel) rfl) pa_nil))))) (pw_or1 (pt_not (pt_chain op_le op_le pe_int (pe_callB call_len rfl T.len (by decide +kernel) (pa_cons (pv 0) pa_nil)) (pe_globE T.LONGEST_NAME))))))
    (pss_one (ps_ret pe_bl))
    pss_nil)
  (pss_one (ps_ret (pe_and (pe_cmpR op_in_sign (pe_ix ix_seq (pv 0) pe_int (fun _ _ => rfl)) (pe_globE T.LETTERS) rfl) (pe_one (pe_callB (cr_all rfl) rfl T.all (by decide +kernel) (pa_cons (pe_lc (own := [("sign", 1)]) (g := (gName 1)) rfl scfits_name.nd (pi_str (pv 0)) (blkOk_by (own := [("sign", 1)]) (N := Nfits_name) (sc := defScope sfits_name) (by decide +kernel)) (fun _ _ _ _ _ => (pg_name (i := 1) scfits_name.nd rfl (Or.inl rfl))) (fun _ _ _ _ _ => pts_nil) (fun _ _ _ _ _ => (pe_or (pe_cmpR op_in_sign (pv 1) (pe_globE T.LETTERS) rfl) (pe_one (pe_cmpR op_in_sign (pv 1) (pe_globE T.DIGITS) rfl))))) pa_nil))))))), ?_⟩
  rcases h with ⟨D, hv, hz, q⟩ | ⟨⟨a, kvs, rfl, ha⟩, q⟩
  · refine ⟨_, rfl, _, _, _, _, _, rfl, .ty "str", tyx_of hv, kit_str D, _, rfl, ?_⟩
    by_cases hs : isStrD D = true
    · cases D with
      | str z =>
        cases hv
        have hz' : z.length ≤ 1000 := hz z rfl
        have hz2 : z.length ≤ sizeLine := Nat.le_of_lt (small1000 hz')
        refine iteF ⟨_, rfl, _, _, rfl, ⟨hz2, rfl⟩, 1, _, rfl, rfl, _, rfl, ?_⟩
        refine ite2 (fun c1 => ?_) (fun c1 => ?_)
        · refine ⟨_, _, rfl, rfl, _, rfl, ?_⟩
          by_cases c2 : (z.length : Int) ≤ 12
          · rw [decide_eq_true c2]
            have c1' : (1 : Int) ≤ z.length := of_decide_eq_true c1
            refine iteF ?_
            obtain ⟨c, hc⟩ : ∃ c, z.cps.toList[0]? = some c := ⟨_, List.getElem?_eq_getElem (by rw [Array.length_toList]; show 0 < z.length; omega)⟩
            refine ⟨_, rfl, .inr (.inr ⟨z, 0, c, rfl, rfl, hz2, atI_nat hc, c, zLetters, rfl, rfl, _, rfl, ?_⟩)⟩
            have hh : z.cps.toList.head? = some c := by rw [List.head?_eq_getElem?]; exact hc
            have en : isNameD (.str z) = (isL c && z.cps.toList.all isLD) := by
              show isName z = _
              unfold isName
              rw [hh, decide_eq_true (by omega : 1 ≤ z.length ∧ z.length ≤ 12)]
              rfl
            rw [en] at q
            refine ite2 (fun c3 => ?_) (fun c3 => ?_)
            · have c3' : isL c = true := c3
              rw [c3'] at q
              refine ⟨_, rfl, z, rfl, fun D nD => lc_str (x := z) (fun i H' => Same H H' ∧ H' D = some (.lst (((z.cps.toList.take i).map isLD).map V.bl))) ⟨same_new nD _, upd_same⟩ (fun i c H' hc ⟨k, e⟩ => ?_) (fun H' ⟨k, e⟩ => ?_)⟩
              · refine ⟨rfl, _, rfl, c, zLetters, rfl, rfl, _, rfl, ?_⟩
                have fin : ∀ b : Bool, b = isLD c → ∃ acc, H' D = some (HO.lst acc) ∧ acc.length < sizeLine ∧ Same H (upd H' D (.lst (acc ++ [.bl b]))) ∧
                    upd H' D (.lst (acc ++ [.bl b])) D = some (HO.lst (((z.cps.toList.take (i + 1)).map isLD).map V.bl)) := fun b eb => by
                  refine ⟨_, e, small1000 ?_, same_fresh k nD, ?_⟩
                  · rw [List.length_map, List.length_map, List.length_take]
                    have : z.cps.toList.length = z.length := Array.length_toList
                    omega
                  · rw [upd_same, take_next hc, List.map_append, List.map_append, eb]
                    rfl
                refine ite2 (fun c4 => ?_) (fun c4 => ?_)
                · refine fin true ?_
                  have : isL c = true := c4
                  unfold isLD
                  rw [this]
                  rfl
                · refine ⟨_, rfl, c, zDigits, rfl, rfl, ?_⟩
                  have : isL c = false := Bool.eq_false_iff.mpr c4
                  refine fin _ ?_
                  unfold isLD
                  rw [this]
                  rfl
              · rw [List.take_length] at e
                have g := q H' k
                refine ⟨D, z.cps.toList.map isLD, rfl, SqL.of e, ?_⟩
                have e2 : (z.cps.toList.map isLD).all id = z.cps.toList.all isLD := by rw [List.all_map]; rfl
                rw [e2]
                exact g
            · have c3' : isL c = false := Bool.eq_false_iff.mpr c3
              rw [c3'] at q
              exact q H (Same.refl H)
          · rw [decide_eq_false c2]
            refine iteT ?_
            have en : isNameD (.str z) = false := by
              show isName z = _
              unfold isName
              rw [decide_eq_false (by omega)]
              rfl
            rw [en] at q
            exact q H (Same.refl H)
        · have c1' : ¬ (1 : Int) ≤ z.length := fun c => c1 (decide_eq_true c)
          refine ⟨_, rfl, iteT ?_⟩
          have en : isNameD (.str z) = false := by
            show isName z = _
            unfold isName
            rw [decide_eq_false (by omega)]
            rfl
          rw [en] at q
          exact q H (Same.refl H)
      | _ => cases hs
    · have e : isNameD D = false := by cases D <;> first | rfl | exact absurd rfl hs
      rw [Bool.not_eq_true] at hs
      rw [hs]
      refine iteT (iteT ?_)
      have q' := q H (Same.refl H)
      rw [e] at q'
      exact q'
  · exact ⟨_, rfl, _, _, _, _, _, rfl, .ty "str", .base (.dK ha), kit_dict_str, _, rfl, iteT (iteT (q H (Same.refl H)))⟩
end
end My

set_option Elab.async false
set_option linter.all false
set_option maxRecDepth 100000
namespace My
open PySem L2
abbrev sfits_form : Stmt := top 16
abbrev Nfits_form : List Str := ["value", "room"]
abbrev Pfits_form : List Str := ["value", "room"]
theorem scfits_form : FnScope Nfits_form Pfits_form (defScope sfits_form) := ⟨rfl, rfl, rfl, by decide +kernel, rfl, by decide +kernel, by decide +kernel⟩

def spForm (K : PySem.W.Frag) (n : Nat) : Sp := fun vs H Q _ => ∃ (v : V) (k : Nat), vs = [v, .int k] ∧ k < n ∧
  ((∃ D, Dp K H v D ∧ shortD D = true ∧ ∀ H', Same H H' → Q (.bl (isForm k D)) H') ∨ ((∃ (a : Addr) (kvs : List (Key × V)), v = .ref a ∧ H a = some (.dK kvs)) ∧ ∀ H', Same H H' → Q (.bl false) H'))
section
variable {P : Program} {w : World} {K : PySem.W.Frag} {mg : Str → Option Value} {base : Heap} {f : Addr} {fd : FuncData}

theorem ok_fits_form {n : Nat} (T : Txt K mg) (F : Fun K "fits_form" "fits_form" sfits_form f fd) (Cfits_name : Cal P w K mg base "fits_name" 2 ["value"] (spName K)) (Cfits_form : Cal P w K mg base "fits_form" (2 + n) ["value", "room"] (spForm K n)) :
    FnOk P w K mg base CX0 (2 + n + 1) f fd Pfits_form (spForm K (n + 1)) := by
  refine F.ok scfits_form (fun vs H Q E h => ?_) (fun cdv A outer s H vs Q E hr h => ?_)
  · obtain ⟨v, k, rfl, _⟩ := h
    rfl
  obtain ⟨v, k, rfl, hk, h⟩ := h
  refine ⟨_, (pss_cons (ps_if (PW.pt (pw_or (pt_not (pt_val (pe_callB call_isi rfl T.isinstance (by decide +kernel) (pa_cons (pv 0) (pa_cons (pe_bltn (v := .ty "tuple") rfl T.tuple (by decide +kernel) rfl) pa_nil))))) (pw_or (pt_cmpR op_notIn_seq (pe_callB call_len rfl T.len (by decide +kernel) (pa_cons (pv 0) pa_nil)) (pe_tup (pa_cons pe_int (pa_cons pe_int pa_nil))) rfl) (pw_or1 (pt_not (pt_val (pe_callB call_isi rfl T.isinstance (by decide +kernel) (pa_cons (pe_ix ix_tup (pv 0) pe_int (fun _ _ => rfl)) (pa_cons (pe_bltn (v := .ty "str") rfl T.str (by decide +kernel) rfl) pa_nil)))))))))
    (pss_one (ps_ret pe_bl))
    pss_nil)
  (pss_cons (ps_if (pt_cmpR op_eq (pe_callB call_len rfl T.len (by decide +kernel) (pa_cons (pv 0) pa_nil)) pe_int (nomark _))
    (pss_one (ps_ret (pe_and (pe_cmpR op_in_seq (pe_ix ix_tup (pv 0) pe_int (fun _ _ => rfl)) (pe_globE T.LEAF_WORDS) rfl) (pe_one (pe_callC Cfits_name hr (pa_cons (pe_ix ix_tup (pv 0) pe_int (fun _ _ => rfl)) pa_nil))))))
    pss_nil)
  (pss_cons (ps_if (PW.pt (pw_or (pt_cmpR op_notIn_seq (pe_ix ix_tup (pv 0) pe_int (fun _ _ => rfl)) (pe_globE T.HALVED_WORDS) rfl) (pw_or1 (pt_cmpR op_eq (pv 1) pe_int (nomark _)))))
    (pss_one (ps_ret pe_bl))
    pss_nil)
  (pss_one (ps_ret (pe_and (pe_callC Cfits_form hr (pa_cons (pe_ix ix_tup (pv 0) pe_int (fun _ _ => rfl)) (pa_cons (pe_op op_sub (pv 1) pe_int) pa_nil))) (pe_one (pe_callC Cfits_form hr (pa_cons (pe_ix ix_tup (pv 0) pe_int (fun _ _ => rfl)) (pa_cons (pe_op op_sub (pv 1) pe_int) pa_nil)))))))))), ?_⟩
  rcases h with ⟨D, hv, hz, q⟩ | ⟨⟨a, kvs, rfl, ha⟩, q⟩
  · refine ⟨_, rfl, _, _, _, _, _, rfl, .ty "tuple", tyx_of hv, kit_tuple D, _, rfl, ?_⟩
    by_cases hs : isTupD D = true
    · cases D with
      | tuple ds =>
        cases hv with
        | @tup a xs _ hT hA =>
        have hl := dpAll_len hA
        refine iteF ⟨_, rfl, _, _, rfl, .inr ⟨xs, hT, rfl⟩, by show 2 ≤ sizeLine; decide, fun p np => ?_⟩
        have S1 : Same H (upd H p (.tup [.int 2, .int 3])) := same_new np _
        refine ⟨p, _, rfl, .inr (SqT.of upd_same), rfl, rfl, _, rfl, ?_⟩
        show (if (!inV (.int (xs.length : Nat)) [.int 2, .int 3]) = true then _ else _)
        rw [inV_23]
        match ds, xs, hA, hl with
        | [], [], hA, _ =>
          rw [isForm_tup_len _ _ (by simp) (by simp)] at q
          exact iteT (iteT (q _ S1))
        | [d], [x], hA, _ =>
          rw [isForm_tup_len _ _ (by simp) (by simp)] at q
          exact iteT (iteT (q _ S1))
        | [d, e], [x, y], hA, _ =>
          cases hA with | cons hx hA => cases hA with | cons hy _ =>
          have hzx := shortAll_cons (show shortAll [d, e] = true from by unfold shortD at hz; exact hz)
          have hzy := (shortAll_cons hzx.2).1
          refine ⟨_, rfl, a, _, _, x, rfl, rfl, seqT_same S1 hT, rfl, _, _, _, _, _, rfl, .ty "str", tyx_of (dp_same S1 _ _ hx), kit_str d, _, rfl, ?_⟩
          rw [isForm_tup2] at q
          by_cases hd : isStrD d = true
          · cases d with
            | str z =>
              cases hx
              refine iteF ⟨_, rfl, _, _, rfl, .inr ⟨_, seqT_same S1 hT, rfl⟩, rfl, _, rfl, ?_⟩
              refine iteT ⟨_, rfl, a, _, _, _, rfl, rfl, seqT_same S1 hT, rfl, T.aLeaf, _, rfl, .inr (T.sLeaf _), rfl, rfl, _, rfl, ?_⟩
              show (if inV (.str z) (leafW.map V.str) = true then _ else _)
              rw [inV_str]
              by_cases hm : z ∈ leafW
              · rw [decide_eq_true hm]
                refine iteT ⟨_, rfl, a, _, _, y, rfl, rfl, seqT_same S1 hT, rfl, y, rfl, .inl ⟨e, dp_same S1 _ _ hy, short_str hzy, fun H' S2 => ?_⟩⟩
                have g := q H' (S1.trans S2)
                simp only [decide_eq_true hm, Bool.true_and] at g
                exact g
              · rw [decide_eq_false hm]
                have g := q _ S1
                simp only [decide_eq_false hm, Bool.false_and] at g
                exact iteF g
            | _ => cases hd
          · rw [Bool.not_eq_true] at hd
            rw [hd]
            have g := q _ S1
            have g2 : Q (.bl false) (upd H p (.tup [.int 2, .int 3])) := by
              cases d <;> first | exact g | cases hd
            exact g2
        | [d, e, g], [x, y, z], hA, _ =>
          cases hA with | cons hx hA => cases hA with | cons hy hA => cases hA with | cons hw _ =>
          have hzx := shortAll_cons (show shortAll [d, e, g] = true from by unfold shortD at hz; exact hz)
          have hzy := shortAll_cons hzx.2
          have hzw := (shortAll_cons hzy.2).1
          refine ⟨_, rfl, a, _, _, x, rfl, rfl, seqT_same S1 hT, rfl, _, _, _, _, _, rfl, .ty "str", tyx_of (dp_same S1 _ _ hx), kit_str d, _, rfl, ?_⟩
          by_cases hd : isStrD d = true
          · cases d with
            | str t =>
              cases hx
              refine iteF ⟨_, rfl, _, _, rfl, .inr ⟨_, seqT_same S1 hT, rfl⟩, rfl, _, rfl, ?_⟩
              refine iteF ⟨_, rfl, a, _, _, _, rfl, rfl, seqT_same S1 hT, rfl, T.aHalf, _, rfl, .inr (T.sHalf _), rfl, rfl, _, rfl, ?_⟩
              show (if (!inV (.str t) (halfW.map V.str)) = true then _ else _)
              rw [inV_str]
              cases k with
              | zero =>
                rw [isForm_tup3_0] at q
                by_cases hm : t ∈ halfW
                · rw [decide_eq_true hm]
                  exact iteF ⟨_, rfl, rfl, _, rfl, iteT (q _ S1)⟩
                · rw [decide_eq_false hm]
                  exact iteT (iteT (q _ S1))
              | succ k =>
                rw [isForm_tup3] at q
                by_cases hm : t ∈ halfW
                · rw [decide_eq_true hm]
                  refine iteF ⟨_, rfl, rfl, _, rfl, ?_⟩
                  have ek : ¬ V.int ((k + 1 : Nat) : Int) = V.int 0 := fun z => by
                    have := V.int.inj z
                    omega
                  rw [decide_eq_false ek]
                  have e1 : ((k + 1 : Nat) : Int) - 1 = (k : Int) := by omega
                  refine iteF ⟨_, rfl, a, _, _, y, rfl, rfl, seqT_same S1 hT, rfl, _, rfl, _, _, rfl, rfl, ?_⟩
                  refine ⟨y, k, congrArg (fun i => [y, V.int i]) e1, by omega, .inl ⟨e, dp_same S1 _ _ hy, hzy.1, fun H2 S2 => ?_⟩⟩
                  have S3 := S1.trans S2
                  refine ⟨_, rfl, ?_⟩
                  by_cases hb : isForm k e = true
                  · rw [hb]
                    refine iteT ⟨_, rfl, a, _, _, z, rfl, rfl, seqT_same S3 hT, rfl, _, rfl, _, _, rfl, rfl, ?_⟩
                    refine ⟨z, k, congrArg (fun i => [z, V.int i]) e1, by omega, .inl ⟨g, dp_same S3 _ _ hw, hzw, fun H4 S4 => ?_⟩⟩
                    have g := q H4 (S3.trans S4)
                    simp only [decide_eq_true hm, Bool.true_and, hb] at g
                    exact g
                  · rw [Bool.not_eq_true] at hb
                    rw [hb]
                    have g := q H2 S3
                    simp only [hb, Bool.false_and, Bool.and_false] at g
                    exact iteF g
                · rw [decide_eq_false hm]
                  have g := q _ S1
                  simp only [decide_eq_false hm, Bool.false_and] at g
                  exact iteT (iteT g)
            | _ => cases hd
          · rw [Bool.not_eq_true] at hd
            rw [hd]
            have g := q _ S1
            have g2 : Q (.bl false) (upd H p (.tup [.int 2, .int 3])) := by
              cases k with
              | zero => rw [isForm_tup3_0] at g; exact g
              | succ k => rw [isForm_tup3] at g; cases d <;> first | exact g | cases hd
            exact g2
        | d :: e :: g :: i :: ds, x, hA, hl =>
          have e2 : x.length ≠ 2 := by rw [hl]; simp
          have e3 : x.length ≠ 3 := by rw [hl]; simp
          rw [decide_eq_false e2, decide_eq_false e3]
          have g := q _ S1
          rw [isForm_tup_len _ _ (by simp) (by simp)] at g
          exact iteT (iteT g)
      | _ => cases hs
    · rw [Bool.not_eq_true] at hs
      rw [hs]
      have q' := q H (Same.refl H)
      rw [isForm_not_tup k D hs] at q'
      exact iteT (iteT q')
  · exact ⟨_, rfl, _, _, _, _, _, rfl, .ty "tuple", .base (.dK ha), kit_dict_tuple, _, rfl, iteT (iteT (q H (Same.refl H)))⟩
end
end My

set_option Elab.async false
set_option linter.all false
set_option maxRecDepth 100000
namespace My
open PySem L2
abbrev s_law_is_name : Stmt := top 48
abbrev N_law_is_name : List Str := ["_law_value", "_law_sign"]
abbrev P_law_is_name : List Str := ["_law_value"]
theorem sc_law_is_name : FnScope N_law_is_name P_law_is_name (defScope s_law_is_name) := ⟨rfl, rfl, rfl, by decide +kernel, rfl, by decide +kernel, by decide +kernel⟩
abbrev s_law_is_form : Stmt := top 49
abbrev N_law_is_form : List Str := ["_law_value", "_law_tall"]
abbrev P_law_is_form : List Str := ["_law_value", "_law_tall"]
theorem sc_law_is_form : FnScope N_law_is_form P_law_is_form (defScope s_law_is_form) := ⟨rfl, rfl, rfl, by decide +kernel, rfl, by decide +kernel, by decide +kernel⟩
abbrev Nis_name : List Str := ["value"]
abbrev Pis_name : List Str := ["value"]
abbrev Nis_form : List Str := ["value"]
abbrev Pis_form : List Str := ["value"]
abbrev N_law_says : List Str := ["_law_told", "_law_due"]
abbrev P_law_says : List Str := ["_law_told", "_law_due"]
def zBoth : Str := Str.ofString "abcdefghijklmnopqrstuvwxyz0123456789"
theorem isLD_both (c : Nat) : decide (c ∈ zBoth.cps.toList) = isLD c := by
  have e : zBoth.cps.toList = zLetters.cps.toList ++ zDigits.cps.toList := by decide +kernel
  unfold isLD isL
  rw [e, ← Bool.decide_or]
  exact decide_eq_decide.mpr List.mem_append
theorem head_some {z : Str} (h : 1 ≤ z.length) : ∃ c, z.cps.toList[0]? = some c := ⟨_, List.getElem?_eq_getElem (by rw [Array.length_toList]; show 0 < z.length; omega)⟩
theorem isName_eq {z : Str} {c : Nat} (h1 : 1 ≤ z.length) (h2 : z.length ≤ 12) (hc : z.cps.toList[0]? = some c) : isName z = (isL c && z.cps.toList.all isLD) := by
  have hh : z.cps.toList.head? = some c := by rw [List.head?_eq_getElem?]; exact hc
  unfold isName
  rw [hh, decide_eq_true ⟨h1, h2⟩]
  rfl
theorem isName_out {z : Str} (h : ¬ (1 ≤ z.length ∧ z.length ≤ 12)) : isName z = false := by
  unfold isName
  rw [decide_eq_false h]
  rfl
theorem isForm_m2 (k : Nat) (a n : PyData) : isForm k (.tuple [a, n]) = (memD a leafW && isNameD n) := by rw [isForm_tup2]; cases a <;> rfl
theorem isForm_m3 (k : Nat) (a b c : PyData) : isForm (k + 1) (.tuple [a, b, c]) = (memD a halfW && (isForm k b && isForm k c)) := by rw [isForm_tup3]; cases a <;> rfl
/-- what is said of a form, all of which may be compared -/
def spFormL (K : PySem.W.Frag) (n : Nat) : Sp := fun vs H Q _ => ∃ (v : V) (k : Nat) (D : PyData), vs = [v, .int k] ∧ k < n ∧ Dp K H v D ∧ shortD D = true ∧ D.depth ≤ 60 ∧ ∀ H', Same H H' → Q (.bl (isForm k D)) H'
def spIsForm (K : PySem.W.Frag) : Sp := fun vs H Q _ => ∃ (v : V), vs = [v] ∧
  ((∃ D, Dp K H v D ∧ shortD D = true ∧ ∀ H', Same H H' → Q (.bl (isForm 12 D)) H') ∨ ((∃ (a : Addr) (kvs : List (Key × V)), v = .ref a ∧ H a = some (.dK kvs)) ∧ ∀ H', Same H H' → Q (.bl false) H'))
def spSays : Sp := fun vs H Q _ => ∃ a b : Bool, vs = [.bl a, .bl b] ∧ Q (.bl (a == b)) H
section
variable {P : Program} {w : World} {K : PySem.W.Frag} {mg : Str → Option Value} {base : Heap} {f : Addr} {fd : FuncData}
theorem ok_law_is_name (T : Txt K mg) (F : Fun K "_law_is_name" "_law_is_name" s_law_is_name f fd) : FnOk P w K mg base CX0 2 f fd P_law_is_name (spName K) := by
  refine F.ok sc_law_is_name (fun vs H Q E h => ?_) (fun cdv A outer s H vs Q E hr h => ?_)
  · obtain ⟨v, rfl, _⟩ := h
    rfl
  obtain ⟨v, rfl, h⟩ := h
  refine ⟨_, (pss_cons (ps_if (PW.pt (pw_or (pt_not (pt_val (pe_callB call_isi rfl T.isinstance (by decide +kernel) (pa_cons (pv 0) (pa_cons (pe_bltn (v := .ty "str") rfl T.str (by decide +kernel) rfl) pa_nil))))) (pw_or (pt_not (pt_chain op_le op_le pe_int (pe_callB call_len rfl T.len (by decide +kernel) (pa_cons (pv 0) pa_nil)) pe_int)) (pw_or1 (pt_cmpR op_notIn_sign (pe_ix ix_str (pv 0) pe_int (fun _ _ => rfl)) pe_str rfl)))))
    (pss_one (ps_ret pe_bl))
    pss_nil)
  (pss_one (ps_ret (pe_callB (cr_all rfl) rfl T.all (by decide +kernel) (pa_cons (pe_lc (own := [("_law_sign", 1)]) (g := (gName 1)) rfl sc_law_is_name.nd (pi_str (pv 0)) (blkOk_by (own := [("_law_sign", 1)]) (N := N_law_is_name) (sc := defScope s_law_is_name) (by decide +kernel)) (fun _ _ _ _ _ => (pg_name (i := 1) sc_law_is_name.nd rfl (Or.inl rfl))) (fun _ _ _ _ _ => pts_nil) (fun _ _ _ _ _ => (pe_cmpR op_in_sign (pv 1) pe_str rfl))) pa_nil))))), ?_⟩
  rcases h with ⟨D, hv, hz, q⟩ | ⟨⟨a, kvs, rfl, ha⟩, q⟩
  · refine ⟨_, rfl, _, _, _, _, _, rfl, .ty "str", tyx_of hv, kit_str D, _, rfl, ?_⟩
    by_cases hs : isStrD D = true
    · cases D with
      | str z =>
        cases hv
        have hz' : z.length ≤ 1000 := hz z rfl
        have hz2 : z.length ≤ sizeLine := Nat.le_of_lt (small1000 hz')
        refine iteF ⟨_, rfl, _, _, rfl, ⟨hz2, rfl⟩, 1, _, rfl, rfl, _, rfl, ?_⟩
        refine ite2 (fun c1 => ?_) (fun c1 => ?_)
        · refine ⟨_, _, rfl, rfl, _, rfl, ?_⟩
          by_cases c2 : (z.length : Int) ≤ 12
          · rw [decide_eq_true c2]
            have c1' : (1 : Int) ≤ z.length := of_decide_eq_true c1
            obtain ⟨c, hc⟩ := head_some (z := z) (by omega)
            have en : isNameD (.str z) = (isL c && z.cps.toList.all isLD) := isName_eq (by omega) (by omega) hc
            rw [en] at q
            refine iteF ⟨_, rfl, z, 0, c, rfl, rfl, hz2, atI_nat hc, c, zLetters, rfl, rfl, _, rfl, ?_⟩
            show (if (!isL c) = true then _ else _)
            by_cases c3 : isL c = true
            · rw [c3] at q ⊢
              refine iteF ?_
              refine ⟨_, rfl, z, rfl, fun D nD => lc_str (x := z) (fun i H' => Same H H' ∧ H' D = some (.lst (((z.cps.toList.take i).map isLD).map V.bl))) ⟨same_new nD _, upd_same⟩ (fun i c H' hc ⟨k, e⟩ => ?_) (fun H' ⟨k, e⟩ => ?_)⟩
              · refine ⟨rfl, _, rfl, c, zBoth, rfl, rfl, ?_⟩
                refine ⟨_, e, small1000 ?_, same_fresh k nD, ?_⟩
                · rw [List.length_map, List.length_map, List.length_take]
                  have : z.cps.toList.length = z.length := Array.length_toList
                  omega
                · rw [upd_same, take_next hc, List.map_append, List.map_append, isLD_both]
                  rfl
              · rw [List.take_length] at e
                have g := q H' k
                refine ⟨D, z.cps.toList.map isLD, rfl, SqL.of e, ?_⟩
                have e2 : (z.cps.toList.map isLD).all id = z.cps.toList.all isLD := by rw [List.all_map]; rfl
                rw [e2]
                exact g
            · rw [Bool.not_eq_true] at c3
              rw [c3] at q ⊢
              exact iteT (q H (Same.refl H))
          · rw [decide_eq_false c2]
            rw [show isNameD (.str z) = false from isName_out (by omega)] at q
            exact q H (Same.refl H)
        · have c1' : ¬ (1 : Int) ≤ z.length := fun c => c1 (decide_eq_true c)
          rw [show isNameD (.str z) = false from isName_out (by omega)] at q
          exact ⟨_, rfl, q H (Same.refl H)⟩
      | _ => cases hs
    · have e : isNameD D = false := by cases D <;> first | rfl | exact absurd rfl hs
      rw [Bool.not_eq_true] at hs
      rw [hs]
      have q' := q H (Same.refl H)
      rw [e] at q'
      exact q'
  · exact ⟨_, rfl, _, _, _, _, _, rfl, .ty "str", .base (.dK ha), kit_dict_str, _, rfl, q H (Same.refl H)⟩
theorem ok_law_is_form {n : Nat} (T : Txt K mg) (F : Fun K "_law_is_form" "_law_is_form" s_law_is_form f fd) (C_law_is_name : Cal P w K mg base "_law_is_name" 2 ["_law_value"] (spName K)) (C_law_is_form : Cal P w K mg base "_law_is_form" (2 + n) ["_law_value", "_law_tall"] (spFormL K n)) :
    FnOk P w K mg base CX0 (2 + n + 1) f fd P_law_is_form (spFormL K (n + 1)) := by
  refine F.ok sc_law_is_form (fun vs H Q E h => ?_) (fun cdv A outer s H vs Q E hr h => ?_)
  · obtain ⟨v, k, D, rfl, _⟩ := h
    rfl
  obtain ⟨v, k, D, rfl, hk, hv, hz, hd0, q⟩ := h
  have hu : A.units + 65 + 3 < cLine := by
    have := hr.un
    have e : (A.deeper (PyProof.Rows.envOfC (Str.ofString "_law_is_form") (defScope s_law_is_form) s.heap.objs.size f cdv)).units = A.units + 3 := rfl
    omega
  refine ⟨_, (pss_cons (ps_if (PW.pt (pw_or (pt_not (pt_val (pe_callB call_isi rfl T.isinstance (by decide +kernel) (pa_cons (pv 0) (pa_cons (pe_bltn (v := .ty "tuple") rfl T.tuple (by decide +kernel) rfl) pa_nil))))) (pw_or1 (pt_cmpR op_notIn_seq (pe_callB call_len rfl T.len (by decide +kernel) (pa_cons (pv 0) pa_nil)) (pe_lst (pa_cons pe_int (pa_cons pe_int pa_nil))) rfl))))
    (pss_one (ps_ret pe_bl))
    pss_nil)
  (pss_cons (ps_if (pt_cmpR op_eq (pe_callB call_len rfl T.len (by decide +kernel) (pa_cons (pv 0) pa_nil)) pe_int (nomark _))
    (pss_one (ps_ret (pe_and (pe_cmpR (op_inD (by show A.units + 3 + 65 < cLine; omega)) (pe_ix ix_tup (pv 0) pe_int (fun _ _ => rfl)) (pe_lst (pa_cons pe_str (pa_cons pe_str pa_nil))) rfl) (pe_one (pe_callC C_law_is_name hr (pa_cons (pe_ix ix_tup (pv 0) pe_int (fun _ _ => rfl)) pa_nil))))))
    pss_nil)
  (pss_cons (ps_if (PW.pt (pw_or (pt_cmpR op_eq (pv 1) pe_int (nomark _)) (pw_or1 (pt_cmpR (op_notInD (by show A.units + 3 + 65 < cLine; omega)) (pe_ix ix_tup (pv 0) pe_int (fun _ _ => rfl)) (pe_lst (pa_cons pe_str (pa_cons pe_str (pa_cons pe_str (pa_cons pe_str pa_nil))))) rfl))))
    (pss_one (ps_ret pe_bl))
    pss_nil)
  (pss_one (ps_ret (pe_and (pe_callC C_law_is_form hr (pa_cons (pe_ix ix_tup (pv 0) pe_int (fun _ _ => rfl)) (pa_cons (pe_op op_sub (pv 1) pe_int) pa_nil))) (pe_one (pe_callC C_law_is_form hr (pa_cons (pe_ix ix_tup (pv 0) pe_int (fun _ _ => rfl)) (pa_cons (pe_op op_sub (pv 1) pe_int) pa_nil)))))))))), ?_⟩
  refine ⟨_, rfl, _, _, _, _, _, rfl, .ty "tuple", tyx_of hv, kit_tuple D, _, rfl, ?_⟩
  by_cases hs : isTupD D = true
  · cases D with
    | tuple ds =>
      cases hv with
      | @tup a xs _ hT hA =>
      have hl := dpAll_len hA
      refine iteF ⟨_, rfl, _, _, rfl, .inr ⟨xs, hT, rfl⟩, by show 2 ≤ sizeLine; decide, fun p np => ?_⟩
      have S1 : Same H (upd H p (.lst [.int 2, .int 3])) := same_new np _
      refine ⟨p, _, rfl, .inl (SqL.of upd_same), rfl, rfl, _, rfl, ?_⟩
      show (if (!inV (.int (xs.length : Nat)) [.int 2, .int 3]) = true then _ else _)
      rw [inV_23]
      match ds, xs, hA, hl with
      | [], [], hA, _ =>
        rw [isForm_tup_len _ _ (by simp) (by simp)] at q
        exact iteT (q _ S1)
      | [d], [x], hA, _ =>
        rw [isForm_tup_len _ _ (by simp) (by simp)] at q
        exact iteT (q _ S1)
      | d :: e :: g :: i :: ds, x, hA, hl =>
        have e2 : x.length ≠ 2 := by rw [hl]; simp
        have e3 : x.length ≠ 3 := by rw [hl]; simp
        rw [decide_eq_false e2, decide_eq_false e3]
        have g := q _ S1
        rw [isForm_tup_len _ _ (by simp) (by simp)] at g
        exact iteT g
      | [d, e], [x, y], hA, _ =>
        cases hA with | cons hx hA => cases hA with | cons hy _ =>
        have hzx := shortAll_cons (show shortAll [d, e] = true from by unfold shortD at hz; exact hz)
        have hzy := (shortAll_cons hzx.2).1
        have dx := depth_in (d := d) (ds := [d, e]) (by simp)
        refine iteF ⟨_, rfl, _, _, rfl, .inr ⟨_, seqT_same S1 hT, rfl⟩, rfl, _, rfl, ?_⟩
        refine iteT ⟨_, rfl, a, _, _, x, rfl, rfl, seqT_same S1 hT, rfl, by show 2 ≤ sizeLine; decide, fun p2 np2 => ?_⟩
        have S2 := S1.trans (same_new np2 (.lst [.str (Str.ofString "good"), .str (Str.ofString "counter")]))
        refine ⟨d, leafW.map PyData.str, dp_same S2 _ _ hx, .lst (SqL.of upd_same) (dpAll_strs leafW), shaped_of hzx.1 (by omega), by decide +kernel, _, rfl, ?_⟩
        rw [any_eqv]
        rw [isForm_m2] at q
        by_cases hm : memD d leafW = true
        · rw [hm] at q ⊢
          exact iteT ⟨_, rfl, a, _, _, y, rfl, rfl, seqT_same S2 hT, rfl, y, rfl, .inl ⟨e, dp_same S2 _ _ hy, short_str hzy, fun H' S3 => q H' (S2.trans S3)⟩⟩
        · rw [Bool.not_eq_true] at hm
          rw [hm] at q ⊢
          exact iteF (q _ S2)
      | [d, e, g], [x, y, z], hA, _ =>
        cases hA with | cons hx hA => cases hA with | cons hy hA => cases hA with | cons hw _ =>
        have hzx := shortAll_cons (show shortAll [d, e, g] = true from by unfold shortD at hz; exact hz)
        have hzy := shortAll_cons hzx.2
        have hzw := (shortAll_cons hzy.2).1
        have dx := depth_in (d := d) (ds := [d, e, g]) (by simp)
        have dy := depth_in (d := e) (ds := [d, e, g]) (by simp)
        have dw := depth_in (d := g) (ds := [d, e, g]) (by simp)
        refine iteF ⟨_, rfl, _, _, rfl, .inr ⟨_, seqT_same S1 hT, rfl⟩, rfl, _, rfl, ?_⟩
        cases k with
        | zero =>
          rw [isForm_tup3_0] at q
          exact iteF ⟨_, rfl, rfl, _, rfl, iteT (q _ S1)⟩
        | succ k =>
          have ek : ¬ V.int ((k + 1 : Nat) : Int) = V.int 0 := fun z => by
            have := V.int.inj z
            omega
          have e1 : ((k + 1 : Nat) : Int) - 1 = (k : Int) := by omega
          refine iteF ⟨_, rfl, rfl, _, rfl, ?_⟩
          rw [decide_eq_false ek]
          refine iteF ⟨_, rfl, a, _, _, x, rfl, rfl, seqT_same S1 hT, rfl, by show 4 ≤ sizeLine; decide, fun p2 np2 => ?_⟩
          have S2 := S1.trans (same_new np2 (.lst [.str (Str.ofString "both"), .str (Str.ofString "between"), .str (Str.ofString "offered"), .str (Str.ofString "chosen")]))
          refine ⟨d, halfW.map PyData.str, dp_same S2 _ _ hx, .lst (SqL.of upd_same) (dpAll_strs halfW), shaped_of hzx.1 (by omega), by decide +kernel, _, rfl, ?_⟩
          rw [any_eqv]
          rw [isForm_m3] at q
          by_cases hm : memD d halfW = true
          · rw [hm] at q ⊢
            refine iteF ⟨_, rfl, a, _, _, y, rfl, rfl, seqT_same S2 hT, rfl, _, rfl, _, _, rfl, rfl, ?_⟩
            refine ⟨y, k, e, congrArg (fun i => [y, V.int i]) e1, by omega, dp_same S2 _ _ hy, hzy.1, by omega, fun H3 S3' => ?_⟩
            have S3 := S2.trans S3'
            refine ⟨_, rfl, ?_⟩
            by_cases hb : isForm k e = true
            · rw [hb] at q ⊢
              refine iteT ⟨_, rfl, a, _, _, z, rfl, rfl, seqT_same S3 hT, rfl, _, rfl, _, _, rfl, rfl, ?_⟩
              exact ⟨z, k, g, congrArg (fun i => [z, V.int i]) e1, by omega, dp_same S3 _ _ hw, hzw, by omega, fun H4 S4 => q H4 (S3.trans S4)⟩
            · rw [Bool.not_eq_true] at hb
              rw [hb] at q ⊢
              exact iteF (q _ S3)
          · rw [Bool.not_eq_true] at hm
            rw [hm] at q ⊢
            exact iteT (q _ S2)
    | _ => cases hs
  · rw [Bool.not_eq_true] at hs
    rw [hs]
    have q' := q H (Same.refl H)
    rw [isForm_not_tup k D hs] at q'
    exact q'
end
end My

set_option Elab.async false
set_option linter.all false
set_option maxRecDepth 100000
namespace My
open PySem L2
/-! ### the source of draws -/
def penK (L : Addr) (b l : Int) : List (Key × V) := [(.inr (Str.ofString "cells"), .ref L), (.inr (Str.ofString "begun"), .int b), (.inr (Str.ofString "left"), .int l)]
structure Pen (K : PySem.W.Frag) (H : Hp) (d L : Addr) (ns : List Int) (n : Nat) : Prop where
  ex : ∃ b l : Int, H d = some (.dK (penK L b l)) ∧ 0 ≤ b ∧ b ≤ n
  cells : SqL K H L (ns.map V.int)
  few : ns.length ≤ 63
section
variable {K : PySem.W.Frag} {H H' : Hp} {d L : Addr} {ns : List Int} {n m : Nat}
theorem Pen.isDk (p : Pen K H d L ns n) : IsDk H d := by
  obtain ⟨b, l, h, _⟩ := p.ex
  exact ⟨_, h⟩
theorem Pen.same (p : Pen K H d L ns n) (k : Same H H') : Pen K H' d L ns n := by
  obtain ⟨b, l, h, h0⟩ := p.ex
  exact ⟨⟨b, l, k _ _ h, h0⟩, k.seq p.cells, p.few⟩
theorem Pen.mono (p : Pen K H d L ns n) (h : n ≤ m) : Pen K H d L ns m := by
  obtain ⟨b, l, e, h0, h1⟩ := p.ex
  exact ⟨⟨b, l, e, h0, by omega⟩, p.cells, p.few⟩
/-- .. behind a change elsewhere: D is new since H -/
theorem Pen.fresh {D : Addr} {o : HO} {H0 : Hp} (p : Pen K H d L ns n) (k : Keep d H0 H) (c0 : SqL K H0 L (ns.map V.int)) (hd : IsDk H0 d) (nD : H0 D = none) : Pen K (upd H D o) d L ns n := by
  obtain ⟨b, l, h, h0⟩ := p.ex
  have ne : d ≠ D := by
    obtain ⟨kvs, e⟩ := hd
    exact ne_of_none e nD
  exact ⟨⟨b, l, by rw [upd_ne ne]; exact h, h0⟩, seqL_keep hd (keep_fresh k nD) c0, p.few⟩
theorem Pen.put {b l : Int} (p : Pen K H d L ns n) (h0 : 0 ≤ b) (h1 : b ≤ m) : Pen K (upd H d (.dK (penK L b l))) d L ns m :=
  ⟨⟨b, l, upd_same, h0, h1⟩, seqL_keep p.isDk (keep_put _) p.cells, p.few⟩
theorem get_cells {b l : Int} (h : H d = some (.dK (penK L b l))) : DGet H d (.str (Str.ofString "cells")) (some (.ref L)) := DGet.k (k := .inr (Str.ofString "cells")) h
theorem get_begun {b l : Int} (h : H d = some (.dK (penK L b l))) : DGet H d (.str (Str.ofString "begun")) (some (.int b)) := DGet.k (k := .inr (Str.ofString "begun")) h
theorem get_left {b l : Int} (h : H d = some (.dK (penK L b l))) : DGet H d (.str (Str.ofString "left")) (some (.int l)) := DGet.k (k := .inr (Str.ofString "left")) h
theorem put_begun {b l b' : Int} (h : H d = some (.dK (penK L b l))) : DPut H d (.str (Str.ofString "begun")) (.int b') (upd H d (.dK (penK L b' l))) := DPut.k (k := .inr (Str.ofString "begun")) h (by show 3 < sizeLine; decide)
theorem put_left {b l l' : Int} (h : H d = some (.dK (penK L b l))) : DPut H d (.str (Str.ofString "left")) (.int l') (upd H d (.dK (penK L b l'))) := DPut.k (k := .inr (Str.ofString "left")) h (by show 3 < sizeLine; decide)
theorem dpAll_ints : ∀ ns : List Int, DpAll K H (ns.map V.int) (ns.map PyData.int)
  | [] => .nil
  | n :: ns => .cons (.int n) (dpAll_ints ns)
theorem shaped_ints (ns : List Int) : SeqAt.shaped (.list (ns.map PyData.int)) = true := by
  have h1 : ∀ ns : List Int, PyData.canLayAll0 (ns.map PyData.int) = true := by
    intro ns
    induction ns with
    | nil => simp only [List.map_nil, PyData.canLayAll0]
    | cons n ns ih => simp only [List.map_cons, PyData.canLayAll0, PyData.canLay0, ih, Bool.and_self]
  have h2 : ∀ ns : List Int, PyData.depthAll (ns.map PyData.int) = 0 := by
    intro ns
    induction ns with
    | nil => simp only [List.map_nil, PyData.depthAll]
    | cons n ns ih => simp only [List.map_cons, PyData.depthAll, PyData.depth, ih, Nat.max_self]
  unfold SeqAt.shaped
  simp only [PyData.canLay0, PyData.depth, h1, h2]
  decide
theorem eqv_nil (ns : List Int) : PyData.eqv (.list (ns.map PyData.int)) (.list []) = ns.isEmpty := by
  cases ns <;> simp [PyData.eqv, PyData.eqvAll]
end
abbrev s_law_begin : Stmt := top 33
abbrev N_law_begin : List Str := ["_law_script"]
abbrev P_law_begin : List Str := ["_law_script"]
theorem sc_law_begin : FnScope N_law_begin P_law_begin (defScope s_law_begin) := ⟨rfl, rfl, rfl, by decide +kernel, rfl, by decide +kernel, by decide +kernel⟩
abbrev s_law_draw : Stmt := top 34
abbrev N_law_draw : List Str := ["_law_pen", "_law_span", "_law_digit", "_law_at", "_law_cell", "_law_n"]
abbrev P_law_draw : List Str := ["_law_pen", "_law_span"]
theorem sc_law_draw : FnScope N_law_draw P_law_draw (defScope s_law_draw) := ⟨rfl, rfl, rfl, by decide +kernel, rfl, by decide +kernel, by decide +kernel⟩
abbrev s_law_pick : Stmt := top 35
abbrev N_law_pick : List Str := ["_law_pen", "_law_some"]
abbrev P_law_pick : List Str := ["_law_pen", "_law_some"]
theorem sc_law_pick : FnScope N_law_pick P_law_pick (defScope s_law_pick) := ⟨rfl, rfl, rfl, by decide +kernel, rfl, by decide +kernel, by decide +kernel⟩
def spBegin (K : PySem.W.Frag) : Sp := fun vs H Q _ => ∃ (a : Addr) (ns : List Int), vs = [.ref a] ∧ SqL K H a (ns.map V.int) ∧ ns.length ≤ 63 ∧ ∀ d L H', Same H H' → Pen K H' d L ns 0 → Q (.ref d) H'
def spDraw (K : PySem.W.Frag) : Sp := fun vs H Q _ => ∃ (d L : Addr) (ns : List Int) (n : Nat) (m : Int), vs = [.ref d, .int m] ∧ Pen K H d L ns n ∧ n < 2 ^ 40 ∧ 0 < m ∧ m ≤ 2 ^ 20 ∧
  ∀ (r : Int) H', 0 ≤ r → r < m → Keep d H H' → Pen K H' d L ns (n + 1) → Q (.int r) H'
def spPick (K : PySem.W.Frag) : Sp := fun vs H Q _ => ∃ (d L : Addr) (ns : List Int) (n : Nat) (v : V), vs = [.ref d, v] ∧ Pen K H d L ns n ∧ n < 2 ^ 40 ∧
  ((∃ (a : Addr) (xs : List V), v = .ref a ∧ SqL K H a xs ∧ xs ≠ [] ∧ xs.length ≤ 1000 ∧ ∀ x H', x ∈ xs → Keep d H H' → Pen K H' d L ns (n + 1) → Q x H') ∨
   (∃ z : Str, v = .str z ∧ 1 ≤ z.length ∧ z.length ≤ 1000 ∧ ∀ c H', c ∈ z.cps.toList → Keep d H H' → Pen K H' d L ns (n + 1) → Q (.str ⟨#[c]⟩) H'))
section
variable {P : Program} {w : World} {K : PySem.W.Frag} {mg : Str → Option Value} {base : Heap} {f : Addr} {fd : FuncData}
theorem ok_law_begin (T : Txt K mg) (F : Fun K "_law_begin" "_law_begin" s_law_begin f fd) : FnOk P w K mg base CX0 1 f fd P_law_begin (spBegin K) := by
  refine F.ok sc_law_begin (fun vs H Q E h => ?_) (fun cdv A outer s H vs Q E hr h => ?_)
  · obtain ⟨a, ns, rfl, _⟩ := h
    rfl
  obtain ⟨a, ns, rfl, hS, h63, q⟩ := h
  refine ⟨_, (pss_one (ps_ret (pe_disp (pps_cons pe_str (pe_callTy call_list_of rfl T.list (by decide +kernel) (pa_cons (pe_slice sl_list (pv 0) po_none (po_some pe_int)) pa_nil)) (pps_cons pe_str pe_int (pps_cons pe_str pe_int pps_nil))) (by rfl) (by rfl) (fun z => by cases z) (by decide)))), ?_⟩
  refine fun d nd => ⟨_, rfl, _, rfl, a, _, rfl, (same_new nd _).seq hS, fun p1 n1 => ⟨p1, _, rfl, .inl (SqL.of upd_same), fun p2 n2 => ⟨?_, penK p2 0 0, rfl, by show 3 ≤ 15; decide, ?_⟩⟩⟩
  · have e1 : upd (upd H d (.dK [])) p1 (.lst (cutV (ns.map V.int) none (some 63))) d = some (.dK []) := same_new n1 _ _ _ upd_same
    exact same_new n2 _ _ _ e1
  · have e1 : upd (upd H d (.dK [])) p1 (.lst (cutV (ns.map V.int) none (some 63))) d = some (.dK []) := same_new n1 _ _ _ upd_same
    have ne : p2 ≠ d := fun z => (ne_of_none e1 n2) z.symm
    have c : cutV (ns.map V.int) none (some 63) = ns.map V.int := by
      have el : (ns.map V.int).length = ns.length := List.length_map _
      show (ns.map V.int).take (min 63 (ns.map V.int).length - 0) = _
      rw [Nat.min_eq_right (by omega), Nat.sub_zero, List.take_length]
    refine q d p2 _ ?_ ⟨⟨0, 0, upd_same, by omega, by omega⟩, ?_, h63⟩
    · exact fun b o hb => by
        have nb : b ≠ d := ne_of_none hb nd
        rw [upd_ne nb]
        exact same_new n2 _ _ _ (same_new n1 _ _ _ (same_new nd _ _ _ hb))
    · refine SqL.of ?_
      rw [upd_ne ne, upd_same, c]
theorem ok_law_draw (T : Txt K mg) (F : Fun K "_law_draw" "_law_draw" s_law_draw f fd) : FnOk P w K mg base CX0 1 f fd P_law_draw (spDraw K) := by
  refine F.ok sc_law_draw (fun vs H Q E h => ?_) (fun cdv A outer s H vs Q E hr h => ?_)
  · obtain ⟨d, L, ns, n, m, rfl, _⟩ := h
    rfl
  obtain ⟨d, L, ns, n, m, rfl, p, hn, hm, hm2, q⟩ := h
  refine ⟨_, (pss_cons (ps_if (pt_cmpR op_gt (pe_dget (hu_of hr) (pv 0) pe_str (fun _ _ => rfl)) pe_int (nomark _))
    (pss_cons (ps_set (i := 2) sc_law_draw.nd rfl (Or.inl rfl) (pe_op op_mod (pe_callTy call_int1 rfl T.int (by decide +kernel) (pa_cons (pe_dget (hu_of hr) (pv 0) pe_str (fun _ _ => rfl)) pa_nil)) (pv 1)))
    (pss_cons (ps_dput (hu_of hr) (pv 0) pe_str (pe_op op_fdivW (pe_dget (hu_of hr) (pv 0) pe_str (fun _ _ => rfl)) (pv 1)) rfl)
    (pss_one (ps_ret (pv 2)))))
    pss_nil)
  (pss_cons (ps_set (i := 3) sc_law_draw.nd rfl (Or.inl rfl) (pe_dget (hu_of hr) (pv 0) pe_str (fun _ _ => rfl)))
  (pss_cons (ps_dput (hu_of hr) (pv 0) pe_str (pe_op op_add (pv 3) pe_int) rfl)
  (pss_cons (ps_set (i := 4) sc_law_draw.nd rfl (Or.inl rfl) (pe_op op_add (pe_op op_mul pe_int (pv 3)) pe_int))
  (pss_cons (ps_if (pt_cmpR (op_neD hr.units) (pe_dget (hu_of hr) (pv 0) pe_str (fun _ _ => rfl)) (pe_lst pa_nil) (nomark _))
    (pss_one (ps_set (i := 4) sc_law_draw.nd rfl (Or.inl rfl) (pe_ix ix_list (pe_dget (hu_of hr) (pv 0) pe_str (fun _ _ => rfl)) (pe_op op_mod (pe_callTy call_int1 rfl T.int (by decide +kernel) (pa_cons (pv 3) pa_nil)) (pe_callB call_len rfl T.len (by decide +kernel) (pa_cons (pe_dget (hu_of hr) (pv 0) pe_str (fun _ _ => rfl)) pa_nil))) (fun _ _ => rfl))))
    pss_nil)
  (pss_cons (ps_if (PW.pt (pw_and (pt_cmpR op_lt (pv 3) (pe_callB call_len rfl T.len (by decide +kernel) (pa_cons (pe_dget (hu_of hr) (pv 0) pe_str (fun _ _ => rfl)) pa_nil)) (nomark _)) (pw_and1 (pt_cmpR op_ge (pe_callB call_abs rfl T.abs (by decide +kernel) (pa_cons (pv 4) pa_nil)) (pe_op op_pow pe_int pe_int) (nomark _)))))
    (pss_cons (ps_dput (hu_of hr) (pv 0) pe_str (pe_op op_fdivW (pe_op op_sub (pe_callB call_abs rfl T.abs (by decide +kernel) (pa_cons (pv 4) pa_nil)) (pe_op op_pow pe_int pe_int)) (pv 1)) rfl)
    (pss_one (ps_ret (pe_op op_mod (pe_callTy call_int1 rfl T.int (by decide +kernel) (pa_cons (pe_op op_sub (pe_callB call_abs rfl T.abs (by decide +kernel) (pa_cons (pv 4) pa_nil)) (pe_op op_pow pe_int pe_int)) pa_nil)) (pv 1)))))
    pss_nil)
  (pss_cons (ps_set (i := 5) sc_law_draw.nd rfl (Or.inl rfl) (pe_op op_add (pe_op op_mul (pe_op op_mod (pe_callTy call_int1 rfl T.int (by decide +kernel) (pa_cons (pv 4) pa_nil)) pe_int) pe_int) (pe_op op_mul (pe_op op_mul pe_int (pv 3)) (pv 3))))
  (pss_cons (ps_set (i := 5) sc_law_draw.nd rfl (Or.inl rfl) (pe_op op_mod (pe_callTy call_int1 rfl T.int (by decide +kernel) (pa_cons (pe_op op_add (pe_op op_add (pv 5) (pe_op op_mul pe_int (pv 3))) pe_int) pa_nil)) pe_int))
  (pss_cons (ps_set (i := 5) sc_law_draw.nd rfl (Or.inl rfl) (pe_op op_mod (pe_callTy call_int1 rfl T.int (by decide +kernel) (pa_cons (pe_op op_add (pe_op op_add (pe_op op_add (pe_op op_mul (pv 5) (pv 5)) (pe_op op_mul pe_int (pv 5))) (pe_op op_mul pe_int (pv 3))) pe_int) pa_nil)) pe_int))
  (pss_cons (ps_set (i := 5) sc_law_draw.nd rfl (Or.inl rfl) (pe_op op_mod (pe_callTy call_int1 rfl T.int (by decide +kernel) (pa_cons (pe_op op_add (pe_op op_add (pe_op op_mul (pv 5) (pv 5)) (pe_op op_mul pe_int (pv 5))) (pv 3)) pa_nil)) pe_int))
  (pss_one (ps_ret (pe_op op_mod (pe_callTy call_int1 rfl T.int (by decide +kernel) (pa_cons (pe_op op_fdivW (pe_op op_mod (pe_callTy call_int1 rfl T.int (by decide +kernel) (pa_cons (pe_op op_mul (pv 5) (pe_op op_add (pv 5) pe_int)) pa_nil)) pe_int) pe_int) pa_nil)) (pv 1)))))))))))))), ?_⟩
  obtain ⟨b, l, hd, hb0, hbn⟩ := p.ex
  have hb : -(2 ^ 64) < b ∧ b < 2 ^ 64 := by omega
  have hdiv : L2.CDivW 0 m := wide_div hm (b := 21) (by omega) (by decide) (by decide)
  have kd : IsDk H d := p.isDk
  refine ⟨_, rfl, d, _, rfl, get_left hd, _, _, rfl, rfl, _, rfl, ?_⟩
  refine ite2 (fun c => ?_) (fun c => ?_)
  · refine ⟨_, rfl, d, _, rfl, get_left hd, .inl ⟨_, rfl, _, rfl, _, _, rfl, rfl, hm, ?_⟩⟩
    refine ⟨_, rfl, d, _, rfl, get_left hd, _, rfl, _, _, rfl, rfl, hdiv, _, rfl, d, _, rfl, put_left hd, _, rfl, ?_⟩
    exact q _ _ (Int.emod_nonneg _ (by omega)) (Int.emod_lt_of_pos _ hm) (keep_put _) (p.put hb0 (by omega))
  · refine ⟨_, rfl, d, _, rfl, get_begun hd, ?_⟩
    refine ⟨_, rfl, _, _, rfl, rfl, _, rfl, d, _, rfl, put_begun hd, ?_⟩
    have h1 : upd H d (.dK (penK L (b + 1) l)) d = some (.dK (penK L (b + 1) l)) := upd_same
    have p1 : Pen K (upd H d (.dK (penK L (b + 1) l))) d L ns (n + 1) := p.put (by omega) (by omega)
    have k1 : Keep d H (upd H d (.dK (penK L (b + 1) l))) := keep_put _
    generalize upd H d (.dK (penK L (b + 1) l)) = H1 at h1 p1 k1 ⊢
    refine ⟨_, rfl, _, _, rfl, rfl, .inl ⟨by decide, by decide⟩, _, _, rfl, rfl, ?_⟩
    refine ⟨_, rfl, d, _, rfl, get_cells h1, by show 0 ≤ sizeLine; decide, fun p0 np0 => ⟨.list (ns.map PyData.int), .list [], .lst ((same_new np0 _).seq p1.cells) (dpAll_ints ns), .lst (SqL.of upd_same) .nil, shaped_ints ns, by decide, _, rfl, ?_⟩⟩
    have h2 := same_new np0 (.lst []) _ _ h1
    have p2 := p1.same (same_new np0 (.lst []))
    have k2 : Keep d H (upd H1 p0 (.lst [])) := k1.trans (Same.toKeep (same_new np0 (.lst [])))
    generalize upd H1 p0 (.lst []) = H2 at h2 p2 k2 ⊢
    rw [eqv_nil]
    have hlen : ∀ x, (ns.map V.int).length = x → ns.length = x := fun x e => by rw [List.length_map] at e; exact e
    generalize hcv : (101 * b + 47 : Int) = c0
    refine ite2 (fun c1 => ?a) (fun c1 => ?b)
    case' a =>
      have hne : 0 < ns.length := by
        cases ns with
        | nil => cases c1
        | cons _ _ => exact Nat.succ_pos _
      have hpos : (0 : Int) < ((ns.map V.int).length : Nat) := by rw [List.length_map]; omega
      have hlt : (b % ((ns.map V.int).length : Nat)).toNat < ns.length := by
        have h3 := Int.emod_nonneg b (b := (((ns.map V.int).length : Nat) : Int)) (by omega)
        have h4 := Int.emod_lt_of_pos b hpos
        rw [List.length_map] at *
        omega
      have hat : atI (ns.map V.int) (b % ((ns.map V.int).length : Nat)) = some (V.int ns[(b % ((ns.map V.int).length : Nat)).toNat]) := by
        have h3 := Int.emod_nonneg b (b := (((ns.map V.int).length : Nat) : Int)) (by omega)
        have e := Int.toNat_of_nonneg h3
        have g := atI_nat (xs := ns.map V.int) (j := (b % ((ns.map V.int).length : Nat)).toNat) (v := V.int ns[(b % ((ns.map V.int).length : Nat)).toNat]) (by rw [List.getElem?_map, List.getElem?_eq_getElem hlt]; rfl)
        rw [e] at g
        exact g
      generalize ns[(b % ((ns.map V.int).length : Nat)).toNat] = c2 at hat
      refine ⟨_, rfl, d, _, rfl, get_cells h2, _, rfl, .inl ⟨_, rfl, _, rfl, d, _, rfl, get_cells h2, _, _, rfl, .inl ⟨_, p2.cells, rfl⟩, _, _, rfl, rfl, hpos, L, _, _, _, rfl, rfl, p2.cells, hat, ?_⟩⟩
    all_goals
      refine ⟨_, rfl, _, rfl, d, _, rfl, get_cells h2, _, _, rfl, .inl ⟨_, p2.cells, rfl⟩, _, _, rfl, rfl, _, rfl, ?_⟩
      refine ite2 (fun c4 => ?_) (fun c4 => ?_)
      refine ⟨_, rfl, _, rfl, _, _, rfl, rfl, ⟨by decide, by decide, by decide⟩, _, _, rfl, rfl, _, rfl, ?_⟩
      refine ite2 (fun c5 => ?_) (fun c5 => ?_)
      refine ⟨_, rfl, _, rfl, _, _, rfl, rfl, ⟨by decide, by decide, by decide⟩, _, _, rfl, rfl, _, rfl, _, _, rfl, rfl, hdiv, _, rfl, d, _, rfl, put_left h2, ?_⟩
      refine ⟨_, rfl, _, rfl, _, _, rfl, rfl, ⟨by decide, by decide, by decide⟩, _, _, rfl, rfl, .inl ⟨_, rfl, _, rfl, _, _, rfl, rfl, hm, ?_⟩⟩
      exact q _ _ (Int.emod_nonneg _ (by omega)) (Int.emod_lt_of_pos _ hm) (k2.trans (keep_put _)) (p2.put (by omega) (by omega))
      all_goals
        refine ⟨_, rfl, .inl ⟨_, rfl, _, _, rfl, rfl, (by show (0 : Int) < 2147483423; decide), _, _, rfl, rfl, .inr ⟨by decide, by decide⟩, _, rfl, _, _, rfl, rfl, .inl ⟨by decide, by decide⟩, _, rfl, _, _, rfl, rfl, .inr hb, _, _, rfl, rfl, ?_⟩⟩
        refine ⟨_, rfl, _, rfl, _, _, rfl, rfl, .inl ⟨by decide, by decide⟩, _, _, rfl, rfl, _, _, rfl, rfl, .inl ⟨_, rfl, _, _, rfl, rfl, (by show (0 : Int) < 2147483399; decide), ?_⟩⟩
        refine ⟨_, rfl, _, rfl, _, _, rfl, rfl, .inl ⟨by omega, by omega⟩, _, rfl, _, _, rfl, rfl, .inl ⟨by decide, by decide⟩, _, _, rfl, rfl, _, rfl, _, _, rfl, rfl, .inl ⟨by decide, by decide⟩, _, _, rfl, rfl, _, _, rfl, rfl, .inl ⟨_, rfl, _, _, rfl, rfl, (by show (0 : Int) < 2147483353; decide), ?_⟩⟩
        refine ⟨_, rfl, _, rfl, _, _, rfl, rfl, .inl ⟨by omega, by omega⟩, _, rfl, _, _, rfl, rfl, .inl ⟨by decide, by decide⟩, _, _, rfl, rfl, _, rfl, _, _, rfl, rfl, .inl ⟨_, rfl, _, _, rfl, rfl, (by show (0 : Int) < 2147483323; decide), ?_⟩⟩
        refine ⟨_, rfl, _, rfl, _, _, rfl, rfl, _, _, rfl, rfl, .inl ⟨by omega, by omega⟩, .inl ⟨_, rfl, _, _, rfl, rfl, (by show (0 : Int) < 2147483269; decide), _, _, rfl, rfl, ⟨by decide, by decide⟩, .inl ⟨_, rfl, _, rfl, _, _, rfl, rfl, hm, ?_⟩⟩⟩
        exact q _ _ (Int.emod_nonneg _ (by omega)) (Int.emod_lt_of_pos _ hm) k2 p2
end
end My

set_option Elab.async false
set_option linter.all false
set_option maxRecDepth 100000
namespace My
open PySem L2 SX
theorem atI_int {α : Type} {xs : List α} {r : Int} (h0 : 0 ≤ r) (h1 : r < (xs.length : Int)) : ∃ x, atI xs r = some x ∧ x ∈ xs := by
  have h : r.toNat < xs.length := by omega
  refine ⟨xs[r.toNat], ?_, List.getElem_mem h⟩
  have e := atI_nat (xs := xs) (j := r.toNat) (v := xs[r.toNat]) (List.getElem?_eq_getElem h)
  rw [Int.toNat_of_nonneg h0] at e
  exact e
theorem joinL_signs : ∀ cs : List Nat, TL.joinL [] (cs.map fun c => [c]) = cs
  | [] => rfl
  | [c] => rfl
  | c :: e :: r => by
    have ih := joinL_signs (e :: r)
    simp only [List.map_cons] at ih ⊢
    unfold TL.joinL
    rw [ih]
    rfl
theorem join_signs (cs : List Nat) : Txt.join (Str.ofString "") (cs.map fun c => (⟨#[c]⟩ : Str)) = S cs := by
  have e := join_S [] (cs.map fun c => [c])
  rw [joinL_signs, List.map_map] at e
  exact e
theorem sum_signs : ∀ cs : List Nat, ((cs.map fun c => (⟨#[c]⟩ : Str)).map (·.length)).sum = cs.length
  | [] => rfl
  | c :: cs => by
    have ih := sum_signs cs
    rw [List.map_cons, List.map_cons, List.sum_cons, ih, List.length_cons]
    show 1 + cs.length = cs.length + 1
    omega
theorem isName_cs {c : Nat} {cs : List Nat} (h : isL c = true) (hs : ∀ x ∈ cs, isLD x = true) (hl : cs.length ≤ 11) : isName (S (c :: cs)) = true := by
  have e := isName_eq (z := S (c :: cs)) (c := c) (by rw [S_len]; exact Nat.succ_pos _) (by rw [S_len, List.length_cons]; omega) rfl
  rw [e, h]
  show (true && (c :: cs).all isLD) = true
  rw [Bool.true_and, List.all_eq_true]
  intro x hx
  rcases List.mem_cons.mp hx with rfl | hx
  · unfold isLD
    rw [h]
    rfl
  · exact hs x hx
theorem isLD_asc {c : Nat} (h : isLD c = true) : c < 128 := by
  rw [← isLD_both] at h
  have h2 := of_decide_eq_true h
  have e : ∀ x ∈ zBoth.cps.toList, x < 128 := by decide +kernel
  exact e c h2
theorem okStr_of_name {z : Str} (h : isName z = true) : okStr z = true := by
  have h12 : 1 ≤ z.length ∧ z.length ≤ 12 := by
    by_cases c : 1 ≤ z.length ∧ z.length ≤ 12
    · exact c
    · rw [isName_out c] at h
      cases h
  obtain ⟨c, hc⟩ := head_some h12.1
  rw [isName_eq h12.1 h12.2 hc] at h
  have h2 := (Bool.and_eq_true_iff.mp h).2
  rw [List.all_eq_true] at h2
  unfold okStr
  rw [decide_eq_true (by omega), Bool.true_and, List.all_eq_true]
  intro x hx
  exact decide_eq_true (isLD_asc (h2 x hx))
theorem name_len {z : Str} (h : isName z = true) : 1 ≤ z.length ∧ z.length ≤ 12 := by
  by_cases c : 1 ≤ z.length ∧ z.length ≤ 12
  · exact c
  · rw [isName_out c] at h
    cases h
abbrev s_law_name : Stmt := top 43
abbrev N_law_name : List Str := ["_law_pen", "_law_letters", "_law_many", "_law_rest", "_law_k"]
abbrev P_law_name : List Str := ["_law_pen"]
theorem sc_law_name : FnScope N_law_name P_law_name (defScope s_law_name) := ⟨rfl, rfl, rfl, by decide +kernel, rfl, by decide +kernel, by decide +kernel⟩
abbrev s_law_names : Stmt := top 44
abbrev N_law_names : List Str := ["_law_pen", "_law_most", "_law_k"]
abbrev P_law_names : List Str := ["_law_pen", "_law_most"]
theorem sc_law_names : FnScope N_law_names P_law_names (defScope s_law_names) := ⟨rfl, rfl, rfl, by decide +kernel, rfl, by decide +kernel, by decide +kernel⟩
def spNameOf (K : PySem.W.Frag) : Sp := fun vs H Q _ => ∃ (d L : Addr) (ns : List Int) (n : Nat), vs = [.ref d] ∧ Pen K H d L ns n ∧ n < 2 ^ 39 ∧
  ∀ z H', isName z = true → Keep d H H' → Pen K H' d L ns (n + 13) → Q (.str z) H'
def spNames (K : PySem.W.Frag) : Sp := fun vs H Q _ => ∃ (d L : Addr) (ns : List Int) (n m : Nat), vs = [.ref d, .int m] ∧ Pen K H d L ns n ∧ n < 2 ^ 38 ∧ 0 < m ∧ m ≤ 100 ∧
  ∀ a zs H', (∀ z ∈ zs, isName z = true) → zs ≠ [] → zs.length ≤ 100 → SqL K H' a (zs.map V.str) → Keep d H H' → Pen K H' d L ns (n + 1 + 13 * m) → Q (.ref a) H'
section
variable {P : Program} {w : World} {K : PySem.W.Frag} {mg : Str → Option Value} {base : Heap} {f : Addr} {fd : FuncData}
theorem ok_law_pick (T : Txt K mg) (F : Fun K "_law_pick" "_law_pick" s_law_pick f fd) (C_law_draw : Cal P w K mg base "_law_draw" 1 ["_law_pen", "_law_span"] (spDraw K)) : FnOk P w K mg base CX0 2 f fd P_law_pick (spPick K) := by
  refine F.ok sc_law_pick (fun vs H Q E h => ?_) (fun cdv A outer s H vs Q E hr h => ?_)
  · obtain ⟨d, L, ns, n, v, rfl, _⟩ := h
    rfl
  obtain ⟨d, L, ns, n, v, rfl, p, hn, h⟩ := h
  refine ⟨_, (pss_one (ps_ret (pe_ix ix_seq (pv 1) (pe_callC C_law_draw hr (pa_cons (pv 0) (pa_cons (pe_callB call_len rfl T.len (by decide +kernel) (pa_cons (pv 1) pa_nil)) pa_nil))) (fun _ _ => rfl)))), ?_⟩
  rcases h with ⟨a, xs, rfl, hS, hne, hl, q⟩ | ⟨z, rfl, h1, h2, q⟩
  · have hpos : 0 < xs.length := by
      cases xs with
      | nil => exact absurd rfl hne
      | cons _ _ => exact Nat.succ_pos _
    refine ⟨_, rfl, _, rfl, _, rfl, _, _, rfl, .inl ⟨xs, hS, rfl⟩, d, L, ns, n, (xs.length : Int), rfl, p, hn, by omega, by omega, fun r H' r0 r1 k p' => ?_⟩
    obtain ⟨x, hx, hm⟩ := atI_int (xs := xs) r0 r1
    exact .inl ⟨a, xs, r, x, rfl, rfl, seqL_keep p.isDk k hS, hx, q x H' hm k p'⟩
  · have hz : z.length ≤ sizeLine := Nat.le_of_lt (small1000 h2)
    refine ⟨_, rfl, _, rfl, _, rfl, _, _, rfl, ⟨hz, rfl⟩, d, L, ns, n, (z.length : Int), rfl, p, hn, by omega, by omega, fun r H' r0 r1 k p' => ?_⟩
    have el : z.cps.toList.length = z.length := Array.length_toList
    obtain ⟨x, hx, hm⟩ := atI_int (xs := z.cps.toList) (r := r) r0 (by rw [el]; exact r1)
    exact .inr (.inr ⟨z, r, x, rfl, rfl, hz, hx, q x H' hm k p'⟩)
theorem ok_law_name (T : Txt K mg) (F : Fun K "_law_name" "_law_name" s_law_name f fd) (C_law_pick : Cal P w K mg base "_law_pick" 2 ["_law_pen", "_law_some"] (spPick K)) : FnOk P w K mg base CX0 3 f fd P_law_name (spNameOf K) := by
  refine F.ok sc_law_name (fun vs H Q E h => ?_) (fun cdv A outer s H vs Q E hr h => ?_)
  · obtain ⟨d, L, ns, n, rfl, _⟩ := h
    rfl
  obtain ⟨d, L, ns, n, rfl, p, hn, q⟩ := h
  refine ⟨_, (pss_cons (ps_set (i := 1) sc_law_name.nd rfl (Or.inr rfl) pe_str)
  (pss_cons (ps_set (i := 2) sc_law_name.nd rfl (Or.inl rfl) (pe_callC C_law_pick hr (pa_cons (pv 0) (pa_cons (pe_lst (pa_cons pe_int (pa_cons pe_int (pa_cons pe_int (pa_cons pe_int (pa_cons pe_int (pa_cons pe_int (pa_cons pe_int pa_nil)))))))) pa_nil))))
  (pss_cons (ps_setLc (i := 3) (own := [("_law_k", 4)]) (g := (gName 4)) rfl sc_law_name.nd rfl rfl (sw_true rfl rfl rfl (by decide +kernel)) (pi_range1 rfl T.range (pa_cons (pv 2) pa_nil)) (blkOk_by (own := [("_law_k", 4)]) (N := N_law_name) (sc := defScope s_law_name) (by decide +kernel)) (fun _ _ _ _ _ => (pg_name (i := 4) sc_law_name.nd rfl (Or.inl rfl))) (fun _ _ _ _ _ => pts_nil) (fun _ _ _ _ _ => (pe_callC C_law_pick hr (pa_cons (pv 0) (pa_cons (pe_op op_add_str (pv 1) pe_str) pa_nil)))))
  (pss_one (ps_ret (pe_join pe_str (pe_op op_cat (pe_lst (pa_cons (pe_callC C_law_pick hr (pa_cons (pv 0) (pa_cons (pv 1) pa_nil))) pa_nil)) (pv 3)))))))), ?_⟩
  refine ⟨_, rfl, by show 7 ≤ sizeLine; decide, fun p0 np0 => ?_⟩
  refine ⟨d, L, ns, n, _, rfl, p.same (same_new np0 _), by omega, .inl ⟨p0, _, rfl, SqL.of upd_same, by simp, by show 7 ≤ 1000; decide, fun x H1 hx k1 p1 => ?_⟩⟩
  have k1' : Keep d H H1 := (Same.toKeep (same_new np0 _)).trans k1
  obtain ⟨m, rfl, hm⟩ : ∃ m : Nat, x = V.int m ∧ m ≤ 11 := by
    simp only [List.mem_cons, List.not_mem_nil, or_false] at hx
    rcases hx with rfl | rfl | rfl | rfl | rfl | rfl | rfl <;>
      first | exact ⟨0, rfl, by decide⟩ | exact ⟨1, rfl, by decide⟩ | exact ⟨2, rfl, by decide⟩ | exact ⟨5, rfl, by decide⟩ | exact ⟨10, rfl, by decide⟩ | exact ⟨11, rfl, by decide⟩
  refine ⟨_, rfl, (m : Int), rfl, by omega, by omega, fun D nD => lc_range (lo := 0) (n := (m : Int).toNat)
    (fun i H' => Keep d H1 H' ∧ Pen K H' d L ns (n + 1 + i) ∧ ∃ cs : List Nat, cs.length = i ∧ (∀ c ∈ cs, isLD c = true) ∧ H' D = some (.lst (cs.map fun c => V.str ⟨#[c]⟩))) ?_ (fun i H2 hi ⟨k2, p2, cs, hcs, hld, e⟩ => ?_) (fun H2 ⟨k2, p2, cs, hcs, hld, e⟩ => ?_)⟩
  · exact ⟨Same.toKeep (same_new nD _), p1.fresh (Keep.refl _ _) p1.cells p1.isDk nD, [], rfl, by simp, upd_same⟩
  · refine ⟨rfl, _, rfl, _, rfl, _, _, rfl, rfl, by decide, ?_⟩
    refine ⟨d, L, ns, n + 1 + i, _, rfl, p2, by omega, .inr ⟨zBoth, rfl, by decide +kernel, by decide +kernel, fun c H3 hc k3 p3 => ?_⟩⟩
    have nDd : D ≠ d := by
      obtain ⟨kvs, ed⟩ := p1.isDk
      exact (ne_of_none ed nD).symm
    refine ⟨_, k3 D _ nDd e, small1000 (by rw [List.length_map]; omega), keep_fresh (k2.trans k3) nD, p3.fresh (k2.trans k3) p1.cells p1.isDk nD, cs ++ [c], by rw [List.length_append, hcs]; rfl, ?_, ?_⟩
    · intro x hx
      rcases List.mem_append.mp hx with hx | hx
      · exact hld x hx
      · rw [List.mem_singleton.mp hx, ← isLD_both]
        exact decide_eq_true hc
    · rw [upd_same, List.map_append]
      rfl
  · have em : (m : Int).toNat = m := Int.toNat_natCast m
    rw [em] at hcs p2
    refine ⟨⟨_, rfl⟩, _, rfl, _, rfl, d, L, ns, n + 1 + m, _, rfl, p2, by omega, .inr ⟨zLetters, rfl, by decide +kernel, by decide +kernel, fun c H3 hc k3 p3 => ⟨by show 1 ≤ sizeLine; decide, fun pA nA => ?_⟩⟩⟩
    have nDd : D ≠ d := by
      obtain ⟨kvs, ed⟩ := p1.isDk
      exact (ne_of_none ed nD).symm
    have e3 := same_new nA (.lst [.str ⟨#[c]⟩]) _ _ (k3 D _ nDd e)
    refine ⟨_, rfl, pA, D, _, _, rfl, rfl, upd_same, e3, Nat.le_of_lt (small1000 (by rw [List.length_map, List.length_singleton]; omega)), fun pB nB => ?_⟩
    have kF : Keep d H (upd (upd H3 pA (.lst [.str ⟨#[c]⟩])) pB (.lst ([V.str ⟨#[c]⟩] ++ cs.map fun c => V.str ⟨#[c]⟩))) :=
      ((k1'.trans k2).trans k3).trans ((Same.toKeep (same_new nA _)).trans (Same.toKeep (same_new nB _)))
    have pF := (p3.same (same_new nA (.lst [.str ⟨#[c]⟩]))).same (same_new nB (.lst ([V.str ⟨#[c]⟩] ++ cs.map fun c => V.str ⟨#[c]⟩)))
    refine ⟨_, pB, (c :: cs).map (fun c => (⟨#[c]⟩ : Str)), rfl, rfl, .inl (SqL.of ?_), ?_, ?_⟩
    · rw [upd_same, List.map_map]
      rfl
    · rw [sum_signs, List.length_map]
      show (c :: cs).length + (c :: cs).length * 0 ≤ 16777216
      rw [List.length_cons]
      omega
    · rw [join_signs]
      exact q _ _ (isName_cs (decide_eq_true hc) hld (by omega)) kF (pF.mono (by omega))
theorem ok_law_names (T : Txt K mg) (F : Fun K "_law_names" "_law_names" s_law_names f fd) (C_law_draw : Cal P w K mg base "_law_draw" 1 ["_law_pen", "_law_span"] (spDraw K)) (C_law_name : Cal P w K mg base "_law_name" 3 ["_law_pen"] (spNameOf K)) : FnOk P w K mg base CX0 4 f fd P_law_names (spNames K) := by
  refine F.ok sc_law_names (fun vs H Q E h => ?_) (fun cdv A outer s H vs Q E hr h => ?_)
  · obtain ⟨d, L, ns, n, m, rfl, _⟩ := h
    rfl
  obtain ⟨d, L, ns, n, m, rfl, p, hn, h0, hm, q⟩ := h
  refine ⟨_, (pss_one (ps_ret (pe_lc (own := [("_law_k", 2)]) (g := (gName 2)) rfl sc_law_names.nd (pi_range1 rfl T.range (pa_cons (pe_op op_add pe_int (pe_callC C_law_draw hr (pa_cons (pv 0) (pa_cons (pv 1) pa_nil)))) pa_nil)) (blkOk_by (own := [("_law_k", 2)]) (N := N_law_names) (sc := defScope s_law_names) (by decide +kernel)) (fun _ _ _ _ _ => (pg_name (i := 2) sc_law_names.nd rfl (Or.inl rfl))) (fun _ _ _ _ _ => pts_nil) (fun _ _ _ _ _ => (pe_callC C_law_name hr (pa_cons (pv 0) pa_nil)))))), ?_⟩
  refine ⟨_, rfl, _, rfl, d, L, ns, n, m, rfl, p, by omega, by omega, by omega, fun r H1 r0 r1 k1 p1 => ?_⟩
  refine ⟨_, _, rfl, rfl, 1 + r, rfl, by omega, by omega, fun D nD => lc_range (lo := 0) (n := (1 + r).toNat)
    (fun i H' => Keep d H1 H' ∧ Pen K H' d L ns (n + 1 + 13 * i) ∧ ∃ zs : List Str, zs.length = i ∧ (∀ z ∈ zs, isName z = true) ∧ H' D = some (.lst (zs.map V.str))) ?_ (fun i H2 hi ⟨k2, p2, zs, hcs, hld, e⟩ => ?_) (fun H2 ⟨k2, p2, zs, hcs, hld, e⟩ => ?_)⟩
  · exact ⟨Same.toKeep (same_new nD _), p1.fresh (Keep.refl _ _) p1.cells p1.isDk nD, [], rfl, by simp, upd_same⟩
  · refine ⟨rfl, _, rfl, d, L, ns, n + 1 + 13 * i, rfl, p2, by omega, fun z H3 hz k3 p3 => ?_⟩
    have nDd : D ≠ d := by
      obtain ⟨kvs, ed⟩ := p1.isDk
      exact (ne_of_none ed nD).symm
    refine ⟨_, k3 D _ nDd e, small1000 (by rw [List.length_map]; omega), keep_fresh (k2.trans k3) nD, (p3.fresh (k2.trans k3) p1.cells p1.isDk nD).mono (by omega), zs ++ [z], by rw [List.length_append, hcs]; rfl, ?_, ?_⟩
    · intro x hx
      rcases List.mem_append.mp hx with hx | hx
      · exact hld x hx
      · rw [List.mem_singleton.mp hx]
        exact hz
    · rw [upd_same, List.map_append]
      rfl
  · refine q D zs H2 hld ?_ (by omega) (SqL.of e) (k1.trans k2) (p2.mono (by omega))
    rintro rfl
    rw [List.length_nil] at hcs
    omega
end
end My

set_option Elab.async false
set_option linter.all false
set_option maxRecDepth 100000
namespace My
open PySem L2 SX
theorem memD_inv {d : PyData} {zs : List Str} (h : memD d zs = true) : ∃ x, d = .str x ∧ x ∈ zs := by
  cases d with
  | str x => exact ⟨x, rfl, of_decide_eq_true h⟩
  | _ => cases h
theorem isNameD_inv {d : PyData} (h : isNameD d = true) : ∃ x, d = .str x ∧ isName x = true := by
  cases d with
  | str x => exact ⟨x, rfl, h⟩
  | _ => cases h
theorem isForm_inv {k : Nat} {D : PyData} (h : isForm k D = true) :
    (∃ w n, D = .tuple [.str w, .str n] ∧ w ∈ leafW ∧ isName n = true) ∨ ∃ j w a b, k = j + 1 ∧ D = .tuple [.str w, a, b] ∧ w ∈ halfW ∧ isForm j a = true ∧ isForm j b = true := by
  by_cases ht : isTupD D = true
  · cases D with
    | tuple ds =>
      match ds with
      | [a, n] =>
        rw [isForm_m2, Bool.and_eq_true] at h
        obtain ⟨w, rfl, hw⟩ := memD_inv h.1
        obtain ⟨x, rfl, hx⟩ := isNameD_inv h.2
        exact .inl ⟨w, x, rfl, hw, hx⟩
      | [a, b, c] =>
        cases k with
        | zero => rw [isForm_tup3_0] at h; cases h
        | succ j =>
          rw [isForm_m3, Bool.and_eq_true, Bool.and_eq_true] at h
          obtain ⟨w, rfl, hw⟩ := memD_inv h.1
          exact .inr ⟨j, w, b, c, rfl, rfl, hw, h.2.1, h.2.2⟩
      | [] => rw [isForm_tup_len _ _ (by simp) (by simp)] at h; cases h
      | [_] => rw [isForm_tup_len _ _ (by simp) (by simp)] at h; cases h
      | _ :: _ :: _ :: _ :: _ => rw [isForm_tup_len _ _ (by simp) (by simp)] at h; cases h
    | _ => cases ht
  · rw [Bool.not_eq_true] at ht
    rw [isForm_not_tup k D ht] at h
    cases h
theorem isForm_leaf (k : Nat) {w n : Str} (hw : w ∈ leafW) (hn : isName n = true) : isForm k (.tuple [.str w, .str n]) = true := by
  rw [isForm_m2]
  show (decide (w ∈ leafW) && isName n) = true
  rw [decide_eq_true hw, hn]
  rfl
theorem isForm_node {k : Nat} {w : Str} {a b : PyData} (hw : w ∈ halfW) (ha : isForm k a = true) (hb : isForm k b = true) : isForm (k + 1) (.tuple [.str w, a, b]) = true := by
  rw [isForm_m3, ha, hb]
  show (decide (w ∈ halfW) && _) = true
  rw [decide_eq_true hw]
  rfl
theorem isForm_up : ∀ {k : Nat} {D : PyData}, isForm k D = true → isForm (k + 1) D = true := by
  intro k
  induction k with
  | zero =>
    intro D h
    rcases isForm_inv h with ⟨w, n, rfl, hw, hn⟩ | ⟨j, w, a, b, e, _⟩
    · exact isForm_leaf _ hw hn
    · cases e
  | succ k ih =>
    intro D h
    rcases isForm_inv h with ⟨w, n, rfl, hw, hn⟩ | ⟨j, w, a, b, e, rfl, hw, ha, hb⟩
    · exact isForm_leaf _ hw hn
    · obtain rfl : k = j := by omega
      exact isForm_node hw (ih ha) (ih hb)
theorem isForm_le {k m : Nat} {D : PyData} (h : isForm k D = true) (l : k ≤ m) : isForm m D = true := by
  induction l with
  | refl => exact h
  | step _ ih => exact isForm_up ih
theorem okStr_leaf : ∀ w ∈ leafW, okStr w = true := by decide +kernel
theorem okStr_half : ∀ w ∈ halfW, okStr w = true := by decide +kernel
theorem short_form : ∀ {k : Nat} {D : PyData}, isForm k D = true → shortD D = true := by
  intro k
  induction k with
  | zero =>
    intro D h
    rcases isForm_inv h with ⟨w, n, rfl, hw, hn⟩ | ⟨j, w, a, b, e, _⟩
    · simp only [shortD, shortAll, okStr_leaf w hw, okStr_of_name hn, Bool.and_self]
    · cases e
  | succ k ih =>
    intro D h
    rcases isForm_inv h with ⟨w, n, rfl, hw, hn⟩ | ⟨j, w, a, b, e, rfl, hw, ha, hb⟩
    · simp only [shortD, shortAll, okStr_leaf w hw, okStr_of_name hn, Bool.and_self]
    · obtain rfl : k = j := by omega
      have h1 := ih ha
      have h2 := ih hb
      unfold shortD
      simp only [shortAll, h1, h2, Bool.and_true]
      unfold shortD
      exact okStr_half w hw
theorem depth_form : ∀ {k : Nat} {D : PyData}, isForm k D = true → D.depth ≤ k + 1 := by
  intro k
  induction k with
  | zero =>
    intro D h
    rcases isForm_inv h with ⟨w, n, rfl, hw, hn⟩ | ⟨j, w, a, b, e, _⟩
    · simp [PyData.depth, PyData.depthAll]
    · cases e
  | succ k ih =>
    intro D h
    rcases isForm_inv h with ⟨w, n, rfl, hw, hn⟩ | ⟨j, w, a, b, e, rfl, hw, ha, hb⟩
    · simp [PyData.depth, PyData.depthAll]
    · obtain rfl : k = j := by omega
      have h1 := ih ha
      have h2 := ih hb
      simp only [PyData.depth, PyData.depthAll]
      omega
theorem arg_eq {x y : V} {G : V → Hp → Prop} {H : Hp} (e : x = y) (h : G y H) : G x H := by
  rw [e]
  exact h
/-- the least depth of a form -/
def Deep (j : Nat) (D : PyData) : Prop := isForm j D = true ∧ ∀ i, i < j → isForm i D = false
theorem deep_node {x y : Nat} {w : Str} {a b : PyData} (hw : w ∈ halfW) (ha : Deep x a) (hb : Deep y b) {m : Nat} (hm : m = x ∨ m = y) (hx : x ≤ m) (hy : y ≤ m) : Deep (m + 1) (.tuple [.str w, a, b]) := by
  refine ⟨isForm_node hw (isForm_le ha.1 hx) (isForm_le hb.1 hy), fun i hi => ?_⟩
  cases i with
  | zero => exact isForm_tup3_0 _ _ _
  | succ i =>
    rw [isForm_m3]
    rcases hm with rfl | rfl
    · rw [ha.2 i (by omega), Bool.false_and, Bool.and_false]
    · rw [hb.2 i (by omega), Bool.and_false, Bool.and_false]
theorem deep_leaf {w n : Str} (hw : w ∈ leafW) (hn : isName n = true) : Deep 0 (.tuple [.str w, .str n]) := ⟨isForm_leaf 0 hw hn, fun i hi => by omega⟩
def lvs : PyData → List PyData
  | .tuple [a, b] => [.tuple [a, b]]
  | .tuple [_, a, b] => lvs a ++ lvs b
  | _ => []
theorem lvs2 (a b : PyData) : lvs (.tuple [a, b]) = [.tuple [a, b]] := by rw [lvs]
theorem lvs3 (w a b : PyData) : lvs (.tuple [w, a, b]) = lvs a ++ lvs b := by rw [lvs]
abbrev s_law_depth : Stmt := top 38
abbrev N_law_depth : List Str := ["_law_form"]
abbrev P_law_depth : List Str := ["_law_form"]
theorem sc_law_depth : FnScope N_law_depth P_law_depth (defScope s_law_depth) := ⟨rfl, rfl, rfl, by decide +kernel, rfl, by decide +kernel, by decide +kernel⟩
abbrev s_law_shape : Stmt := top 45
abbrev N_law_shape : List Str := ["_law_pen", "_law_names_here", "_law_many", "_law_tall", "_law_room", "_law_low", "_law_high", "_law_way", "_law_left", "_law_word", "_law_one"]
abbrev P_law_shape : List Str := ["_law_pen", "_law_names_here", "_law_many", "_law_tall"]
theorem sc_law_shape : FnScope N_law_shape P_law_shape (defScope s_law_shape) := ⟨rfl, rfl, rfl, by decide +kernel, rfl, by decide +kernel, by decide +kernel⟩
abbrev s_law_deeper : Stmt := top 52
abbrev N_law_deeper : List Str := ["_law_form", "_law_tall", "_law_k"]
abbrev P_law_deeper : List Str := ["_law_form", "_law_tall"]
theorem sc_law_deeper : FnScope N_law_deeper P_law_deeper (defScope s_law_deeper) := ⟨rfl, rfl, rfl, by decide +kernel, rfl, by decide +kernel, by decide +kernel⟩
def spDepth (K : PySem.W.Frag) (k : Nat) : Sp := fun vs H Q _ => ∃ (v : V) (D : PyData) (k' : Nat), vs = [v] ∧ k' < k ∧ Dp K H v D ∧ isForm k' D = true ∧ ∀ (j : Nat) H', j ≤ k' → Deep j D → Same H H' → Q (.int j) H'
def spDeeper (K : PySem.W.Frag) : Sp := fun vs H Q _ => ∃ (v : V) (D : PyData) (t : Nat), vs = [v, .int t] ∧ 12 ≤ t ∧ t ≤ 2000 ∧ Dp K H v D ∧ isForm 12 D = true ∧ ∀ v' D' H', Dp K H' v' D' → Deep t D' ∨ (t = 12 ∧ isForm 12 D' = true) → Same H H' → Q v' H'
def spShape (K : PySem.W.Frag) (k : Nat) : Sp := fun vs H Q _ => ∃ (d L : Addr) (ns : List Int) (n : Nat) (a : Addr) (zs : List Str) (m t : Nat), vs = [.ref d, .ref a, .int m, .int t] ∧ t < k ∧ Pen K H d L ns n ∧ n + 5 * m < 2 ^ 39 ∧
  SqL K H a (zs.map V.str) ∧ zs ≠ [] ∧ zs.length ≤ 1000 ∧ (∀ z ∈ zs, isName z = true) ∧ 1 ≤ m ∧ m ≤ 1000 ∧ m ≤ 2 ^ t ∧ t ≤ 60 ∧
  ∀ v D H', Dp K H' v D → isForm t D = true → (lvs D).length = m → Keep d H H' → Pen K H' d L ns (n + (5 * m - 3)) → Q v H'
section
variable {P : Program} {w : World} {K : PySem.W.Frag} {mg : Str → Option Value} {base : Heap} {f : Addr} {fd : FuncData}
theorem ok_law_depth {k : Nat} (T : Txt K mg) (F : Fun K "_law_depth" "_law_depth" s_law_depth f fd) (C_law_depth : Cal P w K mg base "_law_depth" k ["_law_form"] (spDepth K k)) : FnOk P w K mg base CX0 (k + 1) f fd P_law_depth (spDepth K (k + 1)) := by
  refine F.ok sc_law_depth (fun vs H Q E h => ?_) (fun cdv A outer s H vs Q E hr h => ?_)
  · obtain ⟨v, D, k', rfl, _⟩ := h
    rfl
  obtain ⟨v, D, k', rfl, hk, hv, hD, q⟩ := h
  refine ⟨_, (pss_one (ps_ret (pe_ifExp (pt_cmpR op_eq (pe_callB call_len rfl T.len (by decide +kernel) (pa_cons (pv 0) pa_nil)) pe_int (nomark _)) pe_int (pe_op op_add pe_int (pe_callB (cr_max rfl) rfl T.max (by decide +kernel) (pa_cons (pe_lst (pa_cons (pe_callC C_law_depth hr (pa_cons (pe_ix ix_tup (pv 0) pe_int (fun _ _ => rfl)) pa_nil)) (pa_cons (pe_callC C_law_depth hr (pa_cons (pe_ix ix_tup (pv 0) pe_int (fun _ _ => rfl)) pa_nil)) pa_nil))) pa_nil)))))), ?_⟩
  rcases isForm_inv hD with ⟨x, n, rfl, hx, hn⟩ | ⟨j, x, a, b, rfl, rfl, hx, ha, hb⟩
  · cases hv with | @tup p xs _ hT hA => cases hA with | cons h1 hA => cases hA with | cons h2 hN =>
    cases hN
    refine ⟨_, rfl, _, _, rfl, .inr ⟨_, hT, rfl⟩, rfl, _, rfl, ?_⟩
    exact q 0 H (Nat.zero_le _) (deep_leaf hx hn) (Same.refl H)
  · cases hv with | @tup p xs _ hT hA => cases hA with | cons h1 hA => cases hA with | cons h2 hA => cases hA with | cons h3 hN =>
    cases hN
    refine ⟨_, rfl, _, _, rfl, .inr ⟨_, hT, rfl⟩, rfl, _, rfl, ?_⟩
    refine iteF ⟨_, rfl, p, _, _, _, rfl, rfl, hT, rfl, _, a, j, rfl, by omega, h2, ha, fun ja H1 la da S1 => ?_⟩
    refine ⟨_, rfl, p, _, _, _, rfl, rfl, seqT_same S1 hT, rfl, _, b, j, rfl, by omega, dp_same S1 _ _ h3, hb, fun jb H2 lb db S2 => ?_⟩
    refine ⟨by show 2 ≤ sizeLine; decide, fun p2 n2 => ⟨p2, [(ja : Int), (jb : Int)], rfl, SqL.of upd_same, by simp, fun m hm hle => ?_⟩⟩
    obtain ⟨M, rfl⟩ : ∃ M : Nat, m = (M : Int) := by
      simp only [List.mem_cons, List.not_mem_nil, or_false] at hm
      rcases hm with rfl | rfl
      · exact ⟨ja, rfl⟩
      · exact ⟨jb, rfl⟩
    have l1 := hle (ja : Int) (by simp)
    have l2 := hle (jb : Int) (by simp)
    have hM : M = ja ∨ M = jb := by
      simp only [List.mem_cons, List.not_mem_nil, or_false] at hm
      omega
    refine ⟨_, _, rfl, rfl, ?_⟩
    have e : (1 + (M : Int)) = ((M + 1 : Nat) : Int) := by omega
    show Q (.int (1 + (M : Int))) _
    rw [e]
    exact q (M + 1) _ (by omega) (deep_node hx da db hM (by omega) (by omega)) ((S1.trans S2).trans (same_new n2 _))
theorem ok_law_deeper (T : Txt K mg) (F : Fun K "_law_deeper" "_law_deeper" s_law_deeper f fd) (C_law_depth : Cal P w K mg base "_law_depth" 13 ["_law_form"] (spDepth K 13)) : FnOk P w K mg base CX0 14 f fd P_law_deeper (spDeeper K) := by
  refine F.ok sc_law_deeper (fun vs H Q E h => ?_) (fun cdv A outer s H vs Q E hr h => ?_)
  · obtain ⟨v, D, t, rfl, _⟩ := h
    rfl
  obtain ⟨v, D, t, rfl, h12, ht, hv, hD, q⟩ := h
  refine ⟨_, (pss_cons (ps_for PassesOwn.never rfl (pi_range1 rfl T.range (pa_cons (pe_op op_sub (pv 1) (pe_callC C_law_depth hr (pa_cons (pv 0) pa_nil))) pa_nil)) (pg_name (i := 2) sc_law_deeper.nd rfl (Or.inl rfl))
    (pss_one (ps_set (i := 0) sc_law_deeper.nd rfl (Or.inl rfl) (pe_ifExp (pt_cmpR op_eq (pe_op op_mod (pe_callTy call_int1 rfl T.int (by decide +kernel) (pa_cons (pv 2) pa_nil)) pe_int) pe_int (nomark _)) (pe_tup (pa_cons pe_str (pa_cons (pv 0) (pa_cons (pe_tup (pa_cons pe_str (pa_cons pe_str pa_nil))) pa_nil)))) (pe_tup (pa_cons pe_str (pa_cons (pe_tup (pa_cons pe_str (pa_cons pe_str pa_nil))) (pa_cons (pv 0) pa_nil))))))))
  (pss_one (ps_ret (pv 0)))), ?_⟩
  refine ⟨_, rfl, _, rfl, v, D, 12, rfl, by omega, hv, hD, fun j H1 hj dj S1 => ?_⟩
  refine ⟨_, _, rfl, rfl, (t : Int) - (j : Int), rfl, by omega, by omega, ?_⟩
  refine for_range (lo := 0) (n := ((t : Int) - (j : Int)).toNat) (fun i σ H' => Same H H' ∧ ∃ v' x D', σ = [some v', some (.int t), x] ∧ Dp K H' v' D' ∧ Deep (j + i) D') ⟨S1, v, none, D, rfl, dp_same S1 _ _ hv, dj⟩
    (fun i σ H2 hi ⟨S2, v', x, D', eσ, hv', dv⟩ => ?_) (fun σ H2 ⟨S2, v', x, D', eσ, hv', dv⟩ => ?_)
  · subst eσ
    refine ⟨_, rfl, .inl ⟨_, rfl, _, _, rfl, rfl, (by show (0 : Int) < 2; decide), rfl, _, rfl, ?_⟩⟩
    have hn : isName (Str.ofString "a") = true := by decide +kernel
    have hn2 : isName (Str.ofString "b") = true := by decide +kernel
    refine ite2 (fun c => ?_) (fun c => ?_)
    · refine ⟨_, rfl, by show 2 ≤ sizeLine; decide, fun p1 n1 => ⟨by show 3 ≤ sizeLine; decide, fun p2 n2 => ?_⟩⟩
      have S3 := same_new n1 (.tup [.str (Str.ofString "good"), .str (Str.ofString "a")])
      have S4 := S3.trans (same_new n2 (.tup [.str (Str.ofString "both"), v', .ref p1]))
      refine ⟨S2.trans S4, .ref p2, _, .tuple [.str (Str.ofString "both"), D', .tuple [.str (Str.ofString "good"), .str (Str.ofString "a")]], rfl, .tup (SqT.of upd_same) (.cons (.str _) (.cons (dp_same S4 _ _ hv') (.cons (.tup (SqT.of (same_new n2 _ _ _ upd_same)) (.cons (.str _) (.cons (.str _) .nil))) .nil))), ?_⟩
      exact deep_node (x := j + i) (y := 0) (m := j + i) (by decide +kernel) dv (deep_leaf (by decide +kernel) hn) (.inl rfl) (by omega) (by omega)
    · refine ⟨by show 2 ≤ sizeLine; decide, fun p1 n1 => ⟨_, rfl, by show 3 ≤ sizeLine; decide, fun p2 n2 => ?_⟩⟩
      have S3 := same_new n1 (.tup [.str (Str.ofString "counter"), .str (Str.ofString "b")])
      have S4 := S3.trans (same_new n2 (.tup [.str (Str.ofString "chosen"), .ref p1, v']))
      refine ⟨S2.trans S4, .ref p2, _, .tuple [.str (Str.ofString "chosen"), .tuple [.str (Str.ofString "counter"), .str (Str.ofString "b")], D'], rfl, .tup (SqT.of upd_same) (.cons (.str _) (.cons (.tup (SqT.of (same_new n2 _ _ _ upd_same)) (.cons (.str _) (.cons (.str _) .nil))) (.cons (dp_same S4 _ _ hv') .nil))), ?_⟩
      exact deep_node (x := 0) (y := j + i) (m := j + i) (by decide +kernel) (deep_leaf (by decide +kernel) hn2) dv (.inr rfl) (by omega) (by omega)
  · subst eσ
    have e : j + ((t : Int) - (j : Int)).toNat = t := by omega
    rw [e] at dv
    exact ⟨_, rfl, q v' D' H2 hv' (.inl dv) S2⟩
set_option maxHeartbeats 2000000 in
theorem ok_law_shape {k : Nat} (T : Txt K mg) (F : Fun K "_law_shape" "_law_shape" s_law_shape f fd) (C_law_draw : Cal P w K mg base "_law_draw" 1 ["_law_pen", "_law_span"] (spDraw K)) (C_law_pick : Cal P w K mg base "_law_pick" 2 ["_law_pen", "_law_some"] (spPick K))
    (C_law_shape : Cal P w K mg base "_law_shape" (2 + k) P_law_shape (spShape K k)) : FnOk P w K mg base CX0 (2 + k + 1) f fd P_law_shape (spShape K (k + 1)) := by
  refine F.ok sc_law_shape (fun vs H Q E h => ?_) (fun cdv A outer s H vs Q E hr h => ?_)
  · obtain ⟨d, L, ns, n, a, zs, m, t, rfl, _⟩ := h
    rfl
  obtain ⟨d, L, ns, n, a, zs, m, t, rfl, htk, p, hn, hS, hne, hzl, hzs, hm1, hm2, hm3, ht60, q⟩ := h
  refine ⟨_, (pss_cons (ps_if (pt_cmpR op_eq (pv 2) pe_int (nomark _))
    (pss_one (ps_ret (pe_tup (pa_cons (pe_callC C_law_pick hr (pa_cons (pv 0) (pa_cons (pe_lst (pa_cons pe_str (pa_cons pe_str pa_nil))) pa_nil))) (pa_cons (pe_callC C_law_pick hr (pa_cons (pv 0) (pa_cons (pv 1) pa_nil))) pa_nil)))))
    pss_nil)
  (pss_cons (ps_set (i := 4) sc_law_shape.nd rfl (Or.inl rfl) (pe_op op_shl pe_int (pe_op op_sub (pv 3) pe_int)))
  (pss_cons (ps_par (i := 5) (j := 6) (by rfl) sc_law_shape.nd rfl rfl (by decide) rfl rfl (pa_cons (pe_callB (call_max2 rfl) rfl T.max (by decide +kernel) (pa_cons pe_int (pa_cons (pe_op op_sub (pv 2) (pv 4)) pa_nil))) (pa_cons (pe_callB (call_min2 rfl) rfl T.min (by decide +kernel) (pa_cons (pe_op op_sub (pv 2) pe_int) (pa_cons (pv 4) pa_nil))) pa_nil)) (by rfl))
  (pss_cons (ps_set (i := 7) sc_law_shape.nd rfl (Or.inl rfl) (pe_callC C_law_draw hr (pa_cons (pv 0) (pa_cons pe_int pa_nil))))
  (pss_cons (ps_set (i := 8) sc_law_shape.nd rfl (Or.inl rfl) (pe_op op_add (pv 5) (pe_callC C_law_draw hr (pa_cons (pv 0) (pa_cons (pe_op op_add (pe_op op_sub (pv 6) (pv 5)) pe_int) pa_nil)))))
  (pss_cons (ps_if (pt_cmpR op_lt (pv 7) pe_int (nomark _))
    (pss_one (ps_set (i := 8) sc_law_shape.nd rfl (Or.inl rfl) (pe_ifExp (pt_cmpR op_eq (pv 7) pe_int (nomark _)) (pv 5) (pv 6))))
    pss_nil)
  (pss_cons (ps_set (i := 9) sc_law_shape.nd rfl (Or.inl rfl) (pe_callC C_law_pick hr (pa_cons (pv 0) (pa_cons (pe_lst (pa_cons pe_str (pa_cons pe_str (pa_cons pe_str (pa_cons pe_str pa_nil))))) pa_nil))))
  (pss_cons (ps_set (i := 10) sc_law_shape.nd rfl (Or.inl rfl) (pe_callC C_law_shape hr (pa_cons (pv 0) (pa_cons (pv 1) (pa_cons (pv 8) (pa_cons (pe_op op_sub (pv 3) pe_int) pa_nil))))))
  (pss_one (ps_ret (pe_tup (pa_cons (pv 9) (pa_cons (pv 10) (pa_cons (pe_callC C_law_shape hr (pa_cons (pv 0) (pa_cons (pv 1) (pa_cons (pe_op op_sub (pv 2) (pv 8)) (pa_cons (pe_op op_sub (pv 3) pe_int) pa_nil))))) pa_nil)))))))))))))), ?_⟩
  refine ⟨_, rfl, rfl, _, rfl, ?_⟩
  refine ite2 (fun c => ?_) (fun c => ?_)
  · have hm : m = 1 := by
      have := V.int.inj (of_decide_eq_true c)
      omega
    subst hm
    refine ⟨_, rfl, by show 2 ≤ sizeLine; decide, fun p0 np0 => ?_⟩
    refine ⟨d, L, ns, n, _, rfl, p.same (same_new np0 _), by omega, .inl ⟨p0, _, rfl, SqL.of upd_same, by simp, by show 2 ≤ 1000; decide, fun x H1 hx k1 p1 => ?_⟩⟩
    have k1' : Keep d H H1 := (Same.toKeep (same_new np0 _)).trans k1
    refine ⟨_, rfl, _, rfl, d, L, ns, n + 1, _, rfl, p1, by omega, .inl ⟨a, _, rfl, seqL_keep p.isDk k1' hS, by simp [hne], by rw [List.length_map]; exact hzl, fun y H2 hy k2 p2 => ⟨by show 2 ≤ sizeLine; decide, fun p3 n3 => ?_⟩⟩⟩
    obtain ⟨w', rfl, hw⟩ : ∃ w', x = .str w' ∧ w' ∈ leafW := by
      have : x ∈ leafW.map V.str := hx
      obtain ⟨w', hw, e⟩ := List.mem_map.mp this
      exact ⟨w', e.symm, hw⟩
    obtain ⟨z, hz, rfl⟩ := List.mem_map.mp hy
    exact q (.ref p3) (.tuple [.str w', .str z]) _ (.tup (SqT.of upd_same) (.cons (.str _) (.cons (.str _) .nil))) (isForm_leaf _ hw (hzs z hz)) (by first | (rw [lvs2]; done) | (rw [lvs2]; rfl)) ((k1'.trans k2).trans (Same.toKeep (same_new n3 _))) ((p2.same (same_new n3 _)).mono (by omega))
  · have hm : m ≠ 1 := fun e => c (by subst e; rfl)
    obtain ⟨t', rfl⟩ : ∃ t', t = t' + 1 := by
      cases t with
      | zero => simp at hm3; omega
      | succ t' => exact ⟨t', rfl⟩
    have hpow : (2 : Nat) ^ (t' + 1) = 2 * 2 ^ t' := by rw [Nat.pow_succ]; omega
    generalize hR : (2 : Nat) ^ t' = R at hpow
    rw [hpow] at hm3
    have hR1 : 1 ≤ R := by rw [← hR]; exact Nat.one_le_two_pow
    refine ⟨_, rfl, _, _, rfl, rfl, _, _, rfl, rfl, ⟨by omega, by omega, by decide⟩, ?_⟩
    have eR : (1 : Int) * 2 ^ (((t' + 1 : Nat) : Int) - 1).toNat = (R : Int) := by
      have : (((t' + 1 : Nat) : Int) - 1).toNat = t' := by omega
      rw [this, ← hR, Int.one_mul]
      norm_cast
    dsimp only
    rw [eR]
    refine ⟨_, rfl, _, rfl, _, _, rfl, rfl, _, _, rfl, _, rfl, _, _, rfl, rfl, _, rfl, _, _, rfl, _, _, rfl, ?_⟩
    have hE1 : 1 ≤ (if (m : Int) - (R : Int) > 1 then (m : Int) - (R : Int) else 1) ∧ (m : Int) - R ≤ (if (m : Int) - (R : Int) > 1 then (m : Int) - (R : Int) else 1) ∧
        ((if (m : Int) - (R : Int) > 1 then (m : Int) - (R : Int) else 1) = 1 ∨ (if (m : Int) - (R : Int) > 1 then (m : Int) - (R : Int) else 1) = (m : Int) - R) := by
      split <;> omega
    have hE2 : (if (R : Int) < (m : Int) - 1 then (R : Int) else (m : Int) - 1) ≤ (m : Int) - 1 ∧ (if (R : Int) < (m : Int) - 1 then (R : Int) else (m : Int) - 1) ≤ R ∧
        ((if (R : Int) < (m : Int) - 1 then (R : Int) else (m : Int) - 1) = (m : Int) - 1 ∨ (if (R : Int) < (m : Int) - 1 then (R : Int) else (m : Int) - 1) = R) := by
      split <;> omega
    generalize hE1e : (if (m : Int) - (R : Int) > 1 then (m : Int) - (R : Int) else 1) = E1 at hE1 ⊢
    generalize hE2e : (if (R : Int) < (m : Int) - 1 then (R : Int) else (m : Int) - 1) = E2 at hE2 ⊢
    have pick3 : ∀ x : Int, E1 ≤ x → x ≤ E2 → ∃ lf : Nat, x = (lf : Int) ∧ 1 ≤ lf ∧ lf ≤ R ∧ 1 ≤ m - lf ∧ m - lf ≤ R ∧ lf ≤ m := fun x h1 h2 =>
      ⟨x.toNat, by omega, by omega, by omega, by omega, by omega, by omega⟩
    refine ⟨_, rfl, d, L, ns, n, 5, rfl, p, by omega, by decide, by decide, fun way H1 w0 w5 k1 p1 => ?_⟩
    refine ⟨_, rfl, _, rfl, _, rfl, _, rfl, _, _, rfl, rfl, _, _, rfl, rfl, d, L, ns, n + 1, E2 - E1 + 1, rfl, p1, by omega, by omega, by omega, fun r H2 r0 r1 k2 p2 => ?_⟩
    refine ⟨_, _, rfl, rfl, ?_⟩
    refine ⟨_, rfl, _, _, rfl, rfl, _, rfl, ?_⟩
    have k12 := k1.trans k2
    have e1 : ((t' + 1 : Nat) : Int) - 1 = (t' : Int) := by omega
    refine ite2 (fun c2 => ?_) (fun c2 => ?_)
    refine ⟨_, rfl, rfl, _, rfl, ?_⟩
    refine ite2 (fun c3 => ?_) (fun c3 => ?_)
    case' refine_1 =>
      obtain ⟨lf, rfl, l1, l2, l3, l4, l5⟩ := pick3 E1 (by omega) (by omega)
      refine ⟨_, rfl, ?_⟩
    case' refine_2 =>
      obtain ⟨lf, rfl, l1, l2, l3, l4, l5⟩ := pick3 E2 (by omega) (by omega)
      refine ⟨_, rfl, ?_⟩
    case' refine_2.refine_2.refine_2 =>
      obtain ⟨lf, elf, l1, l2, l3, l4, l5⟩ := pick3 (E1 + r) (by omega) (by omega)
      dsimp only
      rw [elf]
    all_goals
      refine ⟨_, rfl, by show 4 ≤ sizeLine; decide, fun p4 n4 => ?_⟩
      refine ⟨d, L, ns, n + 2, _, rfl, p2.same (same_new n4 _), by omega, .inl ⟨p4, _, rfl, SqL.of upd_same, by simp, by show 4 ≤ 1000; decide, fun x H3 hx k3 p3 => ?_⟩⟩
      have k3' := (k12.trans (Same.toKeep (same_new n4 _))).trans k3
      obtain ⟨w', rfl, hw⟩ : ∃ w', x = .str w' ∧ w' ∈ halfW := by
        have : x ∈ halfW.map V.str := hx
        obtain ⟨w', hw, e⟩ := List.mem_map.mp this
        exact ⟨w', e.symm, hw⟩
      refine ⟨_, rfl, _, rfl, _, rfl, _, rfl, _, _, rfl, rfl, d, L, ns, n + 3, a, zs, lf, t', congrArg (fun i => [V.ref d, V.ref a, V.int (lf : Int), V.int i]) e1, by omega, p3, by omega, seqL_keep p.isDk k3' hS, hne, hzl, hzs, l1, by omega, by omega, by omega, fun v1 D1 H4 hd1 hf1 hv1 k4 p4' => ?_⟩
      have k4' := k3'.trans k4
      have e2 : (m : Int) - (lf : Int) = ((m - lf : Nat) : Int) := by omega
      refine ⟨_, rfl, _, rfl, _, rfl, _, rfl, _, rfl, _, rfl, _, _, rfl, rfl, _, rfl, _, _, rfl, rfl, d, L, ns, n + 3 + (5 * lf - 3), a, zs, m - lf, t', ?_, by omega, p4', by omega, seqL_keep p.isDk k4' hS, hne, hzl, hzs, l3, by omega, by omega, by omega, fun v2 D2 H5 hd2 hf2 hv2 k5 p5 => ⟨by show 3 ≤ sizeLine; decide, fun p6 n6 => ?_⟩⟩
      · show [V.ref d, V.ref a, V.int ((m : Int) - (lf : Int)), V.int (((t' + 1 : Nat) : Int) - 1)] = _
        rw [e1, e2]
      · have S6 := same_new n6 (.tup [.str w', v1, v2])
        exact q (.ref p6) (.tuple [.str w', D1, D2]) _ (.tup (SqT.of upd_same) (.cons (.str _) (.cons (dp_same S6 _ _ (dp_keep p4'.isDk k5 _ _ hd1))  (.cons (dp_same S6 _ _ hd2) .nil)))) (isForm_node hw hf1 hf2) (by rw [lvs3, List.length_append, hv1, hv2]; omega) ((k4'.trans k5).trans (Same.toKeep S6)) ((p5.same S6).mono (by omega))
end
end My

set_option Elab.async false
set_option linter.all false
set_option maxRecDepth 100000
namespace My
open PySem PySem.Spec PyProof.Rows L2 SX HT
/-! ### t[::-1] -/
section
variable {prog : Program} {w : World} {A : Around} {E : Value → Shared → Prop} {s : Shared}
theorem back_applied {sl : Addr} {vk : Value} {n : Nat} {Q : Int × Int × Nat → Shared → Prop} (hs : s.heap.IsSliceOf sl .none .none vk) (pk : IsPart vk (some (-1)))
    (h : Q ((n : Int) - 1, -1, n) s) : wpAny (model prog w) A (Builtin.Slice.sliceApplied (.ref sl) (pure (n : Int))) Q E s := by
  obtain ⟨o, ho, hc, hd⟩ := id hs
  unfold Builtin.Slice.sliceApplied Builtin.Slice.sliceFields
  refine wpAny_bind (wpAny_bind (wpAny_field ho hd (x := .none) rfl (wpAny_bind (wpAny_field ho hd (x := .none) rfl (wpAny_bind (wpAny_field ho hd (x := vk) rfl (wpAny_pure ?_)))))))
  refine wpAny_bind (slicePart_ pk ?_)
  show wpAny _ _ (if ((-1 : Int) == 0) = true then _ else _) _ _ s
  rw [if_neg (by decide)]
  refine wpAny_bind (slicePart_none (wpAny_bind (slicePart_none (wpAny_bind (wpAny_pure ?_)))))
  have e : Builtin.Slice.sliceAdjust none none (-1) (n : Int) = ((n : Int) - 1, -1) := rfl
  show wpAny _ _ (match Builtin.Slice.sliceAdjust none none (-1) (n : Int) with | (lo, hi) => pure (lo, (-1 : Int), Builtin.Slice.slicePlaces lo hi (-1))) _ _ s
  rw [e]
  have e2 : Builtin.Slice.slicePlaces ((n : Int) - 1) (-1) (-1) = n := by
    unfold Builtin.Slice.slicePlaces
    rw [if_neg (by decide)]
    by_cases hn : n = 0
    · subst hn; rfl
    · rw [if_pos (by omega)]
      have : ((n : Int) - 1 - -1 - 1) / (- -1) + 1 = (n : Int) := by
        show ((n : Int) - 1 - -1 - 1) / 1 + 1 = (n : Int)
        rw [Int.ediv_one]
        omega
      rw [this, Int.toNat_natCast]
  show wpAny _ _ (pure ((n : Int) - 1, (-1 : Int), Builtin.Slice.slicePlaces ((n : Int) - 1) (-1) (-1))) _ _ s
  rw [e2]
  exact wpAny_pure h
theorem back_picked (xs : Array Value) : ((List.range xs.size).filterMap fun (k : Nat) => xs[(((xs.size : Int) - 1) + (k : Int) * (-1)).toNat]?).toArray = xs.toList.reverse.toArray := by
  have e : (List.range xs.size).filterMap (fun (k : Nat) => xs[(((xs.size : Int) - 1) + (k : Int) * (-1)).toNat]?) = ((List.range xs.size).map fun k => xs.size - 1 - k).filterMap (xs[·]?) := by
    rw [List.filterMap_map]
    congr 1
    funext k
    have : (((xs.size : Int) - 1) + (k : Int) * (-1)).toNat = xs.size - 1 - k := by omega
    rw [this]
    rfl
  rw [e, PySem.W.krv_range, List.filterMap_reverse, PySem.W.krv_all]
theorem back_item {t sl : Addr} {items : Array Value} {vk : Value} {Q : Value → Shared → Prop} (ht : IsTup s.heap t items) (hs : s.heap.IsSliceOf sl .none .none vk) (pk : IsPart vk (some (-1)))
    (h : Q (.ref s.heap.objs.size) { s with heap := s.heap.push { cls := .type "tuple", data := .seq items.toList.reverse.toArray } }) (hz : items.size ≤ sizeLine) : wpAny (model prog w) A (getItem (.ref t) (.ref sl)) Q E s := by
  have hsz : sizeOk (.seq items.toList.reverse.toArray) := by
    show items.toList.reverse.toArray.size ≤ sizeLine
    rw [List.size_toArray, List.length_reverse, Array.length_toList]
    exact hz
  obtain ⟨o, ho, hc, hd⟩ := id hs
  have hT : s.TypeIs (.ref sl) "slice" := ⟨o, ho, hc⟩
  unfold getItem
  try with_reducible refine wpAny_holding ?_
  first | refine wpAny_bind (wpAny_pure ?_) | skip
  refine wpAny_bind (wpAny_sequenceKey ht.typeIs (by decide) (wpAny_bind (wpAny_callSpecial?_slot (name := Str.ofString "__getitem__") ht.typeIs slot_tuple_getitem (wpAny_call_entry slot_tuple_getitem ht.typeIs entry_tuple_getitem ?_ (args_tuple_getitem _ _)))))
  show wpAny _ _ (Builtin.Tuple.tupleItemsOf (.ref t) >>= _) _ _ s
  refine wpAny_bind (tupleItemsOf_ ht (wpAny_bind (wpAny_typeOf hT ?_)))
  rw [if_pos (by decide)]
  refine wpAny_bind (back_applied hs pk ?_)
  have hno : ¬ ((((items.size : Int) - 1) == 0 && (-1 : Int) == 1 && items.size == items.size) = true) := by
    rw [Bool.and_eq_true, Bool.and_eq_true]
    rintro ⟨⟨_, q⟩, _⟩
    exact absurd q (by decide)
  show wpAny _ _ (if (((items.size : Int) - 1) == 0 && (-1 : Int) == 1 && items.size == items.size) = true then _ else _) _ _ s
  rw [if_neg hno, back_picked]
  first
    | exact wpAny_bind (m := Builtin.Tuple.tupleExact _) (wpAny_newObj_type (wpAny_pure ⟨_, rfl, wpAny_pure h⟩) hsz)
    | exact wpAny_bind (m := Builtin.Tuple.tupleExact _) (wpAny_newObj_type (wpAny_bind (wpAny_pure (wpAny_pure ⟨_, rfl, wpAny_pure h⟩))) hsz)
    | exact wpAny_bind (wpAny_bind (m := Builtin.Tuple.tupleExact _) (wpAny_newObj_type (wpAny_pure (wpAny_pure ⟨_, rfl, wpAny_pure h⟩)) hsz))
    | exact wpAny_bind (wpAny_bind (m := Builtin.Tuple.tupleExact _) (wpAny_newObj_type (wpAny_pure ⟨_, rfl, wpAny_pure h⟩) hsz))
end
section
variable {X : Cx}
def tRevT (K : PySem.W.Frag) (te : TE) : TE := fun σ H Q => te σ H fun x H1 => ∃ a xs, x = .ref a ∧ SqT K H1 a xs ∧ ∀ p, H1 p = none → Q (.ref p) (upd H1 p (.tup xs.reverse))
theorem pe_revT {e : Expr} {te : TE} {k : Nat} {p1 p2 p3 pos : Pos} (he : PE X e te) : PE X (.Subscript e (.Slice none none (some (.UnaryOp .USub (.Constant (.int 1) k p1) p2)) p3) pos) (tRevT X.K te) := by
  refine ⟨fun pins s σ H Q I h => Subscript_ (thn (he.run pins s σ H _ I h) fun v s1 ⟨x, H1, I1, r1, a, xs, ex, hx, q⟩ => ?_)⟩
  subst ex
  cases r1
  have hst : PO X (some (.UnaryOp .USub (.Constant (.int 1) k p1) p2)) (tPart (tUn (rU fun i => .int (-i)) (tC (.int 1)))) := po_some (pe_un un_neg pe_int)
  refine wpAny_Slice (thn (po_none.run pins s1 σ H1 (fun o H2 => o = none ∧ H2 = H1) I1 ⟨rfl, rfl⟩) fun vl s2 ⟨l, H2, I2, pl, el, e2⟩ => ?_)
  subst el e2
  refine thn (po_none.run pins s2 σ H2 (fun o H3 => o = none ∧ H3 = H2) I2 ⟨rfl, rfl⟩) fun vu s3 ⟨u, H3, I3, pu, eu, e3⟩ => ?_
  subst eu e3
  refine thn (hst.run pins s3 σ H3 (fun o H4 => o = some (-1) ∧ H4 = H3) I3 ⟨1, rfl, -1, rfl, rfl, rfl⟩) fun vs s4 ⟨o, H4, I4, ps, eo, e4⟩ => ?_
  subst eo e4
  cases pl
  cases pu
  have I5 : Inv X pins σ H4 { s4 with heap := s4.heap.push { cls := .type "slice", data := .fields #[.none, .none, vs] } } := I4.kept (t' := s4.toks) fun b ob q => Heap.get?_push_of_some _ q
  obtain ⟨its, r, ht, hz⟩ := I5.tuple hx
  have hlen := r.length
  show wpAny (model X.prog X.w) X.A (subscriptTail e (.Slice none none (some (.UnaryOp .USub (.Constant (.int 1) k p1) p2)) p3) (.ref a) (.ref s4.heap.objs.size)) (EP X pins σ Q) X.xe { s4 with heap := s4.heap.push { cls := .type "slice", data := .fields #[.none, .none, vs] } }
  refine tail_any (ops := [.ref a, .ref s4.heap.objs.size]) ht.typeIs (slot_tuple_getitem.lookup) ?_ (by with_unfolding_all rfl)
  refine back_item ht (Heap.IsSliceOf.new _ .none .none vs) ps ?_ (by rw [List.size_toArray]; omega)
  refine ⟨.ref _, _, I5.laid (t' := s4.toks) (o := .tup xs.reverse) (fun b ob q => Heap.get?_push_of_some _ q) (Nat.le_refl _) ?_, rfl, q _ (I5.hok.fresh (Nat.le_refl _))⟩
  exact ⟨by rw [List.length_reverse]; exact hz, its.reverse, r.reverse, _, Heap.get?_push_size _ rfl, rfl, _, rfl⟩
end
/-! ### texts that are short and of plain signs -/
theorem okS {z : Str} : okStr z = true ↔ z.length ≤ 1000 ∧ ∀ c ∈ z.cps.toList, c < 128 := by
  unfold okStr
  rw [Bool.and_eq_true, List.all_eq_true]
  constructor
  · exact fun h => ⟨of_decide_eq_true h.1, fun c hc => of_decide_eq_true (h.2 c hc)⟩
  · exact fun h => ⟨decide_eq_true h.1, fun c hc => decide_eq_true (h.2 c hc)⟩
theorem tl_len (z : Str) : z.cps.toList.length = z.length := Array.length_toList
theorem cut_tl (z : Str) (lo hi : Option Int) : (cutS z lo hi).cps.toList = (z.cps.toList.drop (HT.sIx z.length 0 lo)).take (HT.sIx z.length z.length hi - HT.sIx z.length 0 lo) := rfl
theorem cut_len (z : Str) (lo hi : Option Int) : (cutS z lo hi).length ≤ z.length := by
  rw [← tl_len, cut_tl, List.length_take, List.length_drop, tl_len]
  omega
theorem cut_asc {z : Str} (lo hi : Option Int) (h : ∀ c ∈ z.cps.toList, c < 128) : ∀ c ∈ (cutS z lo hi).cps.toList, c < 128 := fun c hc => by
  rw [cut_tl] at hc
  exact h c (List.mem_of_mem_drop (List.mem_of_mem_take hc))
theorem cat_tl (a b : Str) : (a ++ b).cps.toList = a.cps.toList ++ b.cps.toList := TL.tl_append a b
theorem cat_len (a b : Str) : (a ++ b).length = a.length + b.length := by
  rw [← tl_len, cat_tl, List.length_append, tl_len, tl_len]
theorem cat_asc {a b : Str} (ha : ∀ c ∈ a.cps.toList, c < 128) (hb : ∀ c ∈ b.cps.toList, c < 128) : ∀ c ∈ (a ++ b).cps.toList, c < 128 := fun c hc => by
  rw [cat_tl] at hc
  rcases List.mem_append.mp hc with hc | hc
  · exact ha c hc
  · exact hb c hc
theorem one_asc {c : Nat} (h : c < 128) : ∀ x ∈ (⟨#[c]⟩ : Str).cps.toList, x < 128 := fun x hx => by
  rw [List.mem_singleton.mp hx]
  exact h
theorem upper_ok {z : Str} (h : ∀ c ∈ z.cps.toList, c < 128) : (Txt.upper z).length = z.length ∧ ∀ c ∈ (Txt.upper z).cps.toList, c < 128 := by
  have e := upper_S (a := z.cps.toList) (by rw [List.all_eq_true]; exact fun c hc => decide_eq_true (h c hc))
  rw [S_tl] at e
  rw [e]
  refine ⟨by rw [S_len, List.length_map, tl_len], fun c hc => ?_⟩
  obtain ⟨x, hx, rfl⟩ := List.mem_map.mp (show c ∈ z.cps.toList.map up1 from hc)
  have := h x hx
  unfold up1
  split <;> omega
end My

set_option Elab.async false
set_option linter.all false
set_option maxRecDepth 100000
namespace My
open PySem L2 SX
abbrev s_law_bent_name : Stmt := top 50
abbrev N_law_bent_name : List Str := ["_law_pen", "_law_name_here", "_law_at", "_law_sign", "_law_way"]
abbrev P_law_bent_name : List Str := ["_law_pen", "_law_name_here"]
theorem sc_law_bent_name : FnScope N_law_bent_name P_law_bent_name (defScope s_law_bent_name) := ⟨rfl, rfl, rfl, by decide +kernel, rfl, by decide +kernel, by decide +kernel⟩
mutual
def widD : PyData → Bool
  | .list xs => decide (xs.length ≤ 1000) && widAll xs
  | .tuple xs => decide (xs.length ≤ 1000) && widAll xs
  | .dict _ => false
  | _ => true
def widAll : List PyData → Bool
  | [] => true
  | d :: ds => widD d && widAll ds
end
theorem wid_form : ∀ {k : Nat} {D : PyData}, isForm k D = true → widD D = true := by
  intro k
  induction k with
  | zero =>
    intro D h
    rcases isForm_inv h with ⟨w, n, rfl, hw, hn⟩ | ⟨j, w, a, b, e, _⟩
    · rfl
    · cases e
  | succ k ih =>
    intro D h
    rcases isForm_inv h with ⟨w, n, rfl, hw, hn⟩ | ⟨j, w, a, b, e, rfl, hw, ha, hb⟩
    · rfl
    · obtain rfl : k = j := by omega
      show (true && (true && (widD a && (widD b && true)))) = true
      rw [ih ha, ih hb]
      rfl
def spBentName (K : PySem.W.Frag) : Sp := fun vs H Q _ => ∃ (d L : Addr) (ns : List Int) (n : Nat) (z : Str), vs = [.ref d, .str z] ∧ Pen K H d L ns n ∧ n < 2 ^ 39 ∧ isName z = true ∧
  ∀ v D H', Dp K H' v D → shortD D = true → widD D = true → D.depth ≤ 1 → Keep d H H' → Pen K H' d L ns (n + 4) → Q v H'
def zSigns : Str := Str.ofString "AZ_-~ .,()*|&+09az\n\t"
theorem signs_asc : ∀ c ∈ zSigns.cps.toList, c < 128 := by decide +kernel
theorem add_fit {a b : Str} (ha : a.length ≤ 400) (hb : b.length ≤ 400) : a.length + b.length ≤ sizeLine := Nat.le_of_lt (small1000 (by omega))
section
variable {P : Program} {w : World} {K : PySem.W.Frag} {mg : Str → Option Value} {base : Heap} {f : Addr} {fd : FuncData}
theorem ok_law_bent_name (T : Txt K mg) (F : Fun K "_law_bent_name" "_law_bent_name" s_law_bent_name f fd) (C_law_draw : Cal P w K mg base "_law_draw" 1 ["_law_pen", "_law_span"] (spDraw K)) (C_law_pick : Cal P w K mg base "_law_pick" 2 ["_law_pen", "_law_some"] (spPick K)) :
    FnOk P w K mg base CX0 3 f fd P_law_bent_name (spBentName K) := by
  refine F.ok sc_law_bent_name (fun vs H Q E h => ?_) (fun cdv A outer s H vs Q E hr h => ?_)
  · obtain ⟨d, L, ns, n, z, rfl, _⟩ := h
    rfl
  obtain ⟨d, L, ns, n, z, rfl, p, hn, hname, q⟩ := h
  refine ⟨_, (pss_cons (ps_par (i := 2) (j := 3) (by rfl) sc_law_bent_name.nd rfl rfl (by decide) rfl rfl (pa_cons (pe_callC C_law_draw hr (pa_cons (pv 0) (pa_cons (pe_callB call_len rfl T.len (by decide +kernel) (pa_cons (pv 1) pa_nil)) pa_nil))) (pa_cons (pe_callC C_law_pick hr (pa_cons (pv 0) (pa_cons pe_str pa_nil))) pa_nil)) (by rfl))
  (pss_cons (ps_set (i := 4) sc_law_bent_name.nd rfl (Or.inl rfl) (pe_callC C_law_draw hr (pa_cons (pv 0) (pa_cons pe_int pa_nil))))
  (pss_cons (ps_if (pt_cmpR op_lt (pv 4) pe_int (nomark _))
    (pss_one (ps_ret (pe_op op_add_str (pe_op op_add_str (pe_slice sl_str (pv 1) po_none (po_some (pv 2))) (pv 3)) (pe_slice sl_str (pv 1) (po_some (pe_op op_add (pv 2) pe_int)) po_none))))
    pss_nil)
  (pss_cons (ps_if (pt_cmpR op_lt (pv 4) pe_int (nomark _))
    (pss_one (ps_ret (pe_op op_add_str (pe_op op_add_str (pe_slice sl_str (pv 1) po_none (po_some (pv 2))) (pv 3)) (pe_slice sl_str (pv 1) (po_some (pv 2)) po_none))))
    pss_nil)
  (pss_cons (ps_if (pt_cmpR op_lt (pv 4) pe_int (nomark _))
    (pss_one (ps_ret (pe_slice sl_str (pe_op op_add_str (pv 1) pe_str) po_none (po_some (pe_op op_add pe_int (pe_callC C_law_draw hr (pa_cons (pv 0) (pa_cons pe_int pa_nil))))))))
    pss_nil)
  (pss_one (ps_ret (pe_ix ix_list (pe_lst (pa_cons (pe_op op_add_str (pe_slice sl_str (pv 1) po_none (po_some (pv 2))) (pe_slice sl_str (pv 1) (po_some (pe_op op_add (pv 2) pe_int)) po_none)) (pa_cons (pe_op op_add_str (pv 1) (pv 3)) (pa_cons (pe_upper (pv 1)) (pa_cons (pe_lst (pa_cons (pv 1) pa_nil)) (pa_cons pe_int pa_nil)))))) (pe_op op_sub (pv 4) pe_int) (fun _ _ => rfl))))))))), ?_⟩
  have hl12 := name_len hname
  have hz : z.length ≤ sizeLine := Nat.le_of_lt (small1000 (by omega))
  have hasc := (okS.mp (okStr_of_name hname)).2
  have hcl : ∀ lo hi, (cutS z lo hi).length ≤ 12 := fun lo hi => Nat.le_trans (cut_len z lo hi) hl12.2
  refine ⟨_, rfl, _, rfl, _, _, rfl, ⟨hz, rfl⟩, d, L, ns, n, _, rfl, p, by omega, by omega, by omega, fun at_ H1 a0 a1 k1 p1 => ?_⟩
  refine ⟨_, rfl, d, L, ns, n + 1, _, rfl, p1, by omega, .inr ⟨zSigns, rfl, by decide +kernel, by decide +kernel, fun c H2 hc k2 p2 => ⟨_, _, rfl, ?_⟩⟩⟩
  have hc1 := one_asc (signs_asc c hc)
  have l1 : (⟨#[c]⟩ : Str).length = 1 := rfl
  refine ⟨_, rfl, d, L, ns, n + 2, 12, rfl, p2, by omega, by decide, by decide, fun way H3 w0 w1 k3 p3 => ?_⟩
  have kk := (k1.trans k2).trans k3
  refine ⟨_, rfl, _, _, rfl, rfl, _, rfl, ?_⟩
  have fin : ∀ (t : Str) H', t.length ≤ 400 → (∀ c ∈ t.cps.toList, c < 128) → Keep d H H' → Pen K H' d L ns (n + 4) → Q (.str t) H' := fun t H' hl ha hk hp =>
    q (.str t) (.str t) H' (.str t) (by unfold shortD; exact okS.mpr ⟨by omega, ha⟩) rfl (by simp [PyData.depth]) hk hp
  refine ite2 (fun c1 => ?_) (fun c1 => ?_)
  · refine ⟨_, rfl, _, rfl, _, rfl, z, rfl, hz, _, rfl, _, _, rfl, rfl, add_fit (by have := hcl none (some at_); omega) (by omega), _, rfl, _, rfl, _, _, rfl, rfl, _, rfl, z, rfl, hz, _, _, rfl, rfl, add_fit (by rw [cat_len]; have := hcl none (some at_); omega) (by have := hcl (some (at_ + 1)) none; omega), ?_⟩
    refine fin _ _ ?_ (cat_asc (cat_asc (cut_asc _ _ hasc) hc1) (cut_asc _ _ hasc)) kk (p3.mono (by omega))
    rw [cat_len, cat_len]
    have h1 := hcl none (some at_)
    have h2 := hcl (some (at_ + 1)) none
    omega
  refine ⟨_, rfl, _, _, rfl, rfl, _, rfl, ?_⟩
  refine ite2 (fun c2 => ?_) (fun c2 => ?_)
  · refine ⟨_, rfl, _, rfl, _, rfl, z, rfl, hz, _, rfl, _, _, rfl, rfl, add_fit (by have := hcl none (some at_); omega) (by omega), _, rfl, _, rfl, _, rfl, z, rfl, hz, _, _, rfl, rfl, add_fit (by rw [cat_len]; have := hcl none (some at_); omega) (by have := hcl (some at_) none; omega), ?_⟩
    refine fin _ _ ?_ (cat_asc (cat_asc (cut_asc _ _ hasc) hc1) (cut_asc _ _ hasc)) kk (p3.mono (by omega))
    rw [cat_len, cat_len]
    have h1 := hcl none (some at_)
    have h2 := hcl (some at_) none
    omega
  refine ⟨_, rfl, _, _, rfl, rfl, _, rfl, ?_⟩
  refine ite2 (fun c3 => ?_) (fun c3 => ?_)
  · have hm : (Str.ofString "a1b2c3d4e5f6").length ≤ 100 := by decide +kernel
    have hm2 : ∀ c ∈ (Str.ofString "a1b2c3d4e5f6").cps.toList, c < 128 := by decide +kernel
    refine ⟨_, rfl, _, _, rfl, rfl, add_fit (by omega) (by omega), _, rfl, d, L, ns, n + 3, 2, rfl, p3, by omega, by decide, by decide, fun r H4 r0 r1 k4 p4 => ?_⟩
    refine ⟨_, _, rfl, rfl, _, rfl, _, rfl, by rw [cat_len]; exact Nat.le_of_lt (small1000 (by omega)), ?_⟩
    refine fin _ _ ?_ (cut_asc _ _ (cat_asc hasc hm2)) (kk.trans k4) (p4.mono (by omega))
    refine Nat.le_trans (cut_len _ _ _) ?_
    rw [cat_len]
    omega
  · have c3' : ¬ way < 7 := fun z => c3 (decide_eq_true z)
    refine ⟨_, rfl, _, rfl, _, rfl, z, rfl, hz, _, rfl, _, rfl, _, _, rfl, rfl, _, rfl, z, rfl, hz, _, _, rfl, rfl, add_fit (by have := hcl none (some at_); omega) (by have := hcl (some (at_ + 1)) none; omega), ?_⟩
    refine ⟨_, rfl, _, rfl, _, _, rfl, rfl, add_fit (by omega) (by omega), _, rfl, ⟨_, rfl⟩, _, rfl, rfl, by omega, _, rfl, by show 1 ≤ sizeLine; decide, fun p5 n5 => ⟨by show 5 ≤ sizeLine; decide, fun p6 n6 => ?_⟩⟩
    have kf : Keep d H (upd (upd H3 p5 (.lst [.str z])) p6 (.lst [.str (cutS z none (some at_) ++ cutS z (some (at_ + 1)) none), .str (z ++ ⟨#[c]⟩), .str (Txt.upper z), .ref p5, .int 5])) := kk.trans ((Same.toKeep (same_new n5 _)).trans (Same.toKeep (same_new n6 _)))
    have pf := (((p3.same (same_new n5 (.lst [.str z]))).same (same_new n6 (.lst [.str (cutS z none (some at_) ++ cutS z (some (at_ + 1)) none), .str (z ++ ⟨#[c]⟩), .str (Txt.upper z), .ref p5, .int 5]))).mono (show n + 2 + 1 ≤ n + 4 by omega))
    have e5 := same_new n6 (.lst [.str (cutS z none (some at_) ++ cutS z (some (at_ + 1)) none), .str (z ++ ⟨#[c]⟩), .str (Txt.upper z), .ref p5, .int 5]) _ _ (upd_same (H := H3) (a := p5) (o := .lst [.str z]))
    have hup := upper_ok hasc
    have hway : way = 7 ∨ way = 8 ∨ way = 9 ∨ way = 10 ∨ way = 11 := by omega
    rcases hway with rfl | rfl | rfl | rfl | rfl
    · refine ⟨_, rfl, _, _, rfl, rfl, p6, _, _, _, rfl, rfl, SqL.of upd_same, rfl, ?_⟩
      refine fin _ _ ?_ (cat_asc (cut_asc _ _ hasc) (cut_asc _ _ hasc)) kf pf
      rw [cat_len]
      have h1 := hcl none (some at_)
      have h2 := hcl (some (at_ + 1)) none
      omega
    · refine ⟨_, rfl, _, _, rfl, rfl, p6, _, _, _, rfl, rfl, SqL.of upd_same, rfl, ?_⟩
      refine fin _ _ ?_ (cat_asc hasc hc1) kf pf
      rw [cat_len]
      omega
    · refine ⟨_, rfl, _, _, rfl, rfl, p6, _, _, _, rfl, rfl, SqL.of upd_same, rfl, ?_⟩
      exact fin _ _ (by omega) hup.2 kf pf
    · refine ⟨_, rfl, _, _, rfl, rfl, p6, _, _, _, rfl, rfl, SqL.of upd_same, rfl, ?_⟩
      refine q (.ref p5) (.list [.str z]) _ (.lst (SqL.of e5) (.cons (.str z) .nil)) ?_ rfl (by simp [PyData.depth, PyData.depthAll]) kf pf
      simp only [shortD, shortAll, okStr_of_name hname, Bool.and_self]
    · refine ⟨_, rfl, _, _, rfl, rfl, p6, _, _, _, rfl, rfl, SqL.of upd_same, rfl, ?_⟩
      exact q (.int 5) (.int 5) _ (.int 5) (by simp only [shortD]) rfl (by simp [PyData.depth]) kf pf
end
end My

set_option Elab.async false
set_option linter.all false
set_option maxRecDepth 100000
namespace My
open PySem PySem.Spec PyProof.Rows L2 SX
/-! ### the same rules, the heap behind them left open -/
/-- a new object -/
def New (o : HO) (Q : VK) (H : Hp) : Prop := ∀ p H', Same H H' → H' p = some o → Q (.ref p) H'
/-- a tuple, new or not -/
def NewT (K : PySem.W.Frag) (xs : List V) (Q : VK) (H : Hp) : Prop := ∀ p H', Same H H' → SqT K H' p xs → Q (.ref p) H'
theorem New.go {o : HO} {Q : VK} {H : Hp} (h : New o Q H) : ∀ p, H p = none → Q (.ref p) (upd H p o) := fun p np => h p _ (same_new np o) upd_same
theorem NewT.go {K : PySem.W.Frag} {xs : List V} {Q : VK} {H : Hp} (h : NewT K xs Q H) : ∀ p, H p = none → Q (.ref p) (upd H p (.tup xs)) := fun p np => h p _ (same_new np _) (SqT.of upd_same)
theorem le1k {n : Nat} (h : Nat.ble n 1000 = true := by rfl) : n ≤ 1000 := Nat.le_of_ble_eq_true h
theorem fit1000 {n : Nat} (h : n ≤ 1000) : n ≤ sizeLine := Nat.le_of_lt (small1000 h)
def nTup (K : PySem.W.Frag) (t : TA) : TE := fun σ H Q => t σ H fun xs H1 => xs.length ≤ 1000 ∧ NewT K xs Q H1
def nLst (t : TA) : TE := fun σ H Q => t σ H fun xs H1 => xs.length ≤ 1000 ∧ New (.lst xs) Q H1
def nCatT (K : PySem.W.Frag) : R2 := fun x y H Q => ∃ a b xs ys, x = .ref a ∧ y = .ref b ∧ SqT K H a xs ∧ SqT K H b ys ∧ xs.length + ys.length ≤ 1000 ∧ NewT K (xs ++ ys) Q H
def nCatL : R2 := fun x y H Q => ∃ l b xs zs, x = .ref l ∧ y = .ref b ∧ H l = some (.lst xs) ∧ H b = some (.lst zs) ∧ xs.length + zs.length ≤ 1000 ∧ New (.lst (xs ++ zs)) Q H
def nSlT (K : PySem.W.Frag) : V → Option Int → Option Int → Hp → VK → Prop := fun x lo hi H Q => ∃ a xs, x = .ref a ∧ SqT K H a xs ∧ NewT K (cutV xs lo hi) Q H
def nListOf (K : PySem.W.Frag) : List V → Hp → VK → Prop := fun xs H Q => ∃ p ys, xs = [.ref p] ∧ (SqL K H p ys ∨ SqT K H p ys) ∧ New (.lst ys) Q H
section
variable {X : Cx} {es : List Expr} {t : TA} {pos : Pos}
theorem pe_tupN {x1} (h : PA X es t) : PE X (.Tuple es x1 pos) (nTup X.K t) := by
  refine ⟨fun pins s σ H Q I hq => wpAny_Tuple_spliced (thn (h.run pos pins s σ H _ I hq) fun us s1 ⟨xs, H1, I1, r, z, q⟩ => ⟨by rw [← r.length]; exact fit1000 z, ?_⟩)⟩
  have hf := I1.hok.fresh (Nat.le_refl s1.heap.objs.size)
  exact ⟨.ref s1.heap.objs.size, upd H1 s1.heap.objs.size (.tup xs), I1.laid (t' := s1.toks) (fun b u e => Heap.get?_push_of_some _ e) (Nat.le_refl _) ⟨fit1000 z, us, r, ⟨_, Heap.get?_push_size _ rfl, rfl, _, rfl⟩⟩, rfl, q.go _ hf⟩
theorem pe_lstN (h : PA X es t) : PE X (.List es pos) (nLst t) := by
  refine ⟨fun pins s σ H Q I hq => wpAny_List_spliced (thn (h.run pos pins s σ H _ I hq) fun us s1 ⟨xs, H1, I1, r, z, q⟩ => ⟨by rw [← r.length]; exact fit1000 z, ?_⟩)⟩
  have hf := I1.hok.fresh (Nat.le_refl s1.heap.objs.size)
  exact ⟨.ref s1.heap.objs.size, upd H1 s1.heap.objs.size (.lst xs), I1.laid (t' := s1.toks) (fun b u e => Heap.get?_push_of_some _ e) (Nat.le_refl _) ⟨fit1000 z, us, 0, r, Heap.get?_push_size _ rfl⟩, rfl, q.go _ hf⟩
theorem op_catTN : OpR X (binaryOp .Add) (nCatT X.K) := by
  intro pins s σ H x y v u Q I rx ry ⟨a, b, xs, ys, ex, ey, hx, hy, hl, q⟩
  refine op_catA pins s σ H x y v u Q I rx ry ⟨a, b, xs, ys, ex, ey, hx, hy, fit1000 hl, fun e => ?_, fun _ e => ?_, fun _ _ => q.go⟩
  · subst e
    exact q b H (Same.refl H) hy
  · subst e
    exact q a H (Same.refl H) (by rw [List.append_nil]; exact hx)
theorem op_catLN : OpR X (binaryOp .Add) nCatL := by
  intro pins s σ H x y v u Q I rx ry ⟨l, b, xs, zs, ex, ey, hx, hy, hl, q⟩
  exact op_cat pins s σ H x y v u Q I rx ry ⟨l, b, xs, zs, ex, ey, hx, hy, fit1000 hl, q.go⟩
theorem sl_tupN : SlR X (nSlT X.K) := by
  intro pins s σ H x v vl vu lo hi sl Q I rx hs pl pu ⟨a, xs, ex, hx, q⟩
  refine sl_tupA pins s σ H x v vl vu lo hi sl Q I rx hs pl pu ⟨a, xs, ex, hx, fun ⟨e1, e2⟩ => ?_, fun _ => q.go⟩
  refine q a H (Same.refl H) ?_
  have e : cutV xs lo hi = xs := by
    unfold cutV
    rw [e1, e2, List.drop_zero, Nat.sub_zero, List.take_length]
  rw [e]
  exact hx
theorem call_listN : CallR X (.type "list") (nListOf X.K) := by
  intro pins s σ H xs us Q I r ⟨p, ys, ex, hy, q⟩
  exact call_list_of pins s σ H xs us Q I r ⟨p, ys, ex, hy, q.go⟩
end
abbrev s_law_bent : Stmt := top 51
abbrev N_law_bent : List Str := ["_law_pen", "_law_form", "_law_at", "_law_rest", "_law_odd"]
abbrev P_law_bent : List Str := ["_law_pen", "_law_form"]
theorem sc_law_bent : FnScope N_law_bent P_law_bent (defScope s_law_bent) := ⟨rfl, rfl, rfl, by decide +kernel, rfl, by decide +kernel, by decide +kernel⟩
def spBent (K : PySem.W.Frag) (k : Nat) : Sp := fun vs H Q _ => ∃ (d L : Addr) (ns : List Int) (n : Nat) (v : V) (D : PyData) (k' : Nat), vs = [.ref d, v] ∧ k' < k ∧ k' ≤ 40 ∧ Pen K H d L ns n ∧ n + 3 * k' < 2 ^ 38 ∧ Dp K H v D ∧ isForm k' D = true ∧
  ∀ v' D' H', Dp K H' v' D' → shortD D' = true → widD D' = true → D'.depth ≤ k' + 4 → Keep d H H' → Pen K H' d L ns (n + (2 * k' + 5)) → Q v' H'
theorem okStr_s : ∀ w ∈ leafW ++ halfW, okStr (w ++ Str.ofString "s") = true := by decide +kernel
theorem word_len : ∀ w ∈ leafW ++ halfW, w.length ≤ 100 := by decide +kernel
section
variable {P : Program} {w : World} {K : PySem.W.Frag} {mg : Str → Option Value} {base : Heap} {f : Addr} {fd : FuncData}
set_option maxHeartbeats 4000000 in
theorem ok_law_bent {k : Nat} (T : Txt K mg) (F : Fun K "_law_bent" "_law_bent" s_law_bent f fd) (C_law_draw : Cal P w K mg base "_law_draw" 1 ["_law_pen", "_law_span"] (spDraw K)) (C_law_pick : Cal P w K mg base "_law_pick" 2 ["_law_pen", "_law_some"] (spPick K))
    (C_law_bent_name : Cal P w K mg base "_law_bent_name" 3 P_law_bent_name (spBentName K)) (C_law_bent : Cal P w K mg base "_law_bent" (3 + k) P_law_bent (spBent K k)) : FnOk P w K mg base CX0 (3 + k + 1) f fd P_law_bent (spBent K (k + 1)) := by
  refine F.ok sc_law_bent (fun vs H Q E h => ?_) (fun cdv A outer s H vs Q E hr h => ?_)
  · obtain ⟨d, L, ns, n, v, D, k', rfl, _⟩ := h
    rfl
  obtain ⟨d, L, ns, n, v, D, k', rfl, hk, hk40, p, hn, hv, hD, q⟩ := h
  refine ⟨_, (pss_cons (ps_if (PW.pt (pw_and (pt_cmpR op_eq (pe_callB call_len rfl T.len (by decide +kernel) (pa_cons (pv 1) pa_nil)) pe_int (nomark _)) (pw_and1 (pt_cmpR op_gt (pe_callC C_law_draw hr (pa_cons (pv 0) (pa_cons pe_int pa_nil))) pe_int (nomark _)))))
    (pss_cons (ps_set (i := 2) sc_law_bent.nd rfl (Or.inl rfl) (pe_op op_add pe_int (pe_callC C_law_draw hr (pa_cons (pv 0) (pa_cons pe_int pa_nil)))))
    (pss_one (ps_ret (pe_op op_catTN (pe_op op_catTN (pe_slice sl_tupN (pv 1) po_none (po_some (pv 2))) (pe_tupN (pa_cons (pe_callC C_law_bent hr (pa_cons (pv 0) (pa_cons (pe_ix ix_tup (pv 1) (pv 2) (fun _ _ => rfl)) pa_nil))) pa_nil))) (pe_slice sl_tupN (pv 1) (po_some (pe_op op_add (pv 2) pe_int)) po_none)))))
    pss_nil)
  (pss_cons (ps_if (PW.pt (pw_and (pt_cmpR op_eq (pe_callB call_len rfl T.len (by decide +kernel) (pa_cons (pv 1) pa_nil)) pe_int (nomark _)) (pw_and1 (pt_cmpR op_eq (pe_callC C_law_draw hr (pa_cons (pv 0) (pa_cons pe_int pa_nil))) pe_int (nomark _)))))
    (pss_one (ps_ret (pe_tupN (pa_cons (pe_ix ix_tup (pv 1) pe_int (fun _ _ => rfl)) (pa_cons (pe_callC C_law_bent_name hr (pa_cons (pv 0) (pa_cons (pe_ix ix_tup (pv 1) pe_int (fun _ _ => rfl)) pa_nil))) pa_nil)))))
    pss_nil)
  (pss_cons (ps_set (i := 3) sc_law_bent.nd rfl (Or.inl rfl) (pe_slice sl_tupN (pv 1) (po_some pe_int) po_none))
  (pss_cons (ps_set (i := 4) sc_law_bent.nd rfl (Or.inl rfl) (pe_lstN (pa_cons (pe_callTy call_listN rfl T.list (by decide +kernel) (pa_cons (pv 1) pa_nil)) (pa_cons (pe_op op_catTN (pv 1) (pe_tupN (pa_cons (pe_ix ix_tup (pv 1) (pe_un un_neg pe_int) (fun _ _ => rfl)) pa_nil))) (pa_cons (pe_slice sl_tupN (pv 1) po_none (po_some (pe_un un_neg pe_int))) (pa_cons (pe_op op_catTN (pe_tupN (pa_cons (pe_op op_add_str (pe_ix ix_tup (pv 1) pe_int (fun _ _ => rfl)) pe_str) pa_nil)) (pv 3)) (pa_cons (pe_op op_catTN (pe_tupN (pa_cons pe_int pa_nil)) (pv 3)) (pa_cons (pe_ix ix_tup (pv 1) pe_int (fun _ _ => rfl)) (pa_cons pe_non (pa_cons pe_bl (pa_cons (pe_tupN pa_nil) pa_nil)))))))))))
  (pss_cons (ps_set (i := 4) sc_law_bent.nd rfl (Or.inl rfl) (pe_op op_catLN (pv 4) (pe_lstN (pa_cons (pe_op op_catTN (pe_tupN (pa_cons pe_str pa_nil)) (pv 3)) (pa_cons (pe_op op_catTN (pe_tupN (pa_cons pe_str pa_nil)) (pv 3)) (pa_cons (pe_revT (pv 1)) (pa_cons (pe_op op_catTN (pe_tupN (pa_cons (pe_ix ix_tup (pv 1) pe_int (fun _ _ => rfl)) (pa_cons (pe_lstN (pa_cons (pe_ix ix_tup (pv 1) pe_int (fun _ _ => rfl)) pa_nil)) pa_nil))) (pe_slice sl_tupN (pv 1) (po_some pe_int) po_none)) (pa_cons (pe_tupN (pa_cons (pv 1) pa_nil)) pa_nil))))))))
  (pss_one (ps_ret (pe_callC C_law_pick hr (pa_cons (pv 0) (pa_cons (pv 4) pa_nil)))))))))), ?_⟩
  have kd := p.isDk
  have hshort := short_form hD
  have hdep := depth_form hD
  -- what is left when the form itself is changed, for both sorts of forms
  rcases isForm_inv hD with ⟨wd, nm, rfl, hw, hnm⟩ | ⟨j, wd, a, b, rfl, rfl, hw, ha, hb⟩
  · cases hv with | @tup t xs _ hT hA => cases hA with | @cons x0 xs1 _ _ h0 hA => cases hA with | @cons x1 xs2 _ _ h1 hN =>
    cases hN
    cases h0
    cases h1
    refine ⟨_, rfl, _, _, rfl, .inr ⟨_, hT, rfl⟩, rfl, _, rfl, ?_⟩
    refine iteF ⟨_, rfl, _, _, rfl, .inr ⟨_, hT, rfl⟩, rfl, _, rfl, ?_⟩
    refine iteT ⟨_, rfl, d, L, ns, n, 2, rfl, p, by omega, by decide, by decide, fun r H1 r0 r1 k1 p1 => ⟨rfl, _, rfl, ?_⟩⟩
    refine ite2 (fun c1 => ?_) (fun c1 => ?_)
    · refine ⟨_, rfl, t, _, _, _, rfl, rfl, seqT_keep kd k1 hT, rfl, _, rfl, _, rfl, t, _, _, _, rfl, rfl, seqT_keep kd k1 hT, rfl, d, L, ns, n + 1, nm, rfl, p1, by omega, hnm, fun v' D' H2 hd' hs' hw' hdp' k2 p2 => ⟨by show 2 ≤ 1000; decide, fun c3 H3 S3 g3 => ?_⟩⟩
      refine q (.ref c3) (.tuple [.str wd, D']) H3 (.tup g3 (.cons (.str _) (.cons (dp_same S3 _ _ hd') .nil))) ?_ ?_ ?_ ((k1.trans k2).trans (Same.toKeep S3)) ((p2.same S3).mono (by omega))
      · simp only [shortD, shortAll, okStr_leaf wd hw, hs', Bool.and_self]
      · simp [widD, widAll, hw']
      · simp only [PyData.depth, PyData.depthAll]
        omega
    · have okw := okStr_leaf wd hw
      have oks := okStr_s wd (List.mem_append_left _ hw)
      have okb : okStr (Str.ofString "both") = true := by decide +kernel
      have okc : okStr (Str.ofString "counter") = true := by decide +kernel
      have sa : okStr nm = true := okStr_of_name hnm
      have hwl := word_len wd (List.mem_append_left _ hw)
      have hT1 := seqT_keep kd k1 hT
      have W0 : Same H1 H1 := Same.refl H1
      refine ⟨_, rfl, _, rfl, t, _, rfl, (seqT_same W0 hT1), fun cR hp1 S1 g1 => ?_⟩
      have W1 := W0.trans S1
      refine ⟨_, rfl, t, _, rfl, .inr (seqT_same W1 hT1), fun l1 hp2 S2 g2 => ?_⟩
      have W2 := W1.trans S2
      refine ⟨_, rfl, _, rfl, _, rfl, t, _, _, _, rfl, rfl, (seqT_same W2 hT1), rfl, le1k, fun c2 hp3 S3 g3 => ?_⟩
      have W3 := W2.trans S3
      refine ⟨t, c2, _, _, rfl, rfl, (seqT_same W3 hT1), g3, le1k, fun c3 hp4 S4 g4 => ?_⟩
      have W4 := W3.trans S4
      refine ⟨_, rfl, _, rfl, _, rfl, t, _, rfl, (seqT_same W4 hT1), fun c4 hp5 S5 g5 => ?_⟩
      have W5 := W4.trans S5
      refine ⟨_, rfl, t, _, _, _, rfl, rfl, (seqT_same W5 hT1), rfl, _, _, rfl, rfl, add_fit (by omega) (by decide +kernel), le1k, fun c5 hp6 S6 g6 => ?_⟩
      have W6 := W5.trans S6
      refine ⟨_, rfl, c5, cR, _, _, rfl, rfl, g6, (seqT_same (((((S2).trans S3).trans S4).trans S5).trans S6) g1), le1k, fun c6 hp7 S7 g7 => ?_⟩
      have W7 := W6.trans S7
      refine ⟨le1k, fun c7 hp8 S8 g8 => ?_⟩
      have W8 := W7.trans S8
      refine ⟨_, rfl, c7, cR, _, _, rfl, rfl, g8, (seqT_same (((((((S2).trans S3).trans S4).trans S5).trans S6).trans S7).trans S8) g1), le1k, fun c8 hp9 S9 g9 => ?_⟩
      have W9 := W8.trans S9
      refine ⟨_, rfl, t, _, _, _, rfl, rfl, (seqT_same W9 hT1), rfl, le1k, fun c9 hp10 S10 g10 => ?_⟩
      have W10 := W9.trans S10
      refine ⟨le1k, fun l2 hp11 S11 g11 => ?_⟩
      have W11 := W10.trans S11
      refine ⟨_, rfl, le1k, fun c11 hp12 S12 g12 => ?_⟩
      have W12 := W11.trans S12
      refine ⟨_, rfl, c11, cR, _, _, rfl, rfl, g12, (seqT_same (((((((((((S2).trans S3).trans S4).trans S5).trans S6).trans S7).trans S8).trans S9).trans S10).trans S11).trans S12) g1), le1k, fun c12 hp13 S13 g13 => ?_⟩
      have W13 := W12.trans S13
      refine ⟨le1k, fun c13 hp14 S14 g14 => ?_⟩
      have W14 := W13.trans S14
      refine ⟨_, rfl, c13, cR, _, _, rfl, rfl, g14, (seqT_same (((((((((((((S2).trans S3).trans S4).trans S5).trans S6).trans S7).trans S8).trans S9).trans S10).trans S11).trans S12).trans S13).trans S14) g1), le1k, fun c14 hp15 S15 g15 => ?_⟩
      have W15 := W14.trans S15
      refine ⟨_, rfl, t, _, rfl, (seqT_same W15 hT1), fun c15 n15 => ?_⟩
      obtain ⟨hp16, e16, S16, g16⟩ : ∃ h, upd hp15 c15 (.tup ([.str wd, .str nm] : List V).reverse) = h ∧ Same hp15 h ∧ SqT K h c15 ([.str wd, .str nm] : List V).reverse := ⟨_, rfl, same_new n15 _, SqT.of upd_same⟩
      rw [e16]
      have W16 := W15.trans S16
      refine ⟨_, rfl, t, _, _, _, rfl, rfl, (seqT_same W16 hT1), rfl, _, rfl, t, _, _, _, rfl, rfl, (seqT_same W16 hT1), rfl, le1k, fun l16 hp17 S17 g17 => ?_⟩
      have W17 := W16.trans S17
      refine ⟨le1k, fun c17 hp18 S18 g18 => ?_⟩
      have W18 := W17.trans S18
      refine ⟨_, rfl, _, rfl, t, _, rfl, (seqT_same W18 hT1), fun c18 hp19 S19 g19 => ?_⟩
      have W19 := W18.trans S19
      refine ⟨c17, c18, _, _, rfl, rfl, (seqT_same (S19) g18), g19, le1k, fun c19 hp20 S20 g20 => ?_⟩
      have W20 := W19.trans S20
      refine ⟨_, rfl, le1k, fun c20 hp21 S21 g21 => ?_⟩
      have W21 := W20.trans S21
      refine ⟨le1k, fun l21 hp22 S22 g22 => ?_⟩
      have W22 := W21.trans S22
      refine ⟨l2, l21, _, _, rfl, rfl, (((((((((((S12).trans S13).trans S14).trans S15).trans S16).trans S17).trans S18).trans S19).trans S20).trans S21).trans S22) _ _ g11, g22, le1k, fun l22 hp23 S23 g23 => ?_⟩
      have W23 := W22.trans S23
      have pV := p1.same W23
      refine ⟨_, rfl, _, rfl, d, L, ns, n + 1, _, rfl, pV, by omega, .inl ⟨l22, _, rfl, SqL.of g23, by simp, le1k, fun x HW hx kW pW => ?_⟩⟩
      have kF := (k1.trans (Same.toKeep W23)).trans kW
      have kdV := pV.isDk
      have two : ∀ i : Nat, i = i := fun _ => rfl
      have fin : ∀ D' : PyData, Dp K HW x D' → shortD D' = true → widD D' = true → D'.depth ≤ k' + 4 → Q x HW := fun D' e1 e2 ew e3 => q x D' HW e1 e2 ew e3 kF (pW.mono (by omega))
      simp only [List.cons_append, List.nil_append, List.mem_cons, List.not_mem_nil, or_false] at hx
      rcases hx with rfl | rfl | rfl | rfl | rfl | rfl | rfl | rfl | rfl | rfl | rfl | rfl | rfl | rfl
      · refine fin (.list [.str wd, .str nm]) (.lst (seqL_keep kdV kW (SqL.of ((((((((((((((((((((((S3).trans S4).trans S5).trans S6).trans S7).trans S8).trans S9).trans S10).trans S11).trans S12).trans S13).trans S14).trans S15).trans S16).trans S17).trans S18).trans S19).trans S20).trans S21).trans S22).trans S23) _ _ g2))) (.cons (.str _) (.cons (.str nm) .nil))) ?_ ?_ ?_
        · first | exact sa | simp only [shortD, shortAll, okw, oks, okb, okc, sa, Bool.and_self]
        · first | rfl | simp [widD, widAll]
        · first | omega | (simp only [PyData.depth, PyData.depthAll]; omega)
      · refine fin (.tuple [.str wd, .str nm, .str nm]) (.tup (seqT_keep kdV kW (seqT_same (((((((((((((((((((S5).trans S6).trans S7).trans S8).trans S9).trans S10).trans S11).trans S12).trans S13).trans S14).trans S15).trans S16).trans S17).trans S18).trans S19).trans S20).trans S21).trans S22).trans S23) g4)) (.cons (.str _) (.cons (.str nm) (.cons (.str nm) .nil)))) ?_ ?_ ?_
        · first | exact sa | simp only [shortD, shortAll, okw, oks, okb, okc, sa, Bool.and_self]
        · first | rfl | simp [widD, widAll]
        · first | omega | (simp only [PyData.depth, PyData.depthAll]; omega)
      · refine fin (.tuple [.str wd]) (.tup (seqT_keep kdV kW (seqT_same ((((((((((((((((((S6).trans S7).trans S8).trans S9).trans S10).trans S11).trans S12).trans S13).trans S14).trans S15).trans S16).trans S17).trans S18).trans S19).trans S20).trans S21).trans S22).trans S23) g5)) (.cons (.str _) .nil)) ?_ ?_ ?_
        · first | exact sa | simp only [shortD, shortAll, okw, oks, okb, okc, sa, Bool.and_self]
        · first | rfl | simp [widD, widAll]
        · first | omega | (simp only [PyData.depth, PyData.depthAll]; omega)
      · refine fin (.tuple [.str (wd ++ Str.ofString "s"), .str nm]) (.tup (seqT_keep kdV kW (seqT_same ((((((((((((((((S8).trans S9).trans S10).trans S11).trans S12).trans S13).trans S14).trans S15).trans S16).trans S17).trans S18).trans S19).trans S20).trans S21).trans S22).trans S23) g7)) (.cons (.str _) (.cons (.str nm) .nil))) ?_ ?_ ?_
        · first | exact sa | simp only [shortD, shortAll, okw, oks, okb, okc, sa, Bool.and_self]
        · first | rfl | simp [widD, widAll]
        · first | omega | (simp only [PyData.depth, PyData.depthAll]; omega)
      · refine fin (.tuple [.int 1, .str nm]) (.tup (seqT_keep kdV kW (seqT_same ((((((((((((((S10).trans S11).trans S12).trans S13).trans S14).trans S15).trans S16).trans S17).trans S18).trans S19).trans S20).trans S21).trans S22).trans S23) g9)) (.cons (.int _) (.cons (.str nm) .nil))) ?_ ?_ ?_
        · first | exact sa | simp only [shortD, shortAll, okw, oks, okb, okc, sa, Bool.and_self]
        · first | rfl | simp [widD, widAll]
        · first | omega | (simp only [PyData.depth, PyData.depthAll]; omega)
      · refine fin (.str nm) (.str nm) ?_ ?_ ?_
        · first | exact sa | simp only [shortD, shortAll, okw, oks, okb, okc, sa, Bool.and_self]
        · first | rfl | simp [widD, widAll]
        · first | omega | (simp only [PyData.depth, PyData.depthAll]; omega)
      · refine fin (.none) .non ?_ ?_ ?_
        · first | exact sa | simp only [shortD, shortAll, okw, oks, okb, okc, sa, Bool.and_self]
        · first | rfl | simp [widD, widAll]
        · first | omega | (simp only [PyData.depth, PyData.depthAll]; omega)
      · refine fin (.bool true) (.bl true) ?_ ?_ ?_
        · first | exact sa | simp only [shortD, shortAll, okw, oks, okb, okc, sa, Bool.and_self]
        · first | rfl | simp [widD, widAll]
        · first | omega | (simp only [PyData.depth, PyData.depthAll]; omega)
      · refine fin (.tuple []) (.tup (seqT_keep kdV kW (seqT_same (((((((((((((S11).trans S12).trans S13).trans S14).trans S15).trans S16).trans S17).trans S18).trans S19).trans S20).trans S21).trans S22).trans S23) g10)) .nil) ?_ ?_ ?_
        · first | exact sa | simp only [shortD, shortAll, okw, oks, okb, okc, sa, Bool.and_self]
        · first | rfl | simp [widD, widAll]
        · first | omega | (simp only [PyData.depth, PyData.depthAll]; omega)
      · refine fin (.tuple [.str (Str.ofString "both"), .str nm]) (.tup (seqT_keep kdV kW (seqT_same ((((((((((S14).trans S15).trans S16).trans S17).trans S18).trans S19).trans S20).trans S21).trans S22).trans S23) g13)) (.cons (.str _) (.cons (.str nm) .nil))) ?_ ?_ ?_
        · first | exact sa | simp only [shortD, shortAll, okw, oks, okb, okc, sa, Bool.and_self]
        · first | rfl | simp [widD, widAll]
        · first | omega | (simp only [PyData.depth, PyData.depthAll]; omega)
      · refine fin (.tuple [.str (Str.ofString "counter"), .str nm]) (.tup (seqT_keep kdV kW (seqT_same ((((((((S16).trans S17).trans S18).trans S19).trans S20).trans S21).trans S22).trans S23) g15)) (.cons (.str _) (.cons (.str nm) .nil))) ?_ ?_ ?_
        · first | exact sa | simp only [shortD, shortAll, okw, oks, okb, okc, sa, Bool.and_self]
        · first | rfl | simp [widD, widAll]
        · first | omega | (simp only [PyData.depth, PyData.depthAll]; omega)
      · refine fin (.tuple [.str nm, .str wd]) (.tup (seqT_keep kdV kW (seqT_same (((((((S17).trans S18).trans S19).trans S20).trans S21).trans S22).trans S23) g16)) (.cons (.str _) (.cons (.str _) .nil))) ?_ ?_ ?_
        · first | exact sa | simp only [shortD, shortAll, okw, oks, okb, okc, sa, Bool.and_self]
        · first | rfl | simp [widD, widAll]
        · first | omega | (simp only [PyData.depth, PyData.depthAll]; omega)
      · refine fin (.tuple [.str wd, .list [.str nm]]) (.tup (seqT_keep kdV kW (seqT_same (((S21).trans S22).trans S23) g20)) (.cons (.str _) (.cons (.lst (seqL_keep kdV kW (SqL.of (((((((S18).trans S19).trans S20).trans S21).trans S22).trans S23) _ _ g17))) (.cons (.str nm) .nil)) .nil))) ?_ ?_ ?_
        · first | exact sa | simp only [shortD, shortAll, okw, oks, okb, okc, sa, Bool.and_self]
        · first | rfl | simp [widD, widAll]
        · first | omega | (simp only [PyData.depth, PyData.depthAll]; omega)
      · refine fin (.tuple [.tuple [.str wd, .str nm]]) (.tup (seqT_keep kdV kW (seqT_same ((S22).trans S23) g21)) (.cons (.tup (seqT_keep kd kF hT) (.cons (.str _) (.cons (.str nm) .nil))) .nil)) ?_ ?_ ?_
        · first | exact sa | simp only [shortD, shortAll, okw, oks, okb, okc, sa, Bool.and_self]
        · first | rfl | simp [widD, widAll]
        · first | omega | (simp only [PyData.depth, PyData.depthAll]; omega)
  · cases hv with | @tup t xs _ hT hA => cases hA with | @cons x0 xs1 _ _ h0 hA => cases hA with | @cons x1 xs2 _ _ h1 hA => cases hA with | @cons x2 xs3 _ _ h2 hN =>
    cases hN
    cases h0
    refine ⟨_, rfl, _, _, rfl, .inr ⟨_, hT, rfl⟩, rfl, _, rfl, ?_⟩
    refine iteT ⟨_, rfl, d, L, ns, n, 4, rfl, p, by omega, by decide, by decide, fun r H1 r0 r1 k1 p1 => ⟨_, _, rfl, rfl, _, rfl, ?_⟩⟩
    refine ite2 (fun c1 => ?_) (fun c1 => ?_)
    · refine ⟨_, rfl, d, L, ns, n + 1, 2, rfl, p1, by omega, by decide, by decide, fun r2 H2 r20 r21 k2 p2 => ⟨_, _, rfl, rfl, ?_⟩⟩
      have kk := k1.trans k2
      have hr2 : r2 = 0 ∨ r2 = 1 := by omega
      rcases hr2 with rfl | rfl
      · refine ⟨_, rfl, _, rfl, _, rfl, t, _, rfl, seqT_keep kd kk hT, fun c1 H3 S3 g3 => ?_⟩
        refine ⟨_, rfl, _, rfl, _, rfl, t, _, _, x1, rfl, rfl, seqT_same S3 (seqT_keep kd kk hT), rfl, d, L, ns, n + 2, x1, a, j, rfl, by omega, by omega, p2.same S3, by omega, dp_same S3 _ _ (dp_keep kd kk _ _ h1), ha, fun v' D' H4 hd' hs' hw' hdp' k4 p4 => ⟨by show 1 ≤ 1000; decide, fun c2 H5 S5 g5 => ?_⟩⟩
        refine ⟨c1, c2, _, _, rfl, rfl, seqT_same S5 (seqT_keep (p2.same S3).isDk k4 g3), g5, le1k, fun c3 H6 S6 g6 => ?_⟩
        have kx := ((kk.trans (Same.toKeep S3)).trans k4).trans (Same.toKeep (S5.trans S6))
        refine ⟨_, rfl, _, rfl, _, _, rfl, rfl, _, rfl, t, _, rfl, seqT_keep kd kx hT, fun c4 H7 S7 g7 => ?_⟩
        refine ⟨c3, c4, _, _, rfl, rfl, seqT_same S7 g6, g7, le1k, fun c5 H8 S8 g8 => ?_⟩
        refine q (.ref c5) (.tuple [.str wd, D', b]) H8 (.tup (show SqT K H8 c5 [.str wd, v', x2] from g8) (.cons (.str _) (.cons (dp_same (S5.trans (S6.trans (S7.trans S8))) _ _ hd') (.cons (dp_keep kd (kx.trans (Same.toKeep (S7.trans S8))) _ _ h2) .nil)))) ?_ ?_ ?_ (kx.trans (Same.toKeep (S7.trans S8))) ((p4.same (S5.trans (S6.trans (S7.trans S8)))).mono (by omega))
        · simp only [shortD, shortAll, okStr_half wd hw, hs', short_form hb, Bool.and_self]
        · simp [widD, widAll, hw', wid_form hb]
        · have hdb := depth_form hb
          simp only [PyData.depth, PyData.depthAll]
          omega
      · refine ⟨_, rfl, _, rfl, _, rfl, t, _, rfl, seqT_keep kd kk hT, fun c1 H3 S3 g3 => ?_⟩
        refine ⟨_, rfl, _, rfl, _, rfl, t, _, _, x2, rfl, rfl, seqT_same S3 (seqT_keep kd kk hT), rfl, d, L, ns, n + 2, x2, b, j, rfl, by omega, by omega, p2.same S3, by omega, dp_same S3 _ _ (dp_keep kd kk _ _ h2), hb, fun v' D' H4 hd' hs' hw' hdp' k4 p4 => ⟨by show 1 ≤ 1000; decide, fun c2 H5 S5 g5 => ?_⟩⟩
        refine ⟨c1, c2, _, _, rfl, rfl, seqT_same S5 (seqT_keep (p2.same S3).isDk k4 g3), g5, le1k, fun c3 H6 S6 g6 => ?_⟩
        have kx := ((kk.trans (Same.toKeep S3)).trans k4).trans (Same.toKeep (S5.trans S6))
        refine ⟨_, rfl, _, rfl, _, _, rfl, rfl, _, rfl, t, _, rfl, seqT_keep kd kx hT, fun c4 H7 S7 g7 => ?_⟩
        refine ⟨c3, c4, _, _, rfl, rfl, seqT_same S7 g6, g7, le1k, fun c5 H8 S8 g8 => ?_⟩
        refine q (.ref c5) (.tuple [.str wd, a, D']) H8 (.tup (show SqT K H8 c5 [.str wd, x1, v'] from g8) (.cons (.str _) (.cons (dp_keep kd (kx.trans (Same.toKeep (S7.trans S8))) _ _ h1) (.cons (dp_same (S5.trans (S6.trans (S7.trans S8))) _ _ hd') .nil)))) ?_ ?_ ?_ (kx.trans (Same.toKeep (S7.trans S8))) ((p4.same (S5.trans (S6.trans (S7.trans S8)))).mono (by omega))
        · simp only [shortD, shortAll, okStr_half wd hw, hs', short_form ha, Bool.and_self]
        · simp [widD, widAll, hw', wid_form ha]
        · have hda := depth_form ha
          simp only [PyData.depth, PyData.depthAll]
          omega
    · refine ⟨_, rfl, _, _, rfl, .inr ⟨_, seqT_keep kd k1 hT, rfl⟩, rfl, _, rfl, ?_⟩
      have okw := okStr_half wd hw
      have oks := okStr_s wd (List.mem_append_right _ hw)
      have okb : okStr (Str.ofString "both") = true := by decide +kernel
      have okc : okStr (Str.ofString "counter") = true := by decide +kernel
      have sa := short_form ha
      have sb := short_form hb
      have wa := wid_form ha
      have wb := wid_form hb
      have hda := depth_form ha
      have hdb := depth_form hb
      have hwl := word_len wd (List.mem_append_right _ hw)
      have hT1 := seqT_keep kd k1 hT
      have W0 : Same H1 H1 := Same.refl H1
      refine ⟨_, rfl, _, rfl, t, _, rfl, (seqT_same W0 hT1), fun cR hp1 S1 g1 => ?_⟩
      have W1 := W0.trans S1
      refine ⟨_, rfl, t, _, rfl, .inr (seqT_same W1 hT1), fun l1 hp2 S2 g2 => ?_⟩
      have W2 := W1.trans S2
      refine ⟨_, rfl, _, rfl, _, rfl, t, _, _, _, rfl, rfl, (seqT_same W2 hT1), rfl, le1k, fun c2 hp3 S3 g3 => ?_⟩
      have W3 := W2.trans S3
      refine ⟨t, c2, _, _, rfl, rfl, (seqT_same W3 hT1), g3, le1k, fun c3 hp4 S4 g4 => ?_⟩
      have W4 := W3.trans S4
      refine ⟨_, rfl, _, rfl, _, rfl, t, _, rfl, (seqT_same W4 hT1), fun c4 hp5 S5 g5 => ?_⟩
      have W5 := W4.trans S5
      refine ⟨_, rfl, t, _, _, _, rfl, rfl, (seqT_same W5 hT1), rfl, _, _, rfl, rfl, add_fit (by omega) (by decide +kernel), le1k, fun c5 hp6 S6 g6 => ?_⟩
      have W6 := W5.trans S6
      refine ⟨_, rfl, c5, cR, _, _, rfl, rfl, g6, (seqT_same (((((S2).trans S3).trans S4).trans S5).trans S6) g1), le1k, fun c6 hp7 S7 g7 => ?_⟩
      have W7 := W6.trans S7
      refine ⟨le1k, fun c7 hp8 S8 g8 => ?_⟩
      have W8 := W7.trans S8
      refine ⟨_, rfl, c7, cR, _, _, rfl, rfl, g8, (seqT_same (((((((S2).trans S3).trans S4).trans S5).trans S6).trans S7).trans S8) g1), le1k, fun c8 hp9 S9 g9 => ?_⟩
      have W9 := W8.trans S9
      refine ⟨_, rfl, t, _, _, _, rfl, rfl, (seqT_same W9 hT1), rfl, le1k, fun c9 hp10 S10 g10 => ?_⟩
      have W10 := W9.trans S10
      refine ⟨le1k, fun l2 hp11 S11 g11 => ?_⟩
      have W11 := W10.trans S11
      refine ⟨_, rfl, le1k, fun c11 hp12 S12 g12 => ?_⟩
      have W12 := W11.trans S12
      refine ⟨_, rfl, c11, cR, _, _, rfl, rfl, g12, (seqT_same (((((((((((S2).trans S3).trans S4).trans S5).trans S6).trans S7).trans S8).trans S9).trans S10).trans S11).trans S12) g1), le1k, fun c12 hp13 S13 g13 => ?_⟩
      have W13 := W12.trans S13
      refine ⟨le1k, fun c13 hp14 S14 g14 => ?_⟩
      have W14 := W13.trans S14
      refine ⟨_, rfl, c13, cR, _, _, rfl, rfl, g14, (seqT_same (((((((((((((S2).trans S3).trans S4).trans S5).trans S6).trans S7).trans S8).trans S9).trans S10).trans S11).trans S12).trans S13).trans S14) g1), le1k, fun c14 hp15 S15 g15 => ?_⟩
      have W15 := W14.trans S15
      refine ⟨_, rfl, t, _, rfl, (seqT_same W15 hT1), fun c15 n15 => ?_⟩
      obtain ⟨hp16, e16, S16, g16⟩ : ∃ h, upd hp15 c15 (.tup ([.str wd, x1, x2] : List V).reverse) = h ∧ Same hp15 h ∧ SqT K h c15 ([.str wd, x1, x2] : List V).reverse := ⟨_, rfl, same_new n15 _, SqT.of upd_same⟩
      rw [e16]
      have W16 := W15.trans S16
      refine ⟨_, rfl, t, _, _, _, rfl, rfl, (seqT_same W16 hT1), rfl, _, rfl, t, _, _, _, rfl, rfl, (seqT_same W16 hT1), rfl, le1k, fun l16 hp17 S17 g17 => ?_⟩
      have W17 := W16.trans S17
      refine ⟨le1k, fun c17 hp18 S18 g18 => ?_⟩
      have W18 := W17.trans S18
      refine ⟨_, rfl, _, rfl, t, _, rfl, (seqT_same W18 hT1), fun c18 hp19 S19 g19 => ?_⟩
      have W19 := W18.trans S19
      refine ⟨c17, c18, _, _, rfl, rfl, (seqT_same (S19) g18), g19, le1k, fun c19 hp20 S20 g20 => ?_⟩
      have W20 := W19.trans S20
      refine ⟨_, rfl, le1k, fun c20 hp21 S21 g21 => ?_⟩
      have W21 := W20.trans S21
      refine ⟨le1k, fun l21 hp22 S22 g22 => ?_⟩
      have W22 := W21.trans S22
      refine ⟨l2, l21, _, _, rfl, rfl, (((((((((((S12).trans S13).trans S14).trans S15).trans S16).trans S17).trans S18).trans S19).trans S20).trans S21).trans S22) _ _ g11, g22, le1k, fun l22 hp23 S23 g23 => ?_⟩
      have W23 := W22.trans S23
      have pV := p1.same W23
      refine ⟨_, rfl, _, rfl, d, L, ns, n + 1, _, rfl, pV, by omega, .inl ⟨l22, _, rfl, SqL.of g23, by simp, le1k, fun x HW hx kW pW => ?_⟩⟩
      have kF := (k1.trans (Same.toKeep W23)).trans kW
      have kdV := pV.isDk
      have two : ∀ i : Nat, i = i := fun _ => rfl
      have fin : ∀ D' : PyData, Dp K HW x D' → shortD D' = true → widD D' = true → D'.depth ≤ j + 1 + 4 → Q x HW := fun D' e1 e2 ew e3 => q x D' HW e1 e2 ew e3 kF (pW.mono (by omega))
      simp only [List.cons_append, List.nil_append, List.mem_cons, List.not_mem_nil, or_false] at hx
      rcases hx with rfl | rfl | rfl | rfl | rfl | rfl | rfl | rfl | rfl | rfl | rfl | rfl | rfl | rfl
      · refine fin (.list [.str wd, a, b]) (.lst (seqL_keep kdV kW (SqL.of ((((((((((((((((((((((S3).trans S4).trans S5).trans S6).trans S7).trans S8).trans S9).trans S10).trans S11).trans S12).trans S13).trans S14).trans S15).trans S16).trans S17).trans S18).trans S19).trans S20).trans S21).trans S22).trans S23) _ _ g2))) (.cons (.str _) (.cons (dp_keep kd kF _ _ h1) (.cons (dp_keep kd kF _ _ h2) .nil)))) ?_ ?_ ?_
        · first | exact sa | simp only [shortD, shortAll, okw, oks, okb, okc, sa, sb, Bool.and_self]
        · first | rfl | exact wa | exact wb | simp [widD, widAll, wa, wb]
        · first | omega | (simp only [PyData.depth, PyData.depthAll]; omega)
      · refine fin (.tuple [.str wd, a, b, b]) (.tup (seqT_keep kdV kW (seqT_same (((((((((((((((((((S5).trans S6).trans S7).trans S8).trans S9).trans S10).trans S11).trans S12).trans S13).trans S14).trans S15).trans S16).trans S17).trans S18).trans S19).trans S20).trans S21).trans S22).trans S23) g4)) (.cons (.str _) (.cons (dp_keep kd kF _ _ h1) (.cons (dp_keep kd kF _ _ h2) (.cons (dp_keep kd kF _ _ h2) .nil))))) ?_ ?_ ?_
        · first | exact sa | simp only [shortD, shortAll, okw, oks, okb, okc, sa, sb, Bool.and_self]
        · first | rfl | exact wa | exact wb | simp [widD, widAll, wa, wb]
        · first | omega | (simp only [PyData.depth, PyData.depthAll]; omega)
      · refine fin (.tuple [.str wd, a]) (.tup (seqT_keep kdV kW (seqT_same ((((((((((((((((((S6).trans S7).trans S8).trans S9).trans S10).trans S11).trans S12).trans S13).trans S14).trans S15).trans S16).trans S17).trans S18).trans S19).trans S20).trans S21).trans S22).trans S23) g5)) (.cons (.str _) (.cons (dp_keep kd kF _ _ h1) .nil))) ?_ ?_ ?_
        · first | exact sa | simp only [shortD, shortAll, okw, oks, okb, okc, sa, sb, Bool.and_self]
        · first | rfl | exact wa | exact wb | simp [widD, widAll, wa, wb]
        · first | omega | (simp only [PyData.depth, PyData.depthAll]; omega)
      · refine fin (.tuple [.str (wd ++ Str.ofString "s"), a, b]) (.tup (seqT_keep kdV kW (seqT_same ((((((((((((((((S8).trans S9).trans S10).trans S11).trans S12).trans S13).trans S14).trans S15).trans S16).trans S17).trans S18).trans S19).trans S20).trans S21).trans S22).trans S23) g7)) (.cons (.str _) (.cons (dp_keep kd kF _ _ h1) (.cons (dp_keep kd kF _ _ h2) .nil)))) ?_ ?_ ?_
        · first | exact sa | simp only [shortD, shortAll, okw, oks, okb, okc, sa, sb, Bool.and_self]
        · first | rfl | exact wa | exact wb | simp [widD, widAll, wa, wb]
        · first | omega | (simp only [PyData.depth, PyData.depthAll]; omega)
      · refine fin (.tuple [.int 1, a, b]) (.tup (seqT_keep kdV kW (seqT_same ((((((((((((((S10).trans S11).trans S12).trans S13).trans S14).trans S15).trans S16).trans S17).trans S18).trans S19).trans S20).trans S21).trans S22).trans S23) g9)) (.cons (.int _) (.cons (dp_keep kd kF _ _ h1) (.cons (dp_keep kd kF _ _ h2) .nil)))) ?_ ?_ ?_
        · first | exact sa | simp only [shortD, shortAll, okw, oks, okb, okc, sa, sb, Bool.and_self]
        · first | rfl | exact wa | exact wb | simp [widD, widAll, wa, wb]
        · first | omega | (simp only [PyData.depth, PyData.depthAll]; omega)
      · refine fin (a) (dp_keep kd kF _ _ h1) ?_ ?_ ?_
        · first | exact sa | simp only [shortD, shortAll, okw, oks, okb, okc, sa, sb, Bool.and_self]
        · first | rfl | exact wa | exact wb | simp [widD, widAll, wa, wb]
        · first | omega | (simp only [PyData.depth, PyData.depthAll]; omega)
      · refine fin (.none) .non ?_ ?_ ?_
        · first | exact sa | simp only [shortD, shortAll, okw, oks, okb, okc, sa, sb, Bool.and_self]
        · first | rfl | exact wa | exact wb | simp [widD, widAll, wa, wb]
        · first | omega | (simp only [PyData.depth, PyData.depthAll]; omega)
      · refine fin (.bool true) (.bl true) ?_ ?_ ?_
        · first | exact sa | simp only [shortD, shortAll, okw, oks, okb, okc, sa, sb, Bool.and_self]
        · first | rfl | exact wa | exact wb | simp [widD, widAll, wa, wb]
        · first | omega | (simp only [PyData.depth, PyData.depthAll]; omega)
      · refine fin (.tuple []) (.tup (seqT_keep kdV kW (seqT_same (((((((((((((S11).trans S12).trans S13).trans S14).trans S15).trans S16).trans S17).trans S18).trans S19).trans S20).trans S21).trans S22).trans S23) g10)) .nil) ?_ ?_ ?_
        · first | exact sa | simp only [shortD, shortAll, okw, oks, okb, okc, sa, sb, Bool.and_self]
        · first | rfl | exact wa | exact wb | simp [widD, widAll, wa, wb]
        · first | omega | (simp only [PyData.depth, PyData.depthAll]; omega)
      · refine fin (.tuple [.str (Str.ofString "both"), a, b]) (.tup (seqT_keep kdV kW (seqT_same ((((((((((S14).trans S15).trans S16).trans S17).trans S18).trans S19).trans S20).trans S21).trans S22).trans S23) g13)) (.cons (.str _) (.cons (dp_keep kd kF _ _ h1) (.cons (dp_keep kd kF _ _ h2) .nil)))) ?_ ?_ ?_
        · first | exact sa | simp only [shortD, shortAll, okw, oks, okb, okc, sa, sb, Bool.and_self]
        · first | rfl | exact wa | exact wb | simp [widD, widAll, wa, wb]
        · first | omega | (simp only [PyData.depth, PyData.depthAll]; omega)
      · refine fin (.tuple [.str (Str.ofString "counter"), a, b]) (.tup (seqT_keep kdV kW (seqT_same ((((((((S16).trans S17).trans S18).trans S19).trans S20).trans S21).trans S22).trans S23) g15)) (.cons (.str _) (.cons (dp_keep kd kF _ _ h1) (.cons (dp_keep kd kF _ _ h2) .nil)))) ?_ ?_ ?_
        · first | exact sa | simp only [shortD, shortAll, okw, oks, okb, okc, sa, sb, Bool.and_self]
        · first | rfl | exact wa | exact wb | simp [widD, widAll, wa, wb]
        · first | omega | (simp only [PyData.depth, PyData.depthAll]; omega)
      · refine fin (.tuple [b, a, .str wd]) (.tup (seqT_keep kdV kW (seqT_same (((((((S17).trans S18).trans S19).trans S20).trans S21).trans S22).trans S23) g16)) (.cons (dp_keep kd kF _ _ h2) (.cons (dp_keep kd kF _ _ h1) (.cons (.str _) .nil)))) ?_ ?_ ?_
        · first | exact sa | simp only [shortD, shortAll, okw, oks, okb, okc, sa, sb, Bool.and_self]
        · first | rfl | exact wa | exact wb | simp [widD, widAll, wa, wb]
        · first | omega | (simp only [PyData.depth, PyData.depthAll]; omega)
      · refine fin (.tuple [.str wd, .list [a], b]) (.tup (seqT_keep kdV kW (seqT_same (((S21).trans S22).trans S23) g20)) (.cons (.str _) (.cons (.lst (seqL_keep kdV kW (SqL.of (((((((S18).trans S19).trans S20).trans S21).trans S22).trans S23) _ _ g17))) (.cons (dp_keep kd kF _ _ h1) .nil)) (.cons (dp_keep kd kF _ _ h2) .nil)))) ?_ ?_ ?_
        · first | exact sa | simp only [shortD, shortAll, okw, oks, okb, okc, sa, sb, Bool.and_self]
        · first | rfl | exact wa | exact wb | simp [widD, widAll, wa, wb]
        · first | omega | (simp only [PyData.depth, PyData.depthAll]; omega)
      · refine fin (.tuple [.tuple [.str wd, a, b]]) (.tup (seqT_keep kdV kW (seqT_same ((S22).trans S23) g21)) (.cons (.tup (seqT_keep kd kF hT) (.cons (.str _) (.cons (dp_keep kd kF _ _ h1) (.cons (dp_keep kd kF _ _ h2) .nil)))) .nil)) ?_ ?_ ?_
        · first | exact sa | simp only [shortD, shortAll, okw, oks, okb, okc, sa, sb, Bool.and_self]
        · first | rfl | exact wa | exact wb | simp [widD, widAll, wa, wb]
        · first | omega | (simp only [PyData.depth, PyData.depthAll]; omega)
end
end My

set_option Elab.async false
set_option linter.all false
set_option maxRecDepth 100000
/-! closures as values: a lambda without parameters that is handed on to defs, and called there -/
namespace Clo
open PySem PySem.Spec PyProof.Rows L2 LamX
/-- the object at c is just o -/
def Pin (c : Addr) (o : Obj) : HO := .ext fun h => h.get? c = some o
theorem pin_ok {P : Program} {w : World} {H : Hp} {h : Heap} {c : Addr} {o : Obj} (e : h.get? c = some o) : ObjOk P w H h c (Pin c o) :=
  ⟨e, ⟨o, e⟩, fun h1 h2 q st => st _ q⟩
theorem pin_get {P : Program} {w : World} {H : Hp} {h : Heap} {c : Addr} {o : Obj} (hok : HOk P w H h) (e : H c = some (Pin c o)) : h.get? c = some o := (hok c _ e).1
/-- the cells at C known to the object; .. forgotten -/
def plus (C : Addr → Option Obj) (H : Hp) : Hp := fun b => match C b with | some o => some (Pin b o) | none => H b
def minus (C : Addr → Option Obj) (H : Hp) : Hp := fun b => match C b with | some _ => none | none => H b
section
variable {C : Addr → Option Obj} {H H' : Hp} {b : Addr} {o : Obj} {u : HO}
theorem plus_in (e : C b = some o) : plus C H b = some (Pin b o) := by unfold plus; rw [e]
theorem plus_out (e : C b = none) : plus C H b = H b := by unfold plus; rw [e]
theorem minus_in (e : C b = some o) : minus C H b = none := by unfold minus; rw [e]
theorem minus_out (e : C b = none) : minus C H b = H b := by unfold minus; rw [e]
theorem out_of (e : H b = some u) (f : ∀ c o, C c = some o → H c = none) : C b = none := by
  cases q : C b with
  | none => rfl
  | some o =>
    rw [f b o q] at e
    cases e
theorem pin_own {c x : Addr} : Pin c o ≠ .own x := fun z => by
  have z' : HO.ext _ = HO.own x := z
  cases z'
theorem pin_tup {c : Addr} {xs : List V} : Pin c o ≠ .tup xs := fun z => by
  have z' : HO.ext _ = HO.tup xs := z
  cases z'
theorem pin_frz {c : Addr} {p : Obj} : Pin c o ≠ .frz p u := fun z => by
  have z' : HO.ext _ = HO.frz p u := z
  cases z'
theorem pin_tbl {c : Addr} {ps : Array Value} : Pin c o ≠ .tbl ps := fun z => by
  have z' : HO.ext _ = HO.tbl ps := z
  cases z'
/-- Hm is H without the cells -/
structure Less (C : Addr → Option Obj) (Hm H : Hp) (h : Heap) : Prop where
  inn : ∀ c o, C c = some o → Hm c = none ∧ H c = some (Pin c o) ∧ h.get? c = some o
  out : ∀ b, C b = none → Hm b = H b
theorem less_plus {h : Heap} (f : ∀ c o, C c = some o → H c = none ∧ h.get? c = some o) : Less C H (plus C H) h :=
  ⟨fun c o e => ⟨(f c o e).1, plus_in e, (f c o e).2⟩, fun b e => (plus_out e).symm⟩
theorem less_minus {P : Program} {w : World} {h : Heap} (hok : HOk P w H h) (f : ∀ c o, C c = some o → H c = some (Pin c o)) : Less C (minus C H) H h :=
  ⟨fun c o e => ⟨minus_in e, f c o e, (hok c _ (f c o e)).1⟩, fun b e => minus_out e⟩
end
section
variable {P : Program} {w : World} {C : Addr → Option Obj} {H Hm H' : Hp} {h h' : Heap} {fs : List Addr}
theorem Less.cells (L : Less C Hm H h) {b : Addr} {u : HO} (e : H b = some u) (n : ∀ o, u ≠ Pin b o) : C b = none := by
  cases q : C b with
  | none => rfl
  | some o =>
    rw [(L.inn b o q).2.1] at e
    exact absurd (Option.some.inj e).symm (n o)
theorem Less.hok (L : Less C Hm H h) (k : HOk P w Hm h) : HOk P w H h := fun b u e => by
  cases q : C b with
  | some o =>
    rw [(L.inn b o q).2.1] at e
    cases e
    exact pin_ok (L.inn b o q).2.2
  | none =>
    rw [← L.out b q] at e
    refine (k b u e).stay (fun _ _ _ z => z) (fun c z => ?_) fun c xs z => ?_
    · cases qc : C c with
      | none => rw [← L.out c qc]; exact z
      | some o => rw [(L.inn c o qc).1] at z; cases z
    · cases qc : C c with
      | none => rw [← L.out c qc]; exact z
      | some o => rw [(L.inn c o qc).1] at z; cases z
theorem Less.hokm (L : Less C Hm H h) (k : HOk P w H h) : HOk P w Hm h := fun b u e => by
  have qb : C b = none := by
    cases q : C b with
    | none => rfl
    | some o => rw [(L.inn b o q).1] at e; cases e
  rw [L.out b qb] at e
  refine (k b u e).stay (fun _ _ _ z => z) (fun c z => ?_) fun c xs z => ?_
  · rw [L.out c (L.cells z fun o => Ne.symm pin_own)]; exact z
  · rw [L.out c (L.cells z fun o => Ne.symm pin_tup)]; exact z
/-- what is kept over Hm is kept over H, the cells told again -/
theorem un_plus (L : Less C Hm H h) (u : Un fs [] Hm H' h h') (nf : ∀ c o, C c = some o → c ∉ fs) : Un fs [] H (plus C H') h h' ∧ (∀ c o, C c = some o → h'.get? c = some o ∧ H' c = none) := by
  have cell : ∀ c o, C c = some o → h'.get? c = some o ∧ H' c = none := fun c o e => by
    have i := L.inn c o e
    exact ⟨u.keep c o i.2.2 i.1 (nf c o e) (by simp), u.free c o i.2.2 i.1 (by simp)⟩
  have nn : ∀ {b}, H b = none → C b = none := fun {b} n => by
    cases q : C b with
    | none => rfl
    | some o => rw [(L.inn b o q).2.1] at n; cases n
  refine ⟨⟨fun b o e n hb hx => ?_, fun b o e n hb hx => ?_, fun b o e n hx => ?_, u.there, fun b xs e => ?_, fun b o v e => ?_, fun b ps e => ?_⟩, cell⟩
  · exact u.keep b o e (by rw [L.out b (nn n)]; exact n) hb hx
  · exact u.slot b o e (by rw [L.out b (nn n)]; exact n) hb hx
  · rw [plus_out (nn n)]
    exact u.free b o e (by rw [L.out b (nn n)]; exact n) hx
  · have q := L.cells e fun o => Ne.symm pin_tup
    rw [plus_out q]
    exact u.tups b xs (by rw [L.out b q]; exact e)
  · have q := L.cells e fun o' => Ne.symm pin_frz
    rw [plus_out q]
    exact u.frzs b o v (by rw [L.out b q]; exact e)
  · have q := L.cells e fun o => Ne.symm pin_tbl
    rw [plus_out q]
    exact u.tbls b ps (by rw [L.out b q]; exact e)
/-- what is kept over H, the cells known behind it too, is kept over Hm -/
theorem un_minus (L : Less C Hm H h) (u : Un fs [] H H' h h') (hok : HOk P w H' h') (st : ∀ c o, C c = some o → H' c = some (Pin c o)) : Un fs [] Hm (minus C H') h h' := by
  have cell : ∀ c o, C c = some o → h'.get? c = some o := fun c o e => (hok c _ (st c o e)).1
  refine ⟨fun b o e n hb hx => ?_, fun b o e n hb hx => ?_, fun b o e n hx => ?_, u.there, fun b xs e => ?_, fun b o v e => ?_, fun b ps e => ?_⟩
  · cases q : C b with
    | some o' =>
      have := (L.inn b o' q).2.2
      rw [e] at this
      cases this
      exact cell b o q
    | none => exact u.keep b o e (by rw [← L.out b q]; exact n) hb hx
  · cases q : C b with
    | some o' =>
      have := (L.inn b o' q).2.2
      rw [e] at this
      cases this
      exact ⟨o.slots, cell b o q⟩
    | none => exact u.slot b o e (by rw [← L.out b q]; exact n) hb hx
  · cases q : C b with
    | some o' => exact minus_in q
    | none =>
      rw [minus_out q]
      exact u.free b o e (by rw [← L.out b q]; exact n) hx
  · have q : C b = none := by
      cases q : C b with
      | none => rfl
      | some o => rw [(L.inn b o q).1] at e; cases e
    rw [minus_out q]
    exact u.tups b xs (by rw [← L.out b q]; exact e)
  · have q : C b = none := by
      cases q : C b with
      | none => rfl
      | some o => rw [(L.inn b o q).1] at e; cases e
    rw [minus_out q]
    exact u.frzs b o v (by rw [← L.out b q]; exact e)
  · have q : C b = none := by
      cases q : C b with
      | none => rfl
      | some o => rw [(L.inn b o q).1] at e; cases e
    rw [minus_out q]
    exact u.tbls b ps (by rw [← L.out b q]; exact e)
end
section
variable {P : Program} {w : World} {C : Addr → Option Obj} {H Hm : Hp} {s s' : Shared} {outer : List Env}
theorem ce_plus {Q : VK} {u : Value} (L : Less C Hm H s.heap) (nf : ∀ c o, C c = some o → c ∉ frs outer) (h : CE outer P w Hm s (fun v H' => (∀ c o, C c = some o → H' c = none) → Q v (plus C H')) u s') : CE outer P w H s Q u s' := by
  obtain ⟨v, H', os, bare, un, hok, r, q⟩ := h
  obtain ⟨un', cell⟩ := un_plus L un nf
  exact ⟨v, plus C H', os, bare, un', (less_plus fun c o e => ⟨(cell c o e).2, (cell c o e).1⟩).hok hok, r, q fun c o e => (cell c o e).2⟩
theorem ce_minus {Q : VK} {u : Value} (L : Less C Hm H s.heap) (h : CE outer P w H s (fun v H' => (∀ c o, C c = some o → H' c = some (Pin c o)) ∧ Q v (minus C H')) u s') : CE outer P w Hm s Q u s' := by
  obtain ⟨v, H', os, bare, un, hok, r, st, q⟩ := h
  exact ⟨v, minus C H', os, bare, un_minus L un hok st, (less_minus hok st).hokm hok, r, q⟩
theorem cx_plus {E : XK} {u : Value} (L : Less C Hm H s.heap) (nf : ∀ c o, C c = some o → c ∉ frs outer) (h : L2.CX P w outer Hm s (fun cls d H' => (∀ c o, C c = some o → H' c = none) → E cls d (plus C H')) u s') : L2.CX P w outer H s E u s' := by
  obtain ⟨a, B, H', cls, d, eu, fl, hok, ub, na, os, ag, q⟩ := h
  have nn : ∀ {b}, H b = none → C b = none := fun {b} n => by
    cases q : C b with
    | none => rfl
    | some o => rw [(L.inn b o q).2.1] at n; cases n
  have cell : ∀ c o, C c = some o → B.get? c = some o ∧ H' c = none := fun c o e => by
    have i := L.inn c o e
    exact ⟨ub.keep c o i.2.2 i.1 (nf c o e), ub.free c o i.2.2 i.1⟩
  refine ⟨a, B, plus C H', cls, d, eu, fl, (less_plus fun c o e => ⟨(cell c o e).2, (cell c o e).1⟩).hok hok, ⟨fun b o e n hb => ?_, ub.slot, fun b o e n => ?_, ub.there, fun b xs e => ?_, fun b o v e => ?_, fun b ps e => ?_⟩, ?_, os, ag, q fun c o e => (cell c o e).2⟩
  · exact ub.keep b o e (by rw [L.out b (nn n)]; exact n) hb
  · rw [plus_out (nn n)]
    exact ub.free b o e (by rw [L.out b (nn n)]; exact n)
  · have q := L.cells e fun o => Ne.symm pin_tup
    rw [plus_out q]
    exact ub.tups b xs (by rw [L.out b q]; exact e)
  · have q := L.cells e fun o' => Ne.symm pin_frz
    rw [plus_out q]
    exact ub.frzs b o v (by rw [L.out b q]; exact e)
  · have q := L.cells e fun o => Ne.symm pin_tbl
    rw [plus_out q]
    exact ub.tbls b ps (by rw [L.out b q]; exact e)
  · have qa : C a = none := by
      cases q : C a with
      | none => rfl
      | some o =>
        have h1 := (cell a o q).1
        rw [fl.2.1] at h1
        cases h1
    rw [plus_out qa]
    exact na
end

/-! ### the cells of a frame -/
/-- C: the objects of the cells that env knows, with the values of the names -/
structure CellsAt (env : Env) (N : List Str) (σ : L2.St) (C : Addr → Option Obj) : Prop where
  all : ∀ x c, env.cells.lookup x = some c → ∃ o v, C c = some o ∧ o.data = .cell v
  val : ∀ (i : Nat) (x : Str) (v : V) (c : Addr), N[i]? = some x → σ[i]? = some (some v) → (env.kindOf x = some .cell ∨ env.kindOf x = some .free) → env.cells.lookup x = some c → ∃ o u, C c = some o ∧ o.data = .cell (some u) ∧ RelV v u
section
variable {X : Cx} {pins : List (Addr × Obj)} {σ : L2.St} {H : Hp} {s : Shared}
open Classical in
theorem cells_of (I : Inv X pins σ H s) : ∃ C : Addr → Option Obj, CellsAt X.env X.N σ C ∧ (∀ c o, C c = some o → s.heap.get? c = some o ∧ H c = none ∧ ∃ x, X.env.cells.lookup x = some c) := by
  refine ⟨fun c => if ∃ x, X.env.cells.lookup x = some c then s.heap.get? c else none, ⟨fun x c e => ?_, fun i x v c hn hs hk e => ?_⟩, fun c o e => ?_⟩
  · obtain ⟨v, o, ho, hd⟩ := I.cell x c e
    exact ⟨o, v, by rw [if_pos ⟨x, e⟩]; exact ho, hd⟩
  · obtain ⟨m, hm, hl⟩ := I.loc
    have vis : Vis X.env.scope x := hk.elim (fun k => .inr (.inl k)) (fun k => .inr (.inr k))
    obtain ⟨u, ru, q⟩ := hl i x v hn hs vis
    rcases q with ⟨k', _⟩ | ⟨_, c', e', o, ho, hd⟩
    · rcases hk with k | k <;> rw [k] at k' <;> cases k'
    · rw [e] at e'
      cases e'
      exact ⟨o, u, by rw [if_pos ⟨x, e⟩]; exact ho, hd, ru⟩
  · have e : (if ∃ x, X.env.cells.lookup x = some c then s.heap.get? c else none) = some o := e
    by_cases hx : ∃ x, X.env.cells.lookup x = some c
    · rw [if_pos hx] at e
      obtain ⟨x, ex⟩ := hx
      exact ⟨e, I.freeC x c ex, x, ex⟩
    · rw [if_neg hx] at e
      cases e
end
section
variable {X : Cx} {σ : L2.St} {C : Addr → Option Obj} {HZ : Hp} {s1 : Shared}
/-- the lambda's body, entered anywhere while the cells lie as C tells -/
theorem lam_start3 {A : Around} {outer : List Env} {E : XK} {scope : Scope} {f c' : Addr} {h₁ : Heap} {tk : Nat} (ok : X.Ok) (len : σ.length = X.N.length) (L : LamS X.env.scope scope) (KC : CellsAt X.env X.N σ C) (lie : ∀ c o, C c = some o → s1.heap.get? c = some o) (off : ∀ c o, C c = some o → HZ c = none)
    (e0 : Env0 X.prog X.w X.K X.mg X.base A outer s1 HZ) (hd : A.handled = none) (hns : h₁.Ns s1.heap.objs.size fun y => ([] : List (Str × Value)).reverse.lookup y) (kp : ∀ b o, s1.heap.get? b = some o → h₁.get? b = some o) :
    Inv (lamCx X A outer s1 HZ E scope f c') [] σ HZ { s1 with heap := h₁, toks := tk } := by
  have old : ∀ {x c}, (cloFrom X.env.cells scope.names []).lookup x = some c → X.env.cells.lookup x = some c := fun {x c} lk => by
    rcases cloFrom_mem (PySem.mem_of_lookup lk) with z | ⟨nm, at_⟩
    · exact absurd z (by simp)
    · obtain ⟨d, hl⟩ := L.has ok _ nm rfl
      have hl : X.env.cells.lookup x = some d := hl
      rw [at_, hl]
      rfl
  have seek : ∀ {x}, scope.names.lookup x = some .free → ∃ c, (cloFrom X.env.cells scope.names []).lookup x = some c := fun {x} lk =>
    mem_lookup (cloFrom_has (cells := X.env.cells) (acc := []) (PySem.mem_of_lookup lk))
  have noE : ∀ b : Addr, b ∉ (lamCx X A outer s1 HZ E scope f c').ex := fun b z => nomatch (show b ∈ ([] : List Addr) from z)
  refine ⟨⟨e0.mod, L.kind, rfl, rfl, Nat.le_refl _, fun x y c l1 l2 => ok.inj x y c (old l1) (old l2), fun x kx => ?_, fun x c z => ?_, fun _ => hd, Around.frames_deeper e0.frames, .inr ⟨rfl, rfl⟩, fun b z => (noE b z).elim, e0.bs, e0.bsz, fun b _ _ => noE b, fun b z => (noE b z).elim, e0.funs, e0.frf⟩,
    rfl, e0.bare, Un.kept kp, ⟨_, hns, fun i x v l1 l2 vs => ?_⟩, fun x c lk => ?_, e0.hok.fresh (Nat.le_refl _), fun x c lk => ?_, fun p z => (nomatch (show p ∈ ([] : List (Addr × Obj)) ++ [] from z)), e0.hok.kept kp, len⟩
  · have kx : scope.names.lookup x = some .cell ∨ scope.names.lookup x = some .free := kx
    rcases kx with k | k
    · exact ((L.own _ (PySem.mem_of_lookup k)).2 rfl).elim
    · exact seek k
  · exact nomatch (show false = true from z)
  · have vs : Vis scope x := vs
    rcases vs with k | k | k
    · exact ((L.own _ (PySem.mem_of_lookup k)).1 rfl).elim
    · exact ((L.own _ (PySem.mem_of_lookup k)).2 rfl).elim
    · have kk : X.env.kindOf x = some .cell ∨ X.env.kindOf x = some .free := L.free _ (PySem.mem_of_lookup k) rfl
      obtain ⟨c, lk⟩ := seek k
      obtain ⟨o, u, co, od, ru⟩ := KC.val i x v c l1 l2 kk (old lk)
      exact ⟨u, ru, .inr ⟨.inr k, c, lk, o, kp _ _ (lie c o co), od⟩⟩
  · obtain ⟨o, v, co, od⟩ := KC.all x c (old lk)
    exact ⟨v, o, kp _ _ (lie c o co), od⟩
  · obtain ⟨o, v, co, od⟩ := KC.all x c (old lk)
    exact off c o co
end

/-! ### a closure -/
/-- what a call of the object at f, without arguments, does -/
def Act (P : Program) (w : World) (K : PySem.W.Frag) (mg : Str → Option Value) (base : Heap) (k : Nat) (f : Addr) (tl : Hp → VK → XK → Prop) : Prop :=
  ∀ (A : Around) (outer : List Env) (s : Shared) (H : Hp) (Q : VK) (E : XK), Room k A → Env0 P w K mg base A outer s H → tl H Q E →
    codeAny (model P w) A (.call (.ref f) ⟨[], []⟩) (CR (L2.CX P w) outer P w H s Q E) s
theorem Act.mono {P : Program} {w : World} {K : PySem.W.Frag} {mg : Str → Option Value} {base : Heap} {j k : Nat} {f : Addr} {tl : Hp → VK → XK → Prop} (a : Act P w K mg base j f tl) (h : j ≤ k) : Act P w K mg base k f tl :=
  fun A outer s H Q E r => a A outer s H Q E (r.mono h)
/-- the reading of a lambda's call, wherever it comes: its object and the cells are known, the body's reading holds without them -/
def tlX (f c' : Addr) (fo : Obj) (q : Str) (C : Addr → Option Obj) (σ : L2.St) (t : XK → TE) : Hp → VK → XK → Prop := fun H Q E =>
  H f = some (Pin f fo) ∧ H c' = some (CodeO c' q) ∧ (∀ c o, C c = some o → H c = some (Pin c o)) ∧ t (fun cls d H' => (∀ c o, C c = some o → H' c = none) → E cls d (plus C H')) σ (minus C H) (fun v H' => (∀ c o, C c = some o → H' c = none) → Q v (plus C H'))
section
variable {X : Cx} {σ : L2.St} {C : Addr → Option Obj}
theorem act_ok {f c' : Addr} {pm ctv : Value} {params : Arguments} {body : Expr} {scope : Scope} {k : Nat} {t : XK → TE} (ok : X.Ok) (len : σ.length = X.N.length) (L : LamS X.env.scope scope) (KC : CellsAt X.env X.N σ C)
    (hbind : bindArgs (PySem.W.kla_fn "<lambda>" (X.env.qual ++ "<lambda>") params body scope (cloFrom X.env.cells scope.names []) pm (.ref c') ctv) ⟨[], []⟩ = pure [])
    (hbody : ∀ (A : Around) (outer : List Env) (s : Shared) (H : Hp) (E : XK), Room k (A.deeper (lamEnv X scope s.heap.objs.size f c')) → PE (lamCx X A outer s H E scope f c') body (t E)) :
    Act X.prog X.w X.K X.mg X.base (k + 1) f (tlX f c' (PySem.W.kla_obj "<lambda>" (X.env.qual ++ "<lambda>") params body scope (cloFrom X.env.cells scope.names []) pm c' ctv) (X.env.qual ++ "<lambda>") C σ t) := by
  intro A outer s H Q E hr e0 h
  obtain ⟨hf, hc, hC, ht⟩ := h
  have gf := pin_get e0.hok hf
  obtain ⟨⟨oc, vs, tq, g1, g2, g3⟩, _, _⟩ := e0.hok c' _ hc
  have LS : Less C (minus C H) H s.heap := less_minus e0.hok hC
  have nf : ∀ c o, C c = some o → c ∉ frs outer := fun c o e z => by
    have := e0.frf c z
    rw [hC c o e] at this
    cases this
  have e1 : Env0 X.prog X.w X.K X.mg X.base A outer s (minus C H) := ⟨e0.frames, e0.mod, fun b o e => ⟨(e0.bs b o e).1, by
      cases q : C b with
      | some o' => exact minus_in q
      | none => rw [minus_out q]; exact (e0.bs b o e).2⟩, e0.bsz, e0.funs, fun b hb => by
      cases q : C b with
      | some o' => exact minus_in q
      | none => rw [minus_out q]; exact e0.frf b hb, LS.hokm e0.hok, e0.bare⟩
  have lim : s.heap.NoLimit := e0.mod.nolimit.keeps fun b o e => (e0.bs b o e).1
  refine PySem.W.kla_callFunE hr.depth gf rfl L.co L.gen rfl ⟨c', oc, vs, tq, rfl, g1, g2, g3⟩ ?_
  rw [hbind]
  refine wpAny_pure (wpAny_newFunctionEnv (fun y hy => (L.own y hy).2) (fun y hy => nomatch hy) (fun h₁ hns hsb => ⟨lim.fresh _ hsb, ?_⟩) L.kind)
  show codeAny _ _ (.expr body (lamEnv X scope s.heap.objs.size f c')) _ _
  have kp : ∀ b o, s.heap.get? b = some o → h₁.get? b = some o := fun b o g => hsb.extBut b o (Nat.ne_of_lt (Heap.lt_size g)) (Heap.get?_push_of_some _ g)
  have J : Inv (lamCx X A outer s (minus C H) (fun cls d H' => (∀ c o, C c = some o → H' c = none) → E cls d (plus C H')) scope f c') [] σ (minus C H) { s with heap := h₁, toks := s.toks + ([] : List (Str × Value)).length } :=
    lam_start3 ok len L KC (fun c o e => (LS.inn c o e).2.2) (fun c o e => (LS.inn c o e).1) e1 hr.hd hns kp
  refine PySem.W.kla_codeExpr (wpAny_mono ((hbody A outer s (minus C H) _ (hr.deeper _)).run [] _ _ _ _ J ht) (fun v s' hq => ?_) fun e s' hq => ?_)
  · obtain ⟨v', H', J', rv, q⟩ := hq
    exact ce_plus LS nf ⟨v', H', J'.os, J'.bare, J'.base, J'.hok, rv, q⟩
  · exact wpAny_mono hq (fun _ s2 z => cx_plus LS nf z) fun e2 s2 z => cx_plus LS nf z
end

/-! ### a lambda is made -/
section
variable {X : Cx} {pins : List (Addr × Obj)} {σ : L2.St} {H : Hp} {s : Shared}
theorem pin_lay {h' : Heap} {o : Obj} {tk : Nat} (nf : o.isFreed = false) (I : Inv X pins σ H { s with heap := h', toks := tk }) : Inv X pins σ (upd H h'.objs.size (Pin h'.objs.size o)) { s with heap := h'.push o, toks := tk } :=
  I.laid (t' := tk) (fun b u g => Heap.get?_push_of_some _ g) (Nat.le_refl _) (pin_ok (Heap.get?_push_size _ nf))
theorem new_same {p : Addr} {o : HO} (n : H p = none) : ∀ b u, H b = some u → upd H p o b = some u := fun b u g => by
  rw [upd_ne (ne_of_none g n)]
  exact g
/-- a lambda is made, and known from then on -/
theorem lam_make3 {T : List (Addr × Str)} {c P : Addr} {params : Arguments} {body : Expr} {scope : Scope} {pos : Pos} {E : Value → Shared → Prop} {Q : Value → Shared → Prop} (I : Inv X pins σ H s) (TB : TabB X.base X.mg c P) (hcode : X.env.code = .ref c)
    (inT : (P, X.env.qual ++ "<lambda>") ∈ T) (one : ∀ p ∈ T, p.1 = P → p.2 = X.env.qual ++ "<lambda>") (tabs : Tabs T H) (nodef : defaultsOf params X.env = ([], [])) (free : ∀ y ∈ scope.names, y.2 = .free → ∃ c, X.env.cells.lookup y.1 = some c)
    (h : ∀ (f c' : Addr) (pm ctv : Value) (H1 : Hp) (s' : Shared), Inv X pins σ H1 s' → ExtN H H1 → Tabs T H1 → H f = none →
      H1 f = some (Pin f (PySem.W.kla_obj "<lambda>" (X.env.qual ++ "<lambda>") params body scope (cloFrom X.env.cells scope.names []) pm c' ctv)) → H1 c' = some (CodeO c' (X.env.qual ++ "<lambda>")) → Q (.ref f) s') :
    wpAny (model X.prog X.w) X.A (eval (.Lambda params body scope pos) X.env) Q E s := by
  obtain ⟨ps, tP, tOk, tAll⟩ := tabs _ inT
  have bP : s.heap.BuiltinsAt X.mg P := TB.bm.keeps I.bk
  have gP : s.heap.get? P = some { cls := .none, data := .fields ps } := I.hok P _ tP
  refine PySem.W.kla_eval nodef ?_
  cases among : codeAmong pos ps.toList with
  | some cv =>
    obtain ⟨c', rfl, known⟩ := tAll pos cv among
    refine PySem.W.kla_makeFunctionHit (mg := X.mg) (c := c) (P := P) (ps := ps) (closure_ok free) I.ok.glob (I.mod.glob.keeps I.bk) hcode (TB.code.keeps I.bk) gP tOk among bP fun ctv h' tk kept bigger => ?_
    have J : Inv X pins σ H { s with heap := h', toks := tk } := I.kept kept
    have n := J.hok.fresh (Nat.le_refl h'.objs.size)
    exact h _ c' _ ctv _ _ (pin_lay rfl J) (ExtN.of (new_same n)) (tabs.ext (new_same n)) n upd_same (new_same n _ _ known)
  | none =>
    refine PySem.W.kla_makeFunction (mg := X.mg) (c := c) (P := P) (ps := ps) (closure_ok free) I.ok.glob (I.mod.glob.keeps I.bk) hcode (TB.code.keeps I.bk) gP tOk among TB.gP bP fun c' ctv h' tk but ge lt rc tab => ?_
    obtain ⟨c2, oc, vs, tq, ec, g1, g2, g3⟩ := rc
    cases ec
    have J := inv_table (q := X.env.qual ++ "<lambda>") (t' := tk) (more := #[rawInt pos.line, rawInt pos.col, .ref c']) (h' := h') I tP (fun b o nb g => but b o nb g) tab ge ⟨oc, vs, tq, g1, g2, g3⟩
    have nc : H c' = none := I.hok.fresh ge
    have n := J.hok.fresh (Nat.le_refl h'.objs.size)
    have nH : H h'.objs.size = none := I.hok.fresh (Nat.le_trans ge (Nat.le_of_lt lt))
    have E1 : ExtN H (upd (upd H P (.tbl (ps ++ #[rawInt pos.line, rawInt pos.col, .ref c']))) c' (CodeO c' (X.env.qual ++ "<lambda>"))) := fun b u g no => by
      have nP : b ≠ P := fun z => no ps (Option.some.inj (g.symm.trans (z ▸ tP)))
      rw [upd_ne (ne_of_none g nc), upd_ne nP]
      exact g
    have T1 : Tabs T (upd (upd H P (.tbl (ps ++ #[rawInt pos.line, rawInt pos.col, .ref c']))) c' (CodeO c' (X.env.qual ++ "<lambda>"))) := fun p hp => by
      by_cases eP : p.1 = P
      · rw [one p hp eP, eP]
        refine ⟨ps ++ #[rawInt pos.line, rawInt pos.col, .ref c'], by rw [upd_ne (ne_of_none tP nc), upd_same], ?_, fun pos' cv hcv => ?_⟩
        · rw [Array.toList_append]
          exact PySem.TriplesOk_snoc _ _ _ _ tOk
        · rw [Array.toList_append] at hcv
          rcases among_app _ tOk hcv with z | z
          · obtain ⟨d, ed, kd⟩ := tAll pos' cv z
            exact ⟨d, ed, E1 _ _ kd codeO_ne⟩
          · exact ⟨c', z, upd_same⟩
      · obtain ⟨qs, b1, b2, b3⟩ := tabs p hp
        refine ⟨qs, by rw [upd_ne (ne_of_none b1 nc), upd_ne eP]; exact b1, b2, fun pos' cv hcv => ?_⟩
        obtain ⟨d, ed, kd⟩ := b3 pos' cv hcv
        exact ⟨d, ed, E1 _ _ kd codeO_ne⟩
    refine h _ c' _ ctv _ _ (pin_lay rfl J) (fun b u g no => new_same n _ _ (E1 b u g no)) (T1.ext (new_same n)) nH upd_same (new_same n _ _ upd_same)
end

/-- a def's object -/
def FnObj (o : Obj) : Prop := ∃ (oc : Value) (od : Option Addr) (fd : FuncData) (osl : Array (Option Value)), o = ⟨oc, od, .func fd, osl⟩
/-- the expression lambda: body -/
def tLam3 (X : Cx) (T : List (Addr × Str)) (k : Nat) (t : XK → TE) : TE := fun σ H Q => Tabs T H ∧ ∀ (f : Addr) (fo : Obj) (c' : Addr) (H1 : Hp), ExtN H H1 → Tabs T H1 → H f = none → H1 f = some (Pin f fo) → H1 c' = some (CodeO c' (X.env.qual ++ "<lambda>")) →
  FnObj fo → (∀ C, CellsAt X.env X.N σ C → Act X.prog X.w X.K X.mg X.base (k + 1) f (tlX f c' fo (X.env.qual ++ "<lambda>") C σ t)) → Q (.ref f) H1
/-- a call of v, without arguments, from here -/
def Does (P : Program) (w : World) (K : PySem.W.Frag) (mg : Str → Option Value) (base : Heap) (k : Nat) (v : V) (H : Hp) (Q : VK) (E : XK) : Prop :=
  ∃ (f : Addr) (fo : Obj) (tl : Hp → VK → XK → Prop), v = .ref f ∧ FnObj fo ∧ H f = some (Pin f fo) ∧ Act P w K mg base k f tl ∧ tl H Q E
theorem Does.mono {P : Program} {w : World} {K : PySem.W.Frag} {mg : Str → Option Value} {base : Heap} {j k : Nat} {v : V} {H : Hp} {Q : VK} {E : XK} (d : Does P w K mg base j v H Q E) (h : j ≤ k) : Does P w K mg base k v H Q E := by
  obtain ⟨f, fo, tl, e, n, p, a, t⟩ := d
  exact ⟨f, fo, tl, e, n, p, a.mono h, t⟩
/-- x(), x the slot i -/
def tAct (P : Program) (w : World) (K : PySem.W.Frag) (mg : Str → Option Value) (base : Heap) (i k : Nat) (E : L2.St → XK) : TE := fun σ H Q => ∃ v, σ[i]? = some (some v) ∧ Does P w K mg base k v H Q (E σ)
/-- a def's call, the caller's cells known while it runs -/
def tCallT (X : Cx) (sp : Sp) (t : TA) : TE := fun σ H Q => t σ H fun vs H1 => ∀ C, CellsAt X.env X.N σ C → (∀ c o, C c = some o → H1 c = none) →
  sp vs (plus C H1) (fun v H' => (∀ c o, C c = some o → H' c = some (Pin c o)) ∧ Q v (minus C H')) C8.E0
section
variable {X : Cx}
theorem pe_lam {T : List (Addr × Str)} {c P : Addr} {k : Nat} {params : Arguments} {body : Expr} {scope : Scope} {t : XK → TE} {pos : Pos} (TB : TabB X.base X.mg c P) (hcode : X.env.code = .ref c)
    (inT : (P, X.env.qual ++ "<lambda>") ∈ T) (one : ∀ p ∈ T, p.1 = P → p.2 = X.env.qual ++ "<lambda>") (L : LamS X.env.scope scope) (nodef : defaultsOf params X.env = ([], []))
    (hbind : ∀ (q : Str) (cl : List (Str × Addr)) (pm cv ctv : Value), bindArgs (PySem.W.kla_fn "<lambda>" q params body scope cl pm cv ctv) ⟨[], []⟩ = pure [])
    (hbody : ∀ (A : Around) (outer : List Env) (s : Shared) (H : Hp) (E : XK) (f c' : Addr), Room k (A.deeper (lamEnv X scope s.heap.objs.size f c')) → PE (lamCx X A outer s H E scope f c') body (t E)) :
    PE X (.Lambda params body scope pos) (tLam3 X T k t) := by
  refine ⟨fun pins s σ H Q I h => ?_⟩
  obtain ⟨tabs, h⟩ := h
  refine lam_make3 I TB hcode inT one tabs nodef (L.has I.ok) fun f c' pm ctv H1 s1 I1 x1 t1 n1 k1 k2 => ?_
  exact ⟨.ref f, H1, I1, rfl, h f _ c' H1 x1 t1 n1 k1 k2 ⟨_, _, _, _, rfl⟩ fun C KC => act_ok I1.ok I1.len L KC (hbind _ _ _ _ _) fun A outer s H E r => hbody A outer s H E f c' r⟩
theorem pe_act3 {i k : Nat} {a : Str} {E : L2.St → XK} {p1 p2 : Pos} (hr : Room k X.A) (hx : ∀ σ, PassesAt (L2.CX X.prog X.w) X σ (E σ)) (hN : X.N[i]? = some a) (hv : Vis X.env.scope a)
    (hd : (a == ("__debug__" : Str)) = false := by decide) (hcd : (a == ("__classdict__" : Str)) = false := by decide) : PE X (.Call (.Name a p1) [] [] p2) (tAct X.prog X.w X.K X.mg X.base i k E) := by
  refine ⟨fun pins s σ H Q I h => ?_⟩
  obtain ⟨w, hs, f, fo, tl, ew, ⟨oc, od, fd, osl, efo⟩, hf, act, ht⟩ := h
  subst ew
  refine wpAny_Call_Name_kw (thn ((pe_var (pos := p1) (i := i) hN hv hd hcd).run pins s σ H (fun v H1 => v = .ref f ∧ H1 = H) I ⟨.ref f, hs, rfl, rfl⟩) fun u s1 hu => ?_)
  obtain ⟨v, H1, I1, rv, ev, eH⟩ := hu
  subst ev
  rw [eH] at I1
  obtain rfl : u = Value.ref f := rv
  have gf := pin_get I1.hok hf
  refine PySem.W.callWith_F0 ⟨oc, od, fd, osl, by rw [gf, efo]⟩ ?_
  refine wpAny_call (codeAny_mono (act X.A X.stack s1 H Q (E σ) hr I1.env0 ht) fun r s2 hq => ?_)
  cases r with
  | error e => exact hx σ pins H s1 e s2 I1 hq
  | ok fl =>
    cases fl with
    | ret u => exact I1.after hq
    | next => exact False.elim hq
    | brk => exact False.elim hq
    | cont => exact False.elim hq
/-- f(..), the caller's cells known while it runs -/
theorem pe_callT {k : Nat} {f : Addr} {fd : FuncData} {ps : List Str} {sp : Sp} {x : Str} {p pos : Pos} {e : Expr} {es : List Expr} {t : TA} (F : FnOk X.prog X.w X.K X.mg X.base C8.CX0 k f fd ps sp) (hr : Room k X.A) (hg : Gl X x) (hm : X.mg x = some (.ref f)) (hk : PySem.W.keepIn X.K (.ref f) = true)
    (hb : Binds X.K fd ps []) (hfn : ∀ x, X.fn x = true) (ha : PA X (e :: es) t) (hdb : (x == ("__debug__" : Str)) = false := by decide) (he : starEach (e :: es) X.env = (false, eval e X.env) :: starEach es X.env := by rfl)
    (hpl : (backTo pos (starEach es X.env)).any (·.1) = false := by rfl) : PE X (.Call (.Name x p) (e :: es) [] pos) (tCallT X sp t) := by
  refine ⟨fun pins s σ H Q I h => ?_⟩
  refine wpAny_Call_Name_kw (ld_glob I hg hm ?_ hdb)
  refine PySem.W.callWith_K (h₀ := X.base) I.ok.mod.kin hk (thn (ha.run pos pins s σ H _ I h) fun us s1 ⟨vs, H1, I1, r, q⟩ => ⟨I1.kIn, ?_⟩) he hpl
  obtain ⟨C, KC, hC⟩ := cells_of I1
  have q := q C KC fun c o e => (hC c o e).2.1
  have LS : Less C H1 (plus C H1) s1.heap := less_plus fun c o e => ⟨(hC c o e).2.1, (hC c o e).1⟩
  have big : ∀ c o, C c = some o → X.s_0.heap.objs.size ≤ c := fun c o e => by
    obtain ⟨y, ey⟩ := (hC c o e).2.2
    exact I1.ok.cab y c (hfn y) ey
  have none_of : ∀ b, b < X.s_0.heap.objs.size → C b = none := fun b lt => by
    cases z : C b with
    | none => rfl
    | some o => exact absurd (Nat.lt_of_lt_of_le lt (big b o z)) (Nat.lt_irrefl _)
  have e0 := I1.env0
  have e1 : Env0 X.prog X.w X.K X.mg X.base X.A X.stack s1 (plus C H1) := ⟨e0.frames, e0.mod, fun b o g => ⟨(e0.bs b o g).1, by
      rw [plus_out (none_of b (Nat.lt_of_lt_of_le (Heap.lt_size g) I1.ok.bsz))]
      exact (e0.bs b o g).2⟩, e0.bsz, e0.funs, fun b hb => by
      have nb : C b = none := by
        rcases List.mem_cons.mp (I1.stkSub b hb) with z | z
        · rw [z]
          cases w : C X.env.locals with
          | none => rfl
          | some o =>
            obtain ⟨y, ey⟩ := (hC _ o w).2.2
            exact absurd rfl (I1.cne y _ ey)
        · obtain ⟨_, o, ho, _⟩ := I1.ok.funs.mem z
          exact none_of b (Heap.lt_size ho)
      rw [plus_out nb]
      exact e0.frf b hb, LS.hok e0.hok, e0.bare⟩
  have hl : us.length = ps.length := by rw [← r.length]; exact F.len _ _ _ _ q
  have b := hb s1 us I1.kIn (by rw [List.append_nil]; exact hl)
  rw [List.append_nil] at b
  refine wpAny_call (codeAny_mono (F.run X.A X.stack s1 (plus C H1) ⟨us, []⟩ us vs _ C8.E0 hr e1 b r q) fun rr s2 hq => ?_)
  cases rr with
  | error e => exact (show False from hq).elim
  | ok fl =>
    cases fl with
    | ret u => exact I1.after (ce_minus LS hq)
    | next => exact False.elim hq
    | brk => exact False.elim hq
    | cont => exact False.elim hq
end
end Clo

set_option Elab.async false
set_option linter.all false
set_option maxRecDepth 100000
/-! several except clauses, each with a name (the same one) -/
namespace Clo
open PySem PySem.Spec PyProof.Rows L2 LamX
/-- the ends of a suite behind which its name is gone -/
def goneD (i : Nat) (D : Ends) : Ends where
  nx := fun τ G => D.nx (τ.set i none) G
  rt := D.rt
  bk := fun τ G => D.bk (τ.set i none) G
  ct := fun τ G => D.ct (τ.set i none) G
/-- what the clauses wish, one behind the other; the caught one stands in slot i -/
def wNam (K : PySem.W.Frag) (i : Nat) (Wout : WX) (D : Ends) : List (Value × (Addr → Value → Option Addr → TS)) → WX
  | [] => Wout
  | (k, ts) :: more => fun cls d τ G => ∃ b, PySem.W.exmOne K cls k = some b ∧ (b = true → ∀ a, G a = none → ts a cls d (goneD i D) (τ.set i (some (.ref a))) G) ∧ (b = false → wNam K i Wout D more cls d τ G)
inductive HdsN (X : Cx) (n : Str) : List ExceptHandler → List (Value × (Addr → Value → Option Addr → TS)) → Prop
  | nil : HdsN X n [] []
  | cons {x : Str} {k : Value} {ts : Addr → Value → Option Addr → TS} {st : Stmt} {sts : List Stmt} {p1 p2 : Pos} {more : List ExceptHandler} {l : List (Value × (Addr → Value → Option Addr → TS))} (nm : Names X x k)
      (su : ∀ (a : Addr) (oe : Obj) (cls : Value) (d : Option Addr) (pn : List (Addr × Obj)), Zc cls d oe → (∃ vs, oe.data = .fields vs) → PSs (X.suite a ((a, oe) :: pn)) (st :: sts) (ts a cls d)) (r : HdsN X n more l) :
      HdsN X n (.ExceptHandler (some (.Name x p1)) (some n) (st :: sts) p2 :: more) ((k, ts) :: l)
section
variable {X : Cx} {body : List Stmt} {h₀ : ExceptHandler} {hds : List ExceptHandler} {l : List (Value × (Addr → Value → Option Addr → TS))} {pos : Pos} {tb : WX → TS} {Wout : WX} {n : Str} {i : Nat}
theorem ps_try_nam (st : X.stack = X.env :: X.outer) (fr : X.env.frame = some X.env.locals) (nd : X.N.Nodup) (at_ : X.N[i]? = some n) (lc : X.env.kindOf n = some .local) (tk : Takes X Wout)
    (hb : ∀ (W : WX) (pn : List (Addr × Obj)) (xe : Value → Shared → Prop), Takes (X.tr pn xe) W → PassesOwn (model X.prog X.w) X.A X.env xe → PSs (X.tr pn xe) body (tb W)) (hh : HdsN X n (h₀ :: hds) l) :
    PS X (.Try body (h₀ :: hds) [] [] pos) (fun D τ G => tb (wNam X.K i Wout D l) D τ G) := by
  refine ⟨fun pins s τ G D I hyp => ?_⟩
  have ok := I.ok
  have frames : X.A.frames = some (X.env :: X.outer) := by
    rw [ok.frames, st]
  refine wpAny_Try_except (wpAny_mono ((hb (wNam X.K i Wout D l) (X.pn ++ pins)
    (fun e s₁ => wpAny (model X.prog X.w) X.A (noteFrame e X.env) (fun _ s₂ => wpAny (model X.prog X.w) X.A (setFlight e none)
      (fun _ s₃ => wpAny (model X.prog X.w) X.A (handleBy e X.env (h₀ :: hds)) (SP X pins D) X.xe s₃) X.xe s₂) X.xe s₁)
    (fun u s' air => ?_) PassesOwn.looking).run [] s τ G D (I.toTry _) hyp) (fun f s1 z => ?_) (fun e s1 z => z))
  · obtain ⟨a, B, sI, pins', τ', G', cls, d, rfl, J', below, up, sky, new, os, bare, wish⟩ := air
    have J : Inv X pins τ' G' sI := J'.ofTry ok
    have sky1 : Sky B (X.env :: X.outer) a (Zc cls d) X.env.locals s'.heap := by
      rw [← st]
      exact sky
    show wpAny (model X.prog X.w) X.A (noteFrame (.ref a) X.env) _ _ _
    refine Sky.land Zc.steady frames fr sky1 fun h3 fly up3 => ?_
    have J3 : Inv X pins τ' G' { s' with heap := h3 } := J.landed below fly.1 (up.trans up3) os bare
    obtain ⟨oe, vs, ge, ze, de⟩ := fly.there
    have noFrame : a ∉ frs (X.env :: X.outer) := fun m => by
      obtain ⟨_, o', g', other⟩ := fly.2.2.1.mem m
      rw [ge] at g'
      cases g'
      exact other _ de
    have noLoc : a ≠ X.env.locals := fun z => noFrame (List.mem_filterMap.mpr ⟨X.env, List.mem_cons_self, by rw [fr, z]⟩)
    have noOut : a ∉ X.fs := fun m => by
      obtain ⟨e, me, q⟩ := List.mem_filterMap.mp m
      exact noFrame (List.mem_filterMap.mpr ⟨e, List.mem_cons_of_mem _ me, q⟩)
    have S3 := J3.suite ge de new noLoc noOut
    have go : ∀ {hs : List ExceptHandler} {ll : List (Value × (Addr → Value → Option Addr → TS))}, HdsN X n hs ll → wNam X.K i Wout D ll cls d τ' G' → wpAny (model X.prog X.w) X.A (handleBy (.ref a) X.env hs) (SP X pins D) X.xe { s' with heap := h3 } := by
      intro hs ll hk
      induction hk with
      | nil =>
        intro wish
        refine wpAny_handleBy_nil ?_
        obtain ⟨_, _, _, oe', vs', T, oT, tt, ge', _, de', g1, _⟩ := id fly
        have out : wpAny (model X.prog X.w) X.A (setFlight (.ref a) X.env.frame) (fun _ s4 => wpAny (model X.prog X.w) X.A (throw (.ref a) : Sem Flow) (SP X pins D) X.xe s4) X.xe { s' with heap := h3 } := by
          rw [fr]
          exact HandSPX.setFlight_upZ fly fun h4 hh4 up4 => wpAny_throw (tk _ _ ⟨a, B, sI, pins, τ', G', cls, d, rfl, J, below, (up.trans up3).trans up4, .inr (.inr (by rw [st]; exact hh4)), new, os, bare, wish⟩)
        unfold PySem.passOn
        refine wpAny_bind (wpAny_field ge' de' g1 ?_)
        rw [if_neg (show ¬ (Value.ref T == Value.none) = true from by simp)]
        first
          | exact wpAny_bind (wpAny_pure (wpAny_bind out))
          | exact wpAny_bind out
      | @cons x k ts st0 sts p1 p2 more ll nm su r ih =>
        intro wish
        obtain ⟨b, decided, yes, no⟩ := wish
        refine wpAny_handleBy_cons (codeAny_handlers_test ?_) (by intro q; cases q)
        have tyOf : PySem.W.Looks (model X.prog X.w) h3 (typeOf (.ref a)) cls := fun A Q E s k q => wpAny_typeOf_ref (k _ _ ge) (by rw [ze.1]; exact q)
        have named : ∀ {Q : Value → Shared → Prop} {E : Value → Shared → Prop}, Q k { s' with heap := h3 } → wpAny (model X.prog X.w) (X.A.mark (some (.ref a))) (eval (.Name x p1) X.env) Q E { s' with heap := h3 } := fun {Q E} q => by
          obtain ⟨g, dbg, m | ⟨m, v, nn⟩⟩ := nm
          · exact ld_glob (X := X.suite a ((a, oe) :: (X.pn ++ pins))) S3 g m q dbg
          · exact ld_blt (X := X.suite a ((a, oe) :: (X.pn ++ pins))) S3 g m v q nn dbg
        refine named ((PySem.W.exm_one (M := model X.prog X.w) (J3.kIn) tyOf decided).here ?_)
        cases b with
        | false =>
          show wpAny _ X.A (handleBy (.ref a) X.env more) _ _ _
          exact ih (no rfl)
        | true =>
          refine codeAny_handlers_suite_as (HandSPX.lands_againZ fly fun h4 fly4 up4 => ?_)
          have J4 : Inv X pins τ' G' { s' with heap := h4 } := J.landed below fly4.1 ((up.trans up3).trans up4) os bare
          obtain ⟨oe4, vs4, ge4, ze4, de4⟩ := fly4.there
          refine store_ok (X := X.suite a ((a, oe4) :: (X.pn ++ pins))) (v := .ref a) (J4.suite ge4 de4 new noLoc noOut) nd at_ (.inl lc) rfl (fun s5 S5 => ?_) (.inr lc)
          refine wpAny_mono ((su a oe4 cls d (X.pn ++ pins) ze4 ⟨_, de4⟩).run [] s5 _ G' _ S5 (yes rfl a new)) (fun f s6 z => ?_) (fun _ _ z => z.elim)
          have away : ∀ {τ6 : L2.St} {G6 : Hp} {Q : Shared → Prop}, Inv (X.suite a ((a, oe4) :: (X.pn ++ pins))) [] τ6 G6 s6 → (∀ s7, Inv X pins (τ6.set i none) G6 s7 → Q s7) →
              wpAny (model X.prog X.w) X.A (do bindName X.env n .none; unbindBehindTheSuite X.env n p2) (fun _ s7 => Q s7) X.xe s6 := fun S6 hq => gone_ok (S6.unsuite ok) nd at_ lc hq
          cases f with
          | next =>
            obtain ⟨τ6, G6, S6, q6⟩ := z
            exact away S6 fun s7 J7 => ⟨_, _, J7, q6⟩
          | brk =>
            obtain ⟨τ6, G6, S6, q6⟩ := z
            exact away S6 fun s7 J7 => ⟨_, _, J7, q6⟩
          | cont =>
            obtain ⟨τ6, G6, S6, q6⟩ := z
            exact away S6 fun s7 J7 => ⟨_, _, J7, q6⟩
          | ret u =>
            obtain ⟨v6, τ6, G6, S6, r6, q6⟩ := z
            exact away S6 fun s7 J7 => ⟨_, _, _, J7, r6, q6⟩
    exact go hh wish
  · cases f with
    | next =>
      obtain ⟨τ', G', J', q⟩ := z
      exact wpAny_execs_nil ⟨τ', G', J'.ofTry ok, q⟩
    | brk =>
      obtain ⟨τ', G', J', q⟩ := z
      exact ⟨τ', G', J'.ofTry ok, q⟩
    | cont =>
      obtain ⟨τ', G', J', q⟩ := z
      exact ⟨τ', G', J'.ofTry ok, q⟩
    | ret u =>
      obtain ⟨v, τ', G', J', r, q⟩ := z
      exact ⟨v, τ', G', J'.ofTry ok, r, q⟩
end
end Clo

set_option Elab.async false
set_option linter.all false
set_option maxRecDepth 100000
/-! enumerate of a tuple -/
namespace Enu
open PySem PySem.Spec PyProof.Rows L2
set_option maxHeartbeats 1000000 in
theorem meets_enum_tup (l : Addr) (items : Array Value) :
    Meets (Builtin.«enumerate.__new__» ⟨[.type "enumerate", .ref l], []⟩) (fun _ R s => s.heap.IsTuple l items ∧
      R (.ok (.ret (.ref (s.heap.push { cls := .type "tuple_iterator", data := .fields #[.ref l, .int 0 0] }).objs.size)))
        { s with heap := (s.heap.push { cls := .type "tuple_iterator", data := .fields #[.ref l, .int 0 0] }).push { cls := .type "enumerate", data := .fields #[.none, .bool false, .ref s.heap.objs.size, rawInt 0, .none, .none] } }) :=
  .of_wp fun prog w A R s hyp => by
    obtain ⟨hp, g, d, tk, os⟩ := s
    obtain ⟨hl, hyp⟩ := hyp
    have sub := sub_enumerate
    have hL : Heap.IsTuple (Shared.heap ⟨hp, g, d, tk, os⟩) l items := hl
    wp_walk using wpAny_pyIter_tuple hL
    refine wpAny_stack_any fun st => wpAny_pure ?_
    split
    · rename_i c _ _ _ _ _
      cases (c == Value.type "enumerate") <;> (wp_walk using wpAny_pyIter_tuple hL; exact ⟨_, rfl, hyp⟩)
    · wp_walk using wpAny_pyIter_tuple hL
      exact ⟨_, rfl, hyp⟩

section
variable {prog : Program} {w : World} {A : Around} {E : Value → Shared → Prop} {s : Shared}
theorem call_enum_tup {l : Addr} {items : Array Value} {Q : Value → Shared → Prop} (hL : s.heap.IsTuple l items)
    (h : ∀ h', IsEnum h' (s.heap.objs.size + 1) s.heap.objs.size 0 .none → h'.IsTupleIter s.heap.objs.size l 0 → h'.objs.size = s.heap.objs.size + 2 → (∀ b o, s.heap.get? b = some o → h'.get? b = some o) → Q (.ref (s.heap.objs.size + 1)) { s with heap := h' }) :
    wpAny (model prog w) A (call (.type "enumerate") [.ref l]) Q E s := by
  refine callType_new F.called_enumerate (by decide) (F.typeCall_enumerate_1 _) (F.newCall_enumerate_1 _) (fun obj => F.args_object_init_2 obj _) F.entry_enumerate_new (meets_enum_tup l items) ⟨hL, ?_⟩
  have size1 : (s.heap.push { cls := .type "tuple_iterator", data := .fields #[.ref l, .int 0 0] }).objs.size = s.heap.objs.size + 1 := Heap.size_push ..
  show _ ∧ _
  rw [size1]
  have made : IsEnum ((s.heap.push { cls := .type "tuple_iterator", data := .fields #[.ref l, .int 0 0] }).push { cls := .type "enumerate", data := .fields #[.none, .bool false, .ref s.heap.objs.size, rawInt 0, .none, .none] }) (s.heap.objs.size + 1) s.heap.objs.size 0 .none := by
    have g := Heap.get?_push_size (s.heap.push { cls := .type "tuple_iterator", data := .fields #[.ref l, .int 0 0] }) (o := { cls := .type "enumerate", data := .fields #[.none, .bool false, .ref s.heap.objs.size, rawInt 0, .none, .none] }) rfl
    rw [size1] at g
    exact g
  exact ⟨⟨_, made, rfl⟩, h _ made ⟨_, Heap.get?_push_of_some _ (Heap.get?_push_size _ rfl), rfl, rfl⟩ (by rw [Heap.size_push, size1]) fun b o g => Heap.get?_push_of_some _ (Heap.get?_push_of_some _ g)⟩
theorem enum_tup_end {e it l : Addr} {i : Nat} {c : Int} {items : Array Value} {old : Value} {Q : Option Value → Shared → Prop} (hh : A.handled = none) (en : IsEnum s.heap e it c old) (ti : s.heap.IsTupleIter it l i) (tup : s.heap.IsTuple l items) (gone : items[i]? = none)
    (hQ : ∀ h', Heap.ExtBut it s.heap h' → Q none { s with heap := h' }) : wpAny (model prog w) A (pyNext (.ref e)) Q E s := by
  have ty : s.TypeIs (.ref e) "enumerate" := ⟨_, en, rfl⟩
  unfold pyNext
  refine wpAny_bind (wpAny_attempt (wpAny_callSpecial?_slot (name := Str.ofString "__next__") ty F.slot_enumerate_next (wpAny_call_entry F.slot_enumerate_next ty F.entry_enumerate_next ?_ (F.args_enumerate_next_1 _))))
  show wpAny _ _ (field (.ref e) 2 >>= _) _ _ _
  refine wpAny_bind (wpAny_field en rfl (x := .ref it) rfl (wpAny_bind (RZ.nextOf_tuple_end hh ti tup gone fun h' x kept ⟨o, ho, hc⟩ => ?_)))
  exact wpAny_bind (wpAny_isInstance (T := "StopIteration") (b := true) ⟨o, ho, hc⟩ isSubtype_stop (wpAny_pure (hQ _ kept)))
end
/-- the tuple at a as it stands at each turn, each item in a new pair with its number -/
def IteT (K : PySem.W.Frag) (a : Addr) : It :=
  ⟨fun i H => ∃ (xs : List V) (x : V), SqT K H a xs ∧ xs[i]? = some x, fun i H v H' => ∃ T x, v = .ref T ∧ H T = none ∧ H' = upd H T (.tup [.int (i : Nat), x]) ∧ ∀ xs, SqT K H a xs → xs[i]? = some x, fun i H => ∃ xs : List V, SqT K H a xs ∧ xs.length ≤ i⟩
theorem turn_enumT {P : Program} {w : World} {K : PySem.W.Frag} {elts : List Expr} {kk : Nat} {tpos : Pos} (a e it : Addr) :
    Turn P w K (.Tuple elts kk tpos) (IteT K a) [e, it] e (fun i h => (∃ old, IsEnum h e it ((i : Nat) : Int) old) ∧ h.IsTupleIter it a i ∧ e ≠ it ∧ e ≠ a ∧ a ≠ it) where
  mem := by simp
  obj := fun i h st b hb => by
    obtain ⟨⟨old, en⟩, ⟨o, ho, _, hd⟩, _⟩ := st
    rcases (show b = e ∨ b = it by simpa using hb) with z | z
    · subst z
      exact ⟨_, en, fun v q => nomatch q⟩
    · subst z
      exact ⟨o, ho, fun v q => by rw [hd] at q; cases q⟩
  keep := fun i h h' st k => let ⟨⟨old, en⟩, ti, rest⟩ := st; ⟨⟨old, k e (by simp) _ en⟩, ti.at fun o q => k it (by simp) o q, rest⟩
  item := by
    intro X eP ew eK calm i pins s σ H E I fr st go
    subst eP ew eK
    obtain ⟨⟨old, en⟩, ti, n1, n2, n3⟩ := st
    obtain ⟨xs, x, sq, at_⟩ := go
    obtain ⟨its, rv, tup, small⟩ := I.tuple sq
    obtain ⟨u, gu, ru⟩ := rv.get at_
    have le : e < s.heap.objs.size := Heap.lt_size en
    have li : it < s.heap.objs.size := by
      obtain ⟨_, q, _⟩ := ti
      exact Heap.lt_size q
    have lt : i < its.toArray.size := by
      have := (List.getElem?_eq_some_iff.mp gu).1
      simpa using this
    have D := Draws.tuple (prog := X.prog) (w := X.w) (A := X.A.in1) (I.ok.hd calm) it a n3 its.toArray
    refine wpAny_pyNext_enum_itemD D en ⟨ti, tup⟩ lt n1 (by simp [n1, n2]) fun y h' tk gy out next tupl size kept => ?_
    have ey : y = u := by
      have gy' : its[i]? = some y := by simpa using gy
      rw [gu] at gy'
      exact (Option.some.inj gy').symm
    subst ey
    refine ⟨_, rfl, wpAny_letOwnedTupleGo_enum (s := { s with heap := h', toks := tk + 1 }) out fun h'' en' but => ?_⟩
    have tupl2 : h''.get? s.heap.objs.size = some { cls := .type "tuple", data := .seq #[.int i tk, y] } := (but.2 _ (Nat.ne_of_gt le)).trans tupl
    have new : ObjOk X.prog X.w (upd H s.heap.objs.size (.tup [.int (i : Nat), x])) h'' s.heap.objs.size (.tup [.int (i : Nat), x]) :=
      ⟨by show 2 ≤ sizeLine; decide, [.int i tk, y], .cons ⟨_, rfl⟩ (.cons ru .nil), ⟨_, tupl2, rfl, _, rfl⟩⟩
    have J : Inv X pins σ (upd H s.heap.objs.size (.tup [.int (i : Nat), x])) { s with heap := h'', toks := tk + 1 } :=
      I.turnedNew (ch := [e, it]) (fun b ob nb q => (but.2 b (fun z => nb (by simp [z]))).trans (kept b ob (fun z => nb (by simp [z])) (fun z => nb (by simp [z])) q)) fr (Nat.le_refl _) new
    refine ⟨.ref s.heap.objs.size, _, J, rfl, ⟨_, x, rfl, I.hok.fresh (Nat.le_refl _), rfl, fun ys hy => by rw [I.tuple_inj hy sq]; exact at_⟩, ⟨⟨y, ?_⟩, next.1.at fun o q => (but.2 it (Ne.symm n1)).trans q, n1, n2, n3⟩, fun b hb => ?_⟩
    · rw [show ((i + 1 : Nat) : Int) = (i : Int) + 1 by omega]
      exact en'
    · have lb : b < s.heap.objs.size := by
        rcases (show b = e ∨ b = it by simpa using hb) with z | z
        · rw [z]; exact le
        · rw [z]; exact li
      rw [upd_ne (Nat.ne_of_lt lb)]
      exact (fr b hb).1
  done := by
    intro X eP ew eK calm i pins s σ H E I fr st go
    subst eP ew eK
    obtain ⟨⟨old, en⟩, ti, n1, n2, n3⟩ := st
    obtain ⟨xs, sq, over⟩ := go
    obtain ⟨its, rv, tup, small⟩ := I.tuple sq
    obtain ⟨f0, f1, f2, f3, f4, f5⟩ := fr it (by simp)
    have ll := rv.length
    have gone : its.toArray[i]? = none := by
      simp
      omega
    exact enum_tup_end (I.ok.hd calm) en ti tup gone fun h' kept => ⟨rfl, I.turned (t' := s.toks) (fun b o nb q => kept b o nb q) f0 f1 f3 f4 f5⟩
  self := fun A i s Q E st h => let ⟨⟨_, en⟩, _⟩ := st; wpAny_pyIter_enum en h

def iEnumT (K : PySem.W.Frag) (ta : TA) : TI := fun σ H R => ta σ H fun vs H1 => ∃ a xs, vs = [.ref a] ∧ SqT K H1 a xs ∧ R (IteT K a) H1
theorem pi_enumT {X : Cx} {e : Expr} {ta : TA} {p pos tpos : Pos} {elts : List Expr} {kk : Nat} (hg : Gl X "enumerate") (hm : X.mg "enumerate" = none) (ha : PA X [e] ta) (hs : starEach [e] X.env = [(false, eval e X.env)] := by rfl) :
    PI X (.Tuple elts kk tpos) (.Call (.Name "enumerate" p) [e] [] pos) (iEnumT X.K ta) := by
  refine ⟨fun pins s σ H R I h => Call_ (ld_blt I hg hm boot_enumerate (PyProof.Rows.callWith_type1 (thn (ha.run pos pins s σ H _ I h) fun us s1 hh => ?_) hs rfl))⟩
  obtain ⟨vs, H1, I1, r1, a, xs, ex, sq, q⟩ := hh
  subst ex
  cases r1 with
  | cons r rr =>
    cases rr
    cases r
    obtain ⟨its, rv, tup, small⟩ := I1.tuple sq
    have la : a < s1.heap.objs.size := by
      obtain ⟨o, ho, _⟩ := id tup
      exact Heap.lt_size ho
    refine call_enum_tup tup fun h' en ti size kept => wpAny_pyIter_enum en ?_
    have J : Inv X pins σ H1 { s1 with heap := h' } := I1.kept (t' := s1.toks) kept
    refine ⟨s1.heap.objs.size + 1, [s1.heap.objs.size + 1, s1.heap.objs.size], _, _, H1, rfl, J, turn_enumT a (s1.heap.objs.size + 1) s1.heap.objs.size, ⟨⟨.none, en⟩, ti, Nat.succ_ne_self _, Nat.ne_of_gt (Nat.lt_succ_of_lt la), Nat.ne_of_lt la⟩, fun b hb => ?_, q⟩
    have big : s1.heap.objs.size ≤ b := by
      rcases (show b = s1.heap.objs.size + 1 ∨ b = s1.heap.objs.size by simpa using hb) with z | z
      · rw [z]; exact Nat.le_add_right _ _
      · rw [z]; exact Nat.le_refl _
    exact I1.fpOk big (I1.hok.fresh big)
theorem walk_enumT {K : PySem.W.Frag} {a : Addr} {xs : List V} : Walk (IteT K a) xs.length (fun H => SqT K H a xs) (YPair (fun i => some (.int (i : Nat))) (fun i => xs[i]?)) :=
  ⟨fun i _ hi q => ⟨xs, xs[i], q, by simp [hi]⟩, fun _ q => ⟨xs, q, Nat.le_refl _⟩, fun i H v H' _ q y => by
    obtain ⟨T, x, h1, h2, h3, h4⟩ := y
    exact ⟨T, .int (i : Nat), x, h1, h2, h3, rfl, h4 xs q⟩⟩
end Enu

set_option Elab.async false
set_option linter.all false
set_option maxRecDepth 100000
namespace My
open PySem L2
/-! ### two values that are the same in all their parts -/
def flatv : V → Bool
  | .non => true
  | .bl _ => true
  | .int _ => true
  | .str _ => true
  | _ => false
def Tw (K : PySem.W.Frag) (H : Hp) : Nat → V → V → Prop
  | 0, _, _ => False
  | n + 1, v, u => (v = u ∧ flatv v = true) ∨ (∃ (a : Addr) (kvs : List (Key × V)), v = .ref a ∧ u = .ref a ∧ H a = some (.dK kvs) ∧ (kvs.map (·.1)).Nodup ∧ ∀ p ∈ kvs, flatB p.2 = true) ∨
    (∃ (a b : Addr) (xs ys : List V), v = .ref a ∧ u = .ref b ∧ SqT K H a xs ∧ SqT K H b ys ∧ xs.length ≤ 1000 ∧ Paired (Tw K H n) xs ys) ∨
    (∃ (a b : Addr) (xs ys : List V), v = .ref a ∧ u = .ref b ∧ SqL K H a xs ∧ SqL K H b ys ∧ xs.length ≤ 1000 ∧ Paired (Tw K H n) xs ys)
theorem paired_imp {α β : Type} {r s : α → β → Prop} (h : ∀ x y, r x y → s x y) : ∀ {xs : List α} {ys : List β}, Paired r xs ys → Paired s xs ys
  | _, _, .nil => .nil
  | _, _, .cons a b => .cons (h _ _ a) (paired_imp h b)
theorem paired_at {α β : Type} {r : α → β → Prop} : ∀ {xs : List α} {ys : List β} {i : Nat} {x : α} {y : β}, Paired r xs ys → xs[i]? = some x → ys[i]? = some y → r x y
  | _, _, _, _, _, .nil, e, _ => by simp at e
  | _, _, 0, _, _, .cons a _, e1, e2 => by
    simp at e1 e2
    rw [← e1, ← e2]
    exact a
  | _, _, i + 1, _, _, .cons _ b, e1, e2 => paired_at (i := i) b (by simpa using e1) (by simpa using e2)
variable {K : PySem.W.Frag}
theorem tw_same {H H' : Hp} (s : Same H H') : ∀ {n : Nat} {v u : V}, Tw K H n v u → Tw K H' n v u
  | 0, _, _, h => h
  | n + 1, v, u, h => by
    rcases h with h | ⟨a, kvs, e1, e2, ha, h1, h2⟩ | ⟨a, b, xs, ys, e1, e2, sa, sb, hl, hp⟩ | ⟨a, b, xs, ys, e1, e2, sa, sb, hl, hp⟩
    · exact .inl h
    · exact .inr (.inl ⟨a, kvs, e1, e2, s _ _ ha, h1, h2⟩)
    · exact .inr (.inr (.inl ⟨a, b, xs, ys, e1, e2, seqT_same s sa, seqT_same s sb, hl, paired_imp (fun _ _ => tw_same s) hp⟩))
    · exact .inr (.inr (.inr ⟨a, b, xs, ys, e1, e2, s.seq sa, s.seq sb, hl, paired_imp (fun _ _ => tw_same s) hp⟩))
theorem tw_mono {H : Hp} : ∀ {n m : Nat} {v u : V}, n ≤ m → Tw K H n v u → Tw K H m v u
  | 0, _, _, _, _, h => h.elim
  | n + 1, 0, _, _, hm, _ => absurd hm (by omega)
  | n + 1, m + 1, v, u, hm, h => by
    have le : n ≤ m := by omega
    rcases h with h | h | ⟨a, b, xs, ys, e1, e2, sa, sb, hl, hp⟩ | ⟨a, b, xs, ys, e1, e2, sa, sb, hl, hp⟩
    · exact .inl h
    · exact .inr (.inl h)
    · exact .inr (.inr (.inl ⟨a, b, xs, ys, e1, e2, sa, sb, hl, paired_imp (fun _ _ => tw_mono le) hp⟩))
    · exact .inr (.inr (.inr ⟨a, b, xs, ys, e1, e2, sa, sb, hl, paired_imp (fun _ _ => tw_mono le) hp⟩))
theorem widAll_cons {d : PyData} {ds : List PyData} (h : widAll (d :: ds) = true) : widD d = true ∧ widAll ds = true := by
  unfold widAll at h
  exact Bool.and_eq_true_iff.mp h
mutual
theorem tw_dp {H : Hp} : ∀ (D : PyData) (v u : V), widD D = true → Dp K H v D → Dp K H u D → Tw K H (D.depth + 1) v u
  | .none, _, _, _, h, g => by cases h; cases g; exact .inl ⟨rfl, rfl⟩
  | .bool b, _, _, _, h, g => by cases h; cases g; exact .inl ⟨rfl, rfl⟩
  | .int i, _, _, _, h, g => by cases h; cases g; exact .inl ⟨rfl, rfl⟩
  | .str x, _, _, _, h, g => by cases h; cases g; exact .inl ⟨rfl, rfl⟩
  | .list ds, _, _, s, h, g => by
    unfold widD at s
    obtain ⟨s1, s2⟩ := Bool.and_eq_true_iff.mp s
    cases h with
    | lst hs ha =>
    cases g with
    | lst gs ga =>
      simp only [PyData.depth]
      exact .inr (.inr (.inr ⟨_, _, _, _, rfl, rfl, hs, gs, by rw [dpAll_len ha]; exact of_decide_eq_true s1, tw_dpAll ds _ _ s2 ha ga⟩))
  | .tuple ds, _, _, s, h, g => by
    unfold widD at s
    obtain ⟨s1, s2⟩ := Bool.and_eq_true_iff.mp s
    cases h with
    | tup hs ha =>
    cases g with
    | tup gs ga =>
      simp only [PyData.depth]
      exact .inr (.inr (.inl ⟨_, _, _, _, rfl, rfl, hs, gs, by rw [dpAll_len ha]; exact of_decide_eq_true s1, tw_dpAll ds _ _ s2 ha ga⟩))
  | .dict _, _, _, _, h, _ => by cases h
theorem tw_dpAll {H : Hp} : ∀ (ds : List PyData) (xs ys : List V), widAll ds = true → DpAll K H xs ds → DpAll K H ys ds → Paired (Tw K H (PyData.depthAll ds + 1)) xs ys
  | [], _, _, _, h, g => by cases h; cases g; exact .nil
  | d :: ds, _, _, s, h, g => by
    obtain ⟨s1, s2⟩ := widAll_cons s
    cases h with
    | cons h1 h2 =>
    cases g with
    | cons g1 g2 =>
      have a := tw_dp d _ _ s1 h1 g1
      have b := tw_dpAll ds _ _ s2 h2 g2
      simp only [PyData.depthAll]
      exact .cons (tw_mono (by omega) a) (paired_imp (fun _ _ => tw_mono (by omega)) b)
end

/-! ### rules -/
/-- of a kind, wherever all stays -/
structure TyS (K : PySem.W.Frag) (H : Hp) (v : V) (g : String) : Prop where
  same : ∀ {H'}, Same H H' → TyX K H' v (.type g)
theorem tyT {H : Hp} {a : Addr} {xs : List V} (h : SqT K H a xs) : TyS K H (.ref a) "tuple" := ⟨fun s => by
  rcases seqT_same s h with (hs | ⟨o, hs⟩) | ⟨o, its, n, lk, c, _⟩
  · exact .base (.tup hs)
  · exact .fTuple hs
  · exact .kTuple lk c⟩
theorem tyL {H : Hp} {a : Addr} {xs : List V} (h : SqL K H a xs) : TyS K H (.ref a) "list" := ⟨fun s => by
  rcases s.seq h with (hs | ⟨o, hs⟩) | ⟨o, its, n, lk, c, _⟩
  · exact .base (.lst hs)
  · exact .base (.frz hs)
  · exact .kList lk c⟩
theorem op_orR {X : Cx} {f : Value → Value → Sem Value} {r1 r2 : R2} (a : OpR X f r1) (b : OpR X f r2) : OpR X f (fun x y H Q => r1 x y H Q ∨ r2 x y H Q) := fun pins s σ H x y v u Q I rx ry h =>
  h.elim (a pins s σ H x y v u Q I rx ry) (b pins s σ H x y v u Q I rx ry)
theorem kit2 {g : String} {b1 b2 : Bool} (h1 : kitB g "tuple" = some b1) (h2 : kitB g "list" = some b2) : PySem.W.kitAny K (.type g) [.type "tuple", .type "list"] = some (b1 || b2) := by
  cases b1 with
  | true => exact kitAny_cons (kit_ty h1) (fun z => nomatch z) fun _ => rfl
  | false =>
    refine kitAny_cons (kit_ty h1) (fun _ => ?_) fun z => nomatch z
    cases b2 with
    | true => exact kitAny_cons (kit_ty h2) (fun z => nomatch z) fun _ => rfl
    | false => exact kitAny_cons (kit_ty h2) (fun _ => kitAny_nil) fun z => nomatch z
theorem all_tt (n : Nat) : (List.replicate n true).all id = true := by
  rw [List.all_eq_true]
  intro x h
  rw [List.eq_of_mem_replicate h]
  rfl
theorem same_at {H H' : Hp} {D : Addr} {o : HO} (s : Same H H') (n : H D = none) : Same H (upd H' D o) := fun c u e => by
  rw [upd_ne (ne_of_none e n)]
  exact s c u e
theorem kTs : PySem.W.kitAny K (.type "tuple") [.type "tuple", .type "list"] = some true := kit2 (g := "tuple") (b1 := true) (b2 := false) (by decide +kernel) (by decide +kernel)
theorem kLs : PySem.W.kitAny K (.type "list") [.type "tuple", .type "list"] = some true := kit2 (g := "list") (b1 := false) (b2 := true) (by decide +kernel) (by decide +kernel)
theorem kTT : PySem.W.kitOne K (.type "tuple") (.type "tuple") = some true := kit_ty (by decide +kernel)
theorem kTL : PySem.W.kitOne K (.type "tuple") (.type "list") = some false := kit_ty (by decide +kernel)
theorem kLT : PySem.W.kitOne K (.type "list") (.type "tuple") = some false := kit_ty (by decide +kernel)
theorem kLL : PySem.W.kitOne K (.type "list") (.type "list") = some true := kit_ty (by decide +kernel)
/-- the tuples that zip goes over, their items in new pairs -/
theorem walk_zipT {a b : Addr} {xs ys : List V} (hl : xs.length = ys.length) : Walk (RZ.ItzT K a b) xs.length (fun H => SqT K H a xs ∧ SqT K H b ys) (YPair (fun i => xs[i]?) (fun i => ys[i]?)) := by
  refine ⟨fun i H hi q => ?_, fun H q => ⟨xs, ys, q.1, q.2, .inl (Nat.le_refl _)⟩, fun i H v H' _ q y => ?_⟩
  · exact ⟨xs, ys, xs[i], ys[i]'(by omega), q.1, q.2, List.getElem?_eq_getElem hi, List.getElem?_eq_getElem (by omega)⟩
  · obtain ⟨T, x, z, e1, n, e2, f1, f2⟩ := y
    exact ⟨T, x, z, e1, n, e2, f1 xs q.1, f2 ys q.2⟩
abbrev s_law_same : Stmt := top 40
abbrev N_law_same : List Str := ["_law_told", "_law_due", "_law_one", "_law_other"]
abbrev P_law_same : List Str := ["_law_told", "_law_due"]
theorem sc_law_same : FnScope N_law_same P_law_same (defScope s_law_same) := ⟨rfl, rfl, rfl, by decide +kernel, rfl, by decide +kernel, by decide +kernel⟩
def spSame (K : PySem.W.Frag) (n : Nat) : Sp := fun vs H Q _ => ∃ v u : V, vs = [v, u] ∧ Tw K H n v u ∧ ∀ H', Same H H' → Q (.bl true) H'
section
variable {P : Program} {w : World} {mg : Str → Option Value} {base : Heap} {f : Addr} {fd : FuncData}
theorem ok_law_same {n : Nat} (T : Txt K mg) (zip : mg "zip" = none) (F : Fun K "_law_same" "_law_same" s_law_same f fd) (C_law_same : Cal P w K mg base "_law_same" (1 + n) P_law_same (spSame K n)) :
    FnOk P w K mg base CX0 (1 + n + 1) f fd P_law_same (spSame K (n + 1)) := by
  refine F.ok sc_law_same (fun vs H Q E h => ?_) (fun cdv A outer s H vs Q E hr h => ?_)
  · obtain ⟨v, u, rfl, _⟩ := h
    rfl
  obtain ⟨v, u, rfl, h, q⟩ := h
  have hu : A.units + 3 < cLine := by
    have := hr.un
    exact Nat.lt_of_le_of_lt (by show A.units + 3 ≤ A.units + 3 + 16 * (1 + n) + 200; omega) this
  refine ⟨_, (pss_cons (ps_if (pt_val (pe_callB call_isiT rfl T.isinstance (by decide +kernel) (pa_cons (pv 1) (pa_cons (pe_tup (pa_cons (pe_bltn (v := .ty "tuple") rfl T.tuple (by decide +kernel) rfl) (pa_cons (pe_bltn (v := .ty "list") rfl T.list (by decide +kernel) rfl) pa_nil))) pa_nil))))
    (pss_cons (ps_if (PW.pt (pw_or (pt_cmpR op_ne (pe_callB call_isi rfl T.isinstance (by decide +kernel) (pa_cons (pv 0) (pa_cons (pe_bltn (v := .ty "tuple") rfl T.tuple (by decide +kernel) rfl) pa_nil))) (pe_callB call_isi rfl T.isinstance (by decide +kernel) (pa_cons (pv 1) (pa_cons (pe_bltn (v := .ty "tuple") rfl T.tuple (by decide +kernel) rfl) pa_nil))) (nomark _)) (pw_or1 (pt_cmpR op_ne (pe_callB call_isi rfl T.isinstance (by decide +kernel) (pa_cons (pv 0) (pa_cons (pe_bltn (v := .ty "list") rfl T.list (by decide +kernel) rfl) pa_nil))) (pe_callB call_isi rfl T.isinstance (by decide +kernel) (pa_cons (pv 1) (pa_cons (pe_bltn (v := .ty "list") rfl T.list (by decide +kernel) rfl) pa_nil))) (nomark _)))))
      (pss_one (ps_ret pe_bl))
      pss_nil)
    (pss_one (ps_ret (pe_and (pe_cmpR op_eq (pe_callB call_len rfl T.len (by decide +kernel) (pa_cons (pv 0) pa_nil)) (pe_callB call_len rfl T.len (by decide +kernel) (pa_cons (pv 1) pa_nil)) (nomark _)) (pe_one (pe_callB (cr_all rfl) rfl T.all (by decide +kernel) (pa_cons (pe_lc (own := [("_law_one", 2), ("_law_other", 3)]) (g := gTup K 2 (gCons (gName 2) (gCons (gName 3) gNil))) rfl sc_law_same.nd (RZ.pi_zipA rfl zip (pa_cons (pv 0) (pa_cons (pv 1) pa_nil))) (blkOk_by (own := [("_law_one", 2), ("_law_other", 3)]) (N := N_law_same) (sc := defScope s_law_same) (by decide +kernel)) (fun _ _ _ _ _ => (pg_tup rfl (pgs_cons (pg_name (i := 2) sc_law_same.nd rfl (Or.inl rfl)) (pgs_cons (pg_name (i := 3) sc_law_same.nd rfl (Or.inl rfl)) pgs_nil)))) (fun _ _ _ _ _ => pts_nil) (fun _ _ _ _ _ => (pe_callC C_law_same hr (pa_cons (pv 2) (pa_cons (pv 3) pa_nil))))) pa_nil)))))))
    pss_nil)
  (pss_one (ps_ret (pe_and (pe_cmpR op_eq (pe_callB call_isi rfl T.isinstance (by decide +kernel) (pa_cons (pv 0) (pa_cons (pe_bltn (v := .ty "bool") rfl T.bool (by decide +kernel) rfl) pa_nil))) (pe_callB call_isi rfl T.isinstance (by decide +kernel) (pa_cons (pv 1) (pa_cons (pe_bltn (v := .ty "bool") rfl T.bool (by decide +kernel) rfl) pa_nil))) (nomark _)) (pe_one (pe_cmpR (op_orR op_eq (op_eq_dict hu)) (pv 0) (pv 1) (nomark _))))))), ?_⟩
  have kinds : (∃ (g : String) (b : Bool), kitB g "tuple" = some false ∧ kitB g "list" = some false ∧ kitB g "bool" = some b ∧ (∀ H', Same H H' → TyX K H' v (.type g)) ∧ (∀ H', Same H H' → TyX K H' u (.type g)) ∧
      ((scal v u = true ∧ v = u) ∨ ∃ (a : Addr) (kvs : List (Key × V)), v = .ref a ∧ u = .ref a ∧ H a = some (.dK kvs) ∧ (kvs.map (·.1)).Nodup ∧ ∀ p ∈ kvs, flatB p.2 = true)) ∨
      (∃ (a b : Addr) (xs ys : List V), v = .ref a ∧ u = .ref b ∧ SqT K H a xs ∧ SqT K H b ys ∧ xs.length ≤ 1000 ∧ Paired (Tw K H n) xs ys) ∨
      (∃ (a b : Addr) (xs ys : List V), v = .ref a ∧ u = .ref b ∧ SqL K H a xs ∧ SqL K H b ys ∧ xs.length ≤ 1000 ∧ Paired (Tw K H n) xs ys) := by
    rcases h with ⟨rfl, fl⟩ | ⟨a, kvs, rfl, rfl, ha, h1, h2⟩ | h | h
    · refine .inl ?_
      cases v with
      | non => exact ⟨"NoneType", false, by decide +kernel, by decide +kernel, by decide +kernel, fun _ _ => .base .non, fun _ _ => .base .non, .inl ⟨rfl, rfl⟩⟩
      | bl b => exact ⟨"bool", true, by decide +kernel, by decide +kernel, by decide +kernel, fun _ _ => .base (.bl b), fun _ _ => .base (.bl b), .inl ⟨rfl, rfl⟩⟩
      | int b => exact ⟨"int", false, by decide +kernel, by decide +kernel, by decide +kernel, fun _ _ => .base (.int b), fun _ _ => .base (.int b), .inl ⟨rfl, rfl⟩⟩
      | str b => exact ⟨"str", false, by decide +kernel, by decide +kernel, by decide +kernel, fun _ _ => .base (.str b), fun _ _ => .base (.str b), .inl ⟨rfl, rfl⟩⟩
      | _ => cases fl
    · exact .inl ⟨"dict", false, by decide +kernel, by decide +kernel, by decide +kernel, fun _ s => .base (.dK (s _ _ ha)), fun _ s => .base (.dK (s _ _ ha)), .inr ⟨a, kvs, rfl, rfl, ha, h1, h2⟩⟩
    · exact .inr (.inl h)
    · exact .inr (.inr h)
  refine ⟨u, rfl, by show 2 ≤ sizeLine; decide, fun tp np => ?_⟩
  have s1 := same_new np (.tup [.ty "tuple", .ty "list"])
  rcases kinds with ⟨g, b, h1, h2, h3, tv, tu, he⟩ | ⟨a, b, xs, ys, rfl, rfl, sa, sb, hl, hp⟩ | ⟨a, b, xs, ys, rfl, rfl, sa, sb, hl, hp⟩
  · refine ⟨u, tp, [.ty "tuple", .ty "list"], .type g, [.type "tuple", .type "list"], false, rfl, upd_same, .cons (.ty _) (.cons (.ty _) .nil), tu _ s1, kit2 h1 h2, false, rfl, ?_⟩
    refine ⟨v, rfl, _, _, _, _, _, rfl, .ty "bool", tv _ s1, kit_ty h3, u, rfl, _, _, _, _, _, rfl, .ty "bool", tu _ s1, kit_ty h3, rfl, ?_⟩
    rw [decide_eq_true rfl]
    refine ⟨true, rfl, iteT ⟨v, rfl, u, rfl, ?_⟩⟩
    rcases he with ⟨sc, rfl⟩ | ⟨a, kvs, rfl, rfl, ha, nd, fl⟩
    · refine .inl ⟨sc, ?_⟩
      rw [decide_eq_true rfl]
      exact q _ s1
    · exact .inr ⟨a, a, kvs, rfl, rfl, s1 _ _ ha, s1 _ _ ha, nd, fl, q _ s1⟩
  · have ta := tyT sa
    have tb := tyT sb
    refine ⟨_, tp, [.ty "tuple", .ty "list"], .type "tuple", [.type "tuple", .type "list"], true, rfl, upd_same, .cons (.ty _) (.cons (.ty _) .nil), tb.same s1, kTs, true, rfl, ?_⟩
    refine ⟨_, rfl, _, _, _, _, _, rfl, .ty "tuple", ta.same s1, kTT, _, rfl, _, _, _, _, _, rfl, .ty "tuple", tb.same s1, kTT, rfl, false, rfl, ?_⟩
    refine ⟨_, rfl, _, _, _, _, _, rfl, .ty "list", ta.same s1, kTL, _, rfl, _, _, _, _, _, rfl, .ty "list", tb.same s1, kTL, rfl, false, rfl, ?_⟩
    have ll := Paired.length hp
    refine ⟨_, rfl, _, _, rfl, .inr ⟨xs, seqT_same s1 sa, rfl⟩, _, rfl, _, _, rfl, .inr ⟨ys, seqT_same s1 sb, rfl⟩, rfl, ?_⟩
    rw [ll, decide_eq_true rfl]
    refine ⟨true, rfl, iteT ?_⟩
    refine ⟨_, rfl, _, rfl, a, b, xs, ys, rfl, .inr ⟨seqT_same s1 sa, seqT_same s1 sb, fun D nD => ?_⟩⟩
    have s2 := s1.trans (same_new nD (.lst []))
    have nH : H D = none := by
      cases e : H D with
      | none => rfl
      | some o => rw [s1 _ _ e] at nD; cases nD
    refine lc_it (walk_zipT ll) (fun i H' => Same H H' ∧ H' D = some (.lst ((List.replicate i true).map V.bl))) ⟨s2, upd_same⟩ (fun i H' _ p => ⟨seqT_same p.1 sa, seqT_same p.1 sb⟩) (fun i x H1 H2 hi p y => ?_) fun H' p => ?_
    · obtain ⟨t, y1, y2, rfl, nt, rfl, e1, e2⟩ := y
      have s3 := p.1.trans (same_new nt (.tup [y1, y2]))
      have td : t ≠ D := fun z => by
        rw [z, p.2] at nt
        cases nt
      refine ⟨t, [y1, y2], rfl, .inl (.inl upd_same), rfl, y1, [y2], rfl, y2, [], rfl, rfl, rfl, ?_⟩
      refine ⟨_, rfl, _, rfl, y1, y2, rfl, tw_same s3 (paired_at hp e1 e2), fun H4 s4 => ⟨_, s4 D _ (by rw [upd_ne (Ne.symm td)]; exact p.2), small1000 (by rw [List.length_map, List.length_replicate]; omega), same_at (s3.trans s4) nH, ?_⟩⟩
      rw [upd_same, List.replicate_succ', List.map_append]
      rfl
    · refine ⟨D, List.replicate xs.length true, rfl, SqL.of p.2, ?_⟩
      rw [all_tt]
      exact q H' p.1
  · have ta := tyL sa
    have tb := tyL sb
    refine ⟨_, tp, [.ty "tuple", .ty "list"], .type "list", [.type "tuple", .type "list"], true, rfl, upd_same, .cons (.ty _) (.cons (.ty _) .nil), tb.same s1, kLs, true, rfl, ?_⟩
    refine ⟨_, rfl, _, _, _, _, _, rfl, .ty "tuple", ta.same s1, kLT, _, rfl, _, _, _, _, _, rfl, .ty "tuple", tb.same s1, kLT, rfl, false, rfl, ?_⟩
    refine ⟨_, rfl, _, _, _, _, _, rfl, .ty "list", ta.same s1, kLL, _, rfl, _, _, _, _, _, rfl, .ty "list", tb.same s1, kLL, rfl, false, rfl, ?_⟩
    have ll := Paired.length hp
    refine ⟨_, rfl, _, _, rfl, .inl ⟨xs, s1.seq sa, rfl⟩, _, rfl, _, _, rfl, .inl ⟨ys, s1.seq sb, rfl⟩, rfl, ?_⟩
    rw [ll, decide_eq_true rfl]
    refine ⟨true, rfl, iteT ?_⟩
    refine ⟨_, rfl, _, rfl, a, b, xs, ys, rfl, .inl ⟨s1.seq sa, s1.seq sb, fun D nD => ?_⟩⟩
    have s2 := s1.trans (same_new nD (.lst []))
    have nH : H D = none := by
      cases e : H D with
      | none => rfl
      | some o => rw [s1 _ _ e] at nD; cases nD
    refine lc_it (walk_zip (by rw [← ll, Nat.min_self])) (fun i H' => Same H H' ∧ H' D = some (.lst ((List.replicate i true).map V.bl))) ⟨s2, upd_same⟩ (fun i H' _ p => ⟨p.1.seq sa, p.1.seq sb⟩) (fun i x H1 H2 hi p y => ?_) fun H' p => ?_
    · obtain ⟨t, y1, y2, rfl, nt, rfl, e1, e2⟩ := y
      have s3 := p.1.trans (same_new nt (.tup [y1, y2]))
      have td : t ≠ D := fun z => by
        rw [z, p.2] at nt
        cases nt
      refine ⟨t, [y1, y2], rfl, .inl (.inl upd_same), rfl, y1, [y2], rfl, y2, [], rfl, rfl, rfl, ?_⟩
      refine ⟨_, rfl, _, rfl, y1, y2, rfl, tw_same s3 (paired_at hp e1 e2), fun H4 s4 => ⟨_, s4 D _ (by rw [upd_ne (Ne.symm td)]; exact p.2), small1000 (by rw [List.length_map, List.length_replicate]; omega), same_at (s3.trans s4) nH, ?_⟩⟩
      rw [upd_same, List.replicate_succ', List.map_append]
      rfl
    · refine ⟨D, List.replicate xs.length true, rfl, SqL.of p.2, ?_⟩
      rw [all_tt]
      exact q H' p.1
end
end My

set_option Elab.async false
set_option linter.all false
set_option maxRecDepth 100000
namespace My
open PySem L2
/-! ### own errors with one field -/
def meth (i j : Nat) : Stmt := (C8.clsBody (top i)).getD j (.Pass ⟨0, 0, 0, 0⟩)
def spInit (K : PySem.W.Frag) (C : Addr) (fld : Str) : Sp := fun vs H Q _ => ∃ (a : Addr) (v : V), vs = [.ref a, v] ∧ H a = some (exo a C none) ∧ OexC K C ∧ PySem.W.findIn K (.ref C) fld = some none ∧
  ∀ dx, H dx = none → dx ≠ a → Q .non (upd (upd H dx (exd dx [(fld, v)])) a (exo a C (some dx)))
structure OneE (P : Program) (w : World) (K : PySem.W.Frag) (mg : Str → Option Value) (base : Heap) (x fld : Str) (C : Addr) where
  oex : OexC K C
  xf : XfC K C
  no : PySem.W.findIn K (.ref C) fld = some none
  g : mg x = some (.ref C)
  fI : Addr
  fd : FuncData
  iC : PySem.W.findIn K (.ref C) "__init__" = some (some (.ref fI))
  tI : PySem.W.typeIn K (.ref fI) = some (.type "function")
  b : Binds K fd ["self", fld] []
  F : FnOk P w K mg base CX0 1 fI fd ["self", fld] (spInit K C fld)
section
variable {P : Program} {w : World} {K : PySem.W.Frag} {mg : Str → Option Value} {base : Heap} {f : Addr} {fd : FuncData}
theorem sc_i2 : FnScope ["self", "value"] ["self", "value"] (defScope (meth 2 0)) := ⟨rfl, rfl, rfl, by decide +kernel, rfl, by decide +kernel, by decide +kernel⟩
theorem ok_i2 (C : Addr) (F : Fun K "__init__" "BadValue.__init__" (meth 2 0) f fd) : FnOk P w K mg base CX0 1 f fd ["self", "value"] (spInit K C "value") := by
  refine F.ok sc_i2 (fun vs H Q E h => ?_) (fun cdv A outer s H vs Q E hr h => ?_)
  · obtain ⟨a, v, rfl, _⟩ := h
    rfl
  obtain ⟨a, v, rfl, ea, T, no, q⟩ := h
  refine ⟨_, pss_one (ps_ost (pv 0) (pv 1)), ?_⟩
  exact ⟨v, rfl, _, rfl, a, C, rfl, T, no, .inl ⟨ea, fun dx n ne => q dx n ne⟩⟩
end
section
variable {X : Cx} {x fld : Str} {C : Addr}
theorem exo_exd_ne {e C' : Addr} {d : Option Addr} : True := trivial
/-- C(v): the error's dict d is new, all else is as it was -/
theorem mk_one {K : PySem.W.Frag} {H1 : Hp} {v : V} {Q : XK} (T : OexC K C) (no : PySem.W.findIn K (.ref C) fld = some none) (q : ∀ d, H1 d = none → Q (.ref C) (some d) (upd H1 d (.xd [(fld, v)]))) :
    [v].length ≤ 1000 ∧ ∀ a, H1 a = none → spInit K C fld (.ref a :: ([v] ++ [])) (upd H1 a (exo a C none))
      (fun r H2 => r = .non ∧ ∃ (d : Addr) (fs : List (Str × V)), H2 a = some (exo a C (some d)) ∧ H2 d = some (exd d fs) ∧ H1 d = none ∧ Q (.ref C) (some d) (upd (L2.del H2 a) d (.xd fs))) (fun _ _ _ => False) := by
  refine ⟨by show 1 ≤ 1000; decide, fun a na => ⟨a, v, rfl, upd_same, T, no, fun dx nx ne => ⟨rfl, dx, [(fld, v)], upd_same, by rw [upd_ne ne, upd_same], by rw [upd_ne ne] at nx; exact nx, ?_⟩⟩⟩
  have n1 : H1 dx = none := by
    rw [upd_ne ne] at nx
    exact nx
  have e : upd (L2.del (upd (upd (upd H1 a (exo a C none)) dx (exd dx [(fld, v)])) a (exo a C (some dx))) a) dx (.xd [(fld, v)]) = upd H1 dx (.xd [(fld, v)]) := by
    funext b
    by_cases h1 : b = dx
    · rw [h1, upd_same, upd_same]
    · rw [upd_ne h1, upd_ne h1]
      by_cases h2 : b = a
      · rw [h2, L2.del_same, na]
      · rw [L2.del_ne h2, upd_ne h2, upd_ne h1, upd_ne h2]
  rw [e]
  exact q dx n1
theorem pass00 {X : Cx} : Passes CX0 X (fun _ _ _ => False) := fun _ _ _ _ _ _ _ h => h.elim
/-- raise x(e) -/
theorem ps_raise1 {W : WX} {e : Expr} {te : TE} {p pos pos2 : Pos} {k : Nat} (O : OneE X.prog X.w X.K X.mg X.base x fld C) (hc : X.calm = true) (hr : Room (k + 2) X.A) (tk : Takes X W) (he : PE X e te) (hg : Gl X x := by rfl)
    (hdb : (x == ("__debug__" : Str)) = false := by decide) (h1 : starEach (e :: []) X.env = (false, eval e X.env) :: starEach [] X.env := by rfl) (h2 : (backTo pos (starEach [] X.env)).any (·.1) = false := by rfl) :
    PS X (.Raise (some (.Call (.Name x p) [e] [] pos)) none pos2) (fun _ σ H => tMkO C (spInit X.K C fld) [] (tCons te tNil) σ H fun cls d H' => W cls d σ H') :=
  ps_raise hc tk (pmk_oex O.oex O.iC O.tI O.F (hr.mono (by omega)) O.b .nil pass00 hg O.g (pa_cons he pa_nil h1) hdb h1 h2)
end

/-! ### what is raised, told -/
structure ErrT (K : PySem.W.Frag) (mg : Str → Option Value) where
  B : Addr
  N : Addr
  D : Addr
  M : Addr
  gB : mg "BadValue" = some (.ref B)
  gN : mg "NotAText" = some (.ref N)
  gD : mg "TooDeep" = some (.ref D)
  gM : mg "TooMany" = some (.ref M)
  xB : XfC K B
  xN : XfC K N
  xD : XfC K D
  xM : XfC K M
  nB : PySem.W.findIn K (.ref B) "value" = some none
  nN : PySem.W.findIn K (.ref N) "at" = some none
  nD : PySem.W.findIn K (.ref D) "most" = some none
  nM : PySem.W.findIn K (.ref M) "most" = some none
  BB : PySem.W.exmOne K (.ref B) (.ref B) = some true
  NB : PySem.W.exmOne K (.ref N) (.ref B) = some false
  NN : PySem.W.exmOne K (.ref N) (.ref N) = some true
  DB : PySem.W.exmOne K (.ref D) (.ref B) = some false
  DN : PySem.W.exmOne K (.ref D) (.ref N) = some false
  DD : PySem.W.exmOne K (.ref D) (.ref D) = some true
  MB : PySem.W.exmOne K (.ref M) (.ref B) = some false
  MN : PySem.W.exmOne K (.ref M) (.ref N) = some false
  MD : PySem.W.exmOne K (.ref M) (.ref D) = some false
  MM : PySem.W.exmOne K (.ref M) (.ref M) = some true
/-- of which class, in which field, told with which word -/
def ErrW {K : PySem.W.Frag} {mg : Str → Option Value} (T : ErrT K mg) (C : Addr) (fld word : Str) : Prop :=
  (C = T.B ∧ fld = "value" ∧ word = "value") ∨ (C = T.N ∧ fld = "at" ∧ word = "text") ∨ (C = T.D ∧ fld = "most" ∧ word = "deep") ∨ (C = T.M ∧ fld = "most" ∧ word = "many")
/-- as Does, whatever is wished beyond -/
def DoesM (P : Program) (w : World) (K : PySem.W.Frag) (mg : Str → Option Value) (base : Heap) (k : Nat) (v : V) (H : Hp) (Q : VK) (E : XK) : Prop :=
  ∃ (f : Addr) (fo : Obj) (tl : Hp → VK → XK → Prop), v = .ref f ∧ Clo.FnObj fo ∧ H f = some (Clo.Pin f fo) ∧ Clo.Act P w K mg base k f tl ∧
    ∀ (Q' : VK) (E' : XK), (∀ v H', Q v H' → Q' v H') → (∀ c d H', E c d H' → E' c d H') → tl H Q' E'
theorem DoesM.does {P : Program} {w : World} {K : PySem.W.Frag} {mg : Str → Option Value} {base : Heap} {j k : Nat} {v : V} {H : Hp} {Q Q' : VK} {E E' : XK} (d : DoesM P w K mg base j v H Q E) (le : j ≤ k) (h1 : ∀ v H', Q v H' → Q' v H') (h2 : ∀ c d H', E c d H' → E' c d H') :
    Clo.Does P w K mg base k v H Q' E' := by
  obtain ⟨f, fo, tl, e, n, p, a, t⟩ := d
  exact ⟨f, fo, tl, e, n, p, a.mono le, t Q' E' h1 h2⟩
def wishE {K : PySem.W.Frag} {mg : Str → Option Value} (T : ErrT K mg) (Q : VK) : XK := fun cls d H' => ∃ (C dd : Addr) (fld word : Str) (x : V), cls = .ref C ∧ d = some dd ∧ ErrW T C fld word ∧ H' dd = some (.xd [(fld, x)]) ∧ ∀ p, H' p = none → Q (.ref p) (upd H' p (.tup [.str word, x]))
theorem lookup1 (f : Str) (v : V) : List.lookup f [(f, v)] = some v := by simp [List.lookup]
def spFault (P : Program) (w : World) (K : PySem.W.Frag) (mg : Str → Option Value) (base : Heap) (T : ErrT K mg) (k : Nat) : Sp := fun vs H Q _ => ∃ v, vs = [v] ∧ DoesM P w K mg base k v H (fun _ H' => Q .non H') (wishE T Q)
abbrev s_law_fault : Stmt := top 41
abbrev N_law_fault : List Str := ["_law_deed", "_law_told", "e"]
abbrev P_law_fault : List Str := ["_law_deed"]
theorem sc_law_fault : FnScope N_law_fault P_law_fault (defScope s_law_fault) := ⟨rfl, rfl, rfl, by decide +kernel, rfl, by decide +kernel, by decide +kernel⟩
section
variable {P : Program} {w : World} {K : PySem.W.Frag} {mg : Str → Option Value} {base : Heap} {f : Addr} {fd : FuncData}
theorem ok_law_fault {k : Nat} (T : ErrT K mg) (F : Fun K "_law_fault" "_law_fault" s_law_fault f fd) : FnOk P w K mg base CX0 (k + 1) f fd P_law_fault (spFault P w K mg base T k) := by
  refine F.ok sc_law_fault (fun vs H Q E h => ?_) (fun cdv A outer s H vs Q E hr h => ?_)
  · obtain ⟨v, rfl, _⟩ := h
    rfl
  obtain ⟨v, rfl, h⟩ := h
  refine ⟨_, (pss_cons (ps_set (i := 1) sc_law_fault.nd rfl (Or.inl rfl) pe_non)
  (pss_cons (Clo.ps_try_nam (i := 2) (tb := fun W => tDrop (Clo.tAct P w K mg base 0 k (WE W))) rfl rfl sc_law_fault.nd rfl rfl takes0 (fun W pn xe tk _ => pss_one (ps_expr (Clo.pe_act3 (i := 0) (E := WE W) hr (fun σ => passAt tk σ) rfl (Or.inl rfl))))
    (.cons ⟨rfl, by decide, .inl T.gB⟩ (fun a oe cls d pn hz hf => pss_one (ps_set (i := 1) sc_law_fault.nd rfl (Or.inl rfl) (pe_tup (pa_cons pe_str (pa_cons (pe_xf T.xB T.nB hz hf (pv 2)) pa_nil)))))
    (.cons ⟨rfl, by decide, .inl T.gN⟩ (fun a oe cls d pn hz hf => pss_one (ps_set (i := 1) sc_law_fault.nd rfl (Or.inl rfl) (pe_tup (pa_cons pe_str (pa_cons (pe_xf T.xN T.nN hz hf (pv 2)) pa_nil)))))
    (.cons ⟨rfl, by decide, .inl T.gD⟩ (fun a oe cls d pn hz hf => pss_one (ps_set (i := 1) sc_law_fault.nd rfl (Or.inl rfl) (pe_tup (pa_cons pe_str (pa_cons (pe_xf T.xD T.nD hz hf (pv 2)) pa_nil)))))
    (.cons ⟨rfl, by decide, .inl T.gM⟩ (fun a oe cls d pn hz hf => pss_one (ps_set (i := 1) sc_law_fault.nd rfl (Or.inl rfl) (pe_tup (pa_cons pe_str (pa_cons (pe_xf T.xM T.nM hz hf (pv 2)) pa_nil)))))
    .nil)))))
  (pss_one (ps_ret (pv 1))))), ?_⟩
  refine ⟨v, rfl, h.does (Nat.le_refl k) (fun r H' q => ⟨_, rfl, q⟩) fun cls d H' ⟨C, dd, fld, word, x, e1, e2, ew, ed, q⟩ => ?_⟩
  subst e1
  subst e2
  have l2 : 2 ≤ sizeLine := by decide
  rcases ew with ⟨rfl, rfl, rfl⟩ | ⟨rfl, rfl, rfl⟩ | ⟨rfl, rfl, rfl⟩ | ⟨rfl, rfl, rfl⟩
  · exact ⟨true, T.BB, fun _ a ha => ⟨.ref a, rfl, rfl, rfl, dd, _, x, rfl, ed, lookup1 _ _, l2, fun p hp => ⟨_, rfl, q p hp⟩⟩, fun z => nomatch z⟩
  · exact ⟨false, T.NB, (fun z => nomatch z), fun _ => ⟨true, T.NN, fun _ a ha => ⟨.ref a, rfl, rfl, rfl, dd, _, x, rfl, ed, lookup1 _ _, l2, fun p hp => ⟨_, rfl, q p hp⟩⟩, fun z => nomatch z⟩⟩
  · exact ⟨false, T.DB, (fun z => nomatch z), fun _ => ⟨false, T.DN, (fun z => nomatch z), fun _ => ⟨true, T.DD, fun _ a ha => ⟨.ref a, rfl, rfl, rfl, dd, _, x, rfl, ed, lookup1 _ _, l2, fun p hp => ⟨_, rfl, q p hp⟩⟩, fun z => nomatch z⟩⟩⟩
  · exact ⟨false, T.MB, (fun z => nomatch z), fun _ => ⟨false, T.MN, (fun z => nomatch z), fun _ => ⟨false, T.MD, (fun z => nomatch z), fun _ => ⟨true, T.MM, fun _ a ha => ⟨.ref a, rfl, rfl, rfl, dd, _, x, rfl, ed, lookup1 _ _, l2, fun p hp => ⟨_, rfl, q p hp⟩⟩, fun z => nomatch z⟩⟩⟩⟩
end

theorem DoesM.imp {P : Program} {w : World} {K : PySem.W.Frag} {mg : Str → Option Value} {base : Heap} {k : Nat} {v : V} {H : Hp} {Q Q' : VK} {E E' : XK} (d : DoesM P w K mg base k v H Q E) (h1 : ∀ v H', Q v H' → Q' v H') (h2 : ∀ c d H', E c d H' → E' c d H') :
    DoesM P w K mg base k v H Q' E' := by
  obtain ⟨f, fo, tl, e, n, p, a, t⟩ := d
  exact ⟨f, fo, tl, e, n, p, a, fun Q2 E2 i1 i2 => t Q2 E2 (fun v H' q => i1 v H' (h1 v H' q)) fun c d H' q => i2 c d H' (h2 c d H' q)⟩
/-- raises just what is due -/
def dueE {K : PySem.W.Frag} {mg : Str → Option Value} (T : ErrT K mg) (n : Nat) (u : V) (Q : VK) : XK := fun cls d H' => ∃ (C dd : Addr) (fld word : Str) (x : V), cls = .ref C ∧ d = some dd ∧ ErrW T C fld word ∧ H' dd = some (.xd [(fld, x)]) ∧
  ∀ p, H' p = none → Tw K (upd H' p (.tup [.str word, x])) n (.ref p) u ∧ ∀ H2, Same (upd H' p (.tup [.str word, x])) H2 → Q (.bl true) H2
def spFaults (P : Program) (w : World) (K : PySem.W.Frag) (mg : Str → Option Value) (base : Heap) (T : ErrT K mg) (k n : Nat) : Sp := fun vs H Q _ => ∃ v u, vs = [v, u] ∧ DoesM P w K mg base k v H (fun _ _ => False) (dueE T n u Q)
abbrev s_law_faults : Stmt := top 42
abbrev N_law_faults : List Str := ["_law_deed", "_law_due", "_law_told"]
abbrev P_law_faults : List Str := ["_law_deed", "_law_due"]
theorem sc_law_faults : FnScope N_law_faults P_law_faults (defScope s_law_faults) := ⟨rfl, rfl, rfl, by decide +kernel, rfl, by decide +kernel, by decide +kernel⟩
section
variable {P : Program} {w : World} {K : PySem.W.Frag} {mg : Str → Option Value} {base : Heap} {f : Addr} {fd : FuncData}
theorem ok_law_faults {k n : Nat} (T : ErrT K mg) (F : Fun K "_law_faults" "_law_faults" s_law_faults f fd) (C_law_fault : Cal P w K mg base "_law_fault" (k + 1) P_law_fault (spFault P w K mg base T k)) (C_law_same : Cal P w K mg base "_law_same" (1 + n) P_law_same (spSame K n)) :
    FnOk P w K mg base CX0 (k + n + 2) f fd P_law_faults (spFaults P w K mg base T k n) := by
  refine F.ok sc_law_faults (fun vs H Q E h => ?_) (fun cdv A outer s H vs Q E hr h => ?_)
  · obtain ⟨v, u, rfl, _⟩ := h
    rfl
  obtain ⟨v, u, rfl, h⟩ := h
  refine ⟨_, (pss_cons (ps_set (i := 2) sc_law_faults.nd rfl (Or.inl rfl) (pe_callC C_law_fault hr (pa_cons (pv 0) pa_nil)))
  (pss_one (ps_ret (pe_and (pe_cmpR op_notN (pv 2) pe_non (nomark _)) (pe_one (pe_callC C_law_same hr (pa_cons (pv 2) (pa_cons (pv 1) pa_nil)))))))), ?_⟩
  refine ⟨_, rfl, v, rfl, h.imp (fun _ _ z => z.elim) fun cls d H' ⟨C, dd, fld, word, x, e1, e2, ew, ed, q⟩ => ⟨C, dd, fld, word, x, e1, e2, ew, ed, fun p hp => ?_⟩⟩
  obtain ⟨tw, q⟩ := q p hp
  exact ⟨_, rfl, rfl, true, rfl, _, rfl, _, rfl, _, _, rfl, tw, q⟩
end
end My

set_option Elab.async false
set_option linter.all false
set_option maxRecDepth 100000
namespace My
open PySem L2
/-! ### leaves of forms; ends -/
def isEnds : PyData → Bool
  | .list ds => decide (1 ≤ ds.length) && decide (ds.length ≤ 40) && ds.all (isForm 12) && decide ((ds.flatMap lvs).length ≤ 40)
  | .tuple ds => decide (1 ≤ ds.length) && decide (ds.length ≤ 40) && ds.all (isForm 12) && decide ((ds.flatMap lvs).length ≤ 40)
  | _ => false
section
variable {X : Cx}
theorem pi_orR {tg e : Expr} {w1 w2 : TI} (a : PI X tg e w1) (b : PI X tg e w2) : PI X tg e (fun σ H R => w1 σ H R ∨ w2 σ H R) :=
  ⟨fun pins s σ H R I h => h.elim (a.run pins s σ H R I) (b.run pins s σ H R I)⟩
end
abbrev sis_leaf : Stmt := top 18
abbrev Nis_leaf : List Str := ["form"]
abbrev Pis_leaf : List Str := ["form"]
theorem scis_leaf : FnScope Nis_leaf Pis_leaf (defScope sis_leaf) := ⟨rfl, rfl, rfl, by decide +kernel, rfl, by decide +kernel, by decide +kernel⟩
abbrev sleaf_count : Stmt := top 19
abbrev Nleaf_count : List Str := ["form"]
abbrev Pleaf_count : List Str := ["form"]
theorem scleaf_count : FnScope Nleaf_count Pleaf_count (defScope sleaf_count) := ⟨rfl, rfl, rfl, by decide +kernel, rfl, by decide +kernel, by decide +kernel⟩
abbrev sfits_ends : Stmt := top 17
abbrev Nfits_ends : List Str := ["value", "many", "form"]
abbrev Pfits_ends : List Str := ["value"]
theorem scfits_ends : FnScope Nfits_ends Pfits_ends (defScope sfits_ends) := ⟨rfl, rfl, rfl, by decide +kernel, rfl, by decide +kernel, by decide +kernel⟩
abbrev scheck_ends : Stmt := top 21
abbrev Ncheck_ends : List Str := ["ends"]
abbrev Pcheck_ends : List Str := ["ends"]
theorem sccheck_ends : FnScope Ncheck_ends Pcheck_ends (defScope scheck_ends) := ⟨rfl, rfl, rfl, by decide +kernel, rfl, by decide +kernel, by decide +kernel⟩
def spIsLeaf (K : PySem.W.Frag) : Sp := fun vs H Q _ => ∃ (a : Addr) (xs : List V), vs = [.ref a] ∧ SqT K H a xs ∧ Q (.bl (decide (xs.length = 2))) H
def spLeafCount (K : PySem.W.Frag) (n : Nat) : Sp := fun vs H Q _ => ∃ (v : V) (k : Nat) (D : PyData), vs = [v] ∧ k < n ∧ Dp K H v D ∧ isForm k D = true ∧ Q (.int (lvs D).length) H
section
variable {P : Program} {w : World} {K : PySem.W.Frag} {mg : Str → Option Value} {base : Heap} {f : Addr} {fd : FuncData}
theorem okis_leaf (T : Txt K mg) (F : Fun K "is_leaf" "is_leaf" sis_leaf f fd) : FnOk P w K mg base CX0 1 f fd Pis_leaf (spIsLeaf K) := by
  refine F.ok scis_leaf (fun vs H Q E h => ?_) (fun cdv A outer s H vs Q E hr h => ?_)
  · obtain ⟨a, xs, rfl, _⟩ := h
    rfl
  obtain ⟨a, xs, rfl, hS, q⟩ := h
  refine ⟨_, (pss_one (ps_ret (pe_cmpR op_eq (pe_callB call_len rfl T.len (by decide +kernel) (pa_cons (pv 0) pa_nil)) pe_int (nomark _)))), ?_⟩
  refine ⟨_, rfl, _, _, rfl, .inr ⟨xs, hS, rfl⟩, rfl, ?_⟩
  have e : decide (V.int (xs.length : Int) = V.int 2) = decide (xs.length = 2) := by
    rw [dec_int, Bool.eq_iff_iff]
    simp
    omega
  show Q (.bl (decide (V.int (xs.length : Int) = V.int 2))) H
  rw [e]
  exact q
theorem okleaf_count {n : Nat} (F : Fun K "leaf_count" "leaf_count" sleaf_count f fd) (Cis_leaf : Cal P w K mg base "is_leaf" 1 Pis_leaf (spIsLeaf K)) (Cleaf_count : Cal P w K mg base "leaf_count" (1 + n) Pleaf_count (spLeafCount K n)) :
    FnOk P w K mg base CX0 (1 + n + 1) f fd Pleaf_count (spLeafCount K (n + 1)) := by
  refine F.ok scleaf_count (fun vs H Q E h => ?_) (fun cdv A outer s H vs Q E hr h => ?_)
  · obtain ⟨v, k, D, rfl, _⟩ := h
    rfl
  obtain ⟨v, k, D, rfl, hk, hv, hD, q⟩ := h
  refine ⟨_, (pss_cons (ps_if (pt_val (pe_callC Cis_leaf hr (pa_cons (pv 0) pa_nil)))
    (pss_one (ps_ret pe_int))
    pss_nil)
  (pss_one (ps_ret (pe_op op_add (pe_callC Cleaf_count hr (pa_cons (pe_ix ix_tup (pv 0) pe_int (fun _ _ => rfl)) pa_nil)) (pe_callC Cleaf_count hr (pa_cons (pe_ix ix_tup (pv 0) pe_int (fun _ _ => rfl)) pa_nil)))))), ?_⟩
  rcases isForm_inv hD with ⟨x, m, rfl, hx, hn⟩ | ⟨j, x, a, b, rfl, rfl, hx, ha, hb⟩
  · cases hv with | @tup p xs _ hT hA => cases hA with | cons h1 hA => cases hA with | cons h2 hN =>
    cases hN
    refine ⟨_, rfl, p, _, rfl, hT, true, rfl, ?_⟩
    rw [lvs2] at q
    exact q
  · cases hv with | @tup p xs _ hT hA => cases hA with | cons h1 hA => cases hA with | cons h2 hA => cases hA with | cons h3 hN =>
    cases hN
    refine ⟨_, rfl, p, _, rfl, hT, false, rfl, ?_⟩
    refine ⟨_, rfl, p, _, _, _, rfl, rfl, hT, rfl, _, j, a, rfl, by omega, h2, ha, ?_⟩
    refine ⟨_, rfl, p, _, _, _, rfl, rfl, hT, rfl, _, j, b, rfl, by omega, h3, hb, ?_⟩
    refine ⟨_, _, rfl, rfl, ?_⟩
    rw [lvs3, List.length_append, Int.natCast_add] at q
    exact q
end
structure Txt7 (K : PySem.W.Frag) (mg : Str → Option Value) extends Txt K mg where
  zip : mg "zip" = none
  enumerate : mg "enumerate" = none
  MOST_LEAVES : ∃ u, mg "MOST_LEAVES" = some u ∧ RelV (.int 40) u
  aFork : Addr
  FORK_WORDS : ∃ u, mg "FORK_WORDS" = some u ∧ RelV (.ref aFork) u
  sFork : ∀ H, SqT K H aFork ([Str.ofString "offered", Str.ofString "chosen"].map V.str)
theorem kit2r {K : PySem.W.Frag} {g : String} {b1 b2 : Bool} (h1 : kitB g "list" = some b1) (h2 : kitB g "tuple" = some b2) : PySem.W.kitAny K (.type g) [.type "list", .type "tuple"] = some (b1 || b2) := by
  cases b1 with
  | true => exact kitAny_cons (kit_ty h1) (fun z => nomatch z) fun _ => rfl
  | false =>
    refine kitAny_cons (kit_ty h1) (fun _ => ?_) fun z => nomatch z
    cases b2 with
    | true => exact kitAny_cons (kit_ty h2) (fun z => nomatch z) fun _ => rfl
    | false => exact kitAny_cons (kit_ty h2) (fun _ => kitAny_nil) fun z => nomatch z
def isSeqD : PyData → Bool
  | .list _ => true
  | .tuple _ => true
  | _ => false
theorem kit_seq {K : PySem.W.Frag} (D : PyData) : PySem.W.kitAny K (.type (tagOf D)) [.type "list", .type "tuple"] = some (isSeqD D) := by
  cases D with
  | list ds => exact kit2r (g := "list") (b1 := true) (b2 := false) (by decide +kernel) (by decide +kernel)
  | tuple ds => exact kit2r (g := "tuple") (b1 := false) (b2 := true) (by decide +kernel) (by decide +kernel)
  | none => exact kit2r (g := "NoneType") (b1 := false) (b2 := false) (by decide +kernel) (by decide +kernel)
  | bool b => exact kit2r (g := "bool") (b1 := false) (b2 := false) (by decide +kernel) (by decide +kernel)
  | int b => exact kit2r (g := "int") (b1 := false) (b2 := false) (by decide +kernel) (by decide +kernel)
  | str b => exact kit2r (g := "str") (b1 := false) (b2 := false) (by decide +kernel) (by decide +kernel)
  | dict b => exact kit2r (g := "dict") (b1 := false) (b2 := false) (by decide +kernel) (by decide +kernel)
theorem dpAll_at {K : PySem.W.Frag} {H : Hp} : ∀ {xs : List V} {ds : List PyData} {i : Nat} {x : V}, DpAll K H xs ds → xs[i]? = some x → ∃ d, ds[i]? = some d ∧ Dp K H x d
  | _, _, _, _, .nil, e => by simp at e
  | _, _, 0, _, .cons h _, e => by
    simp at e
    subst e
    exact ⟨_, rfl, h⟩
  | _, _, i + 1, _, .cons _ h, e => by
    obtain ⟨d, h1, h2⟩ := dpAll_at (i := i) h (by simpa using e)
    exact ⟨d, by simpa using h1, h2⟩
theorem short_in : ∀ {ds : List PyData} {d : PyData}, shortAll ds = true → d ∈ ds → shortD d = true
  | x :: ds, d, h, m => by
    obtain ⟨h1, h2⟩ := shortAll_cons h
    rcases List.mem_cons.mp m with rfl | m
    · exact h1
    · exact short_in h2 m
/-- ends that are none -/
theorem isEnds_bad {D : PyData} {ds : List PyData} (hD : D = .list ds ∨ D = .tuple ds) (h : ¬ (1 ≤ ds.length ∧ ds.length ≤ 40) ∨ (∃ d ∈ ds, isForm 12 d = false) ∨ ∃ i, 40 < ((ds.take i).flatMap lvs).length) : isEnds D = false := by
  have key : (decide (1 ≤ ds.length) && decide (ds.length ≤ 40) && ds.all (isForm 12) && decide ((ds.flatMap lvs).length ≤ 40)) = false := by
    rw [Bool.eq_false_iff]
    intro z
    simp only [Bool.and_eq_true, decide_eq_true_eq, List.all_eq_true] at z
    obtain ⟨⟨⟨z1, z2⟩, z3⟩, z4⟩ := z
    rcases h with h | ⟨d, hd, h⟩ | ⟨i, h⟩
    · exact h ⟨z1, z2⟩
    · rw [z3 d hd] at h
      cases h
    · have e : (ds.flatMap lvs).length = ((ds.take i).flatMap lvs).length + ((ds.drop i).flatMap lvs).length := by
        rw [← List.length_append, ← List.flatMap_append, List.take_append_drop]
      omega
  rcases hD with rfl | rfl <;> exact key
theorem isEnds_good {D : PyData} {ds : List PyData} (hD : D = .list ds ∨ D = .tuple ds) (h1 : 1 ≤ ds.length) (h2 : ds.length ≤ 40) (h3 : ds.all (isForm 12) = true) (h4 : (ds.flatMap lvs).length ≤ 40) : isEnds D = true := by
  have key : (decide (1 ≤ ds.length) && decide (ds.length ≤ 40) && ds.all (isForm 12) && decide ((ds.flatMap lvs).length ≤ 40)) = true := by
    simp only [Bool.and_eq_true, decide_eq_true_eq]
    exact ⟨⟨⟨h1, h2⟩, h3⟩, h4⟩
  rcases hD with rfl | rfl <;> exact key
def isDict (H : Hp) (v : V) : Prop := ∃ (a : Addr) (kvs : List (Key × V)), v = .ref a ∧ H a = some (.dK kvs)
def spEnds (K : PySem.W.Frag) : Sp := fun vs H Q _ => ∃ v, vs = [v] ∧ ((∃ D, Dp K H v D ∧ shortD D = true ∧ widD D = true ∧ ∀ H', Same H H' → Q (.bl (isEnds D)) H') ∨ (isDict H v ∧ ∀ H', Same H H' → Q (.bl false) H'))
section
variable {P : Program} {w : World} {K : PySem.W.Frag} {mg : Str → Option Value} {base : Heap} {f : Addr} {fd : FuncData}
theorem okfits_ends (T : Txt7 K mg) (F : Fun K "fits_ends" "fits_ends" sfits_ends f fd) (Cfits_form : Cal P w K mg base "fits_form" 15 Pfits_form (spForm K 13)) (Cleaf_count : Cal P w K mg base "leaf_count" 14 Pleaf_count (spLeafCount K 13)) :
    FnOk P w K mg base CX0 16 f fd Pfits_ends (spEnds K) := by
  refine F.ok scfits_ends (fun vs H Q E h => ?_) (fun cdv A outer s H vs Q E hr h => ?_)
  · obtain ⟨v, rfl, _⟩ := h
    rfl
  obtain ⟨v, rfl, h⟩ := h
  refine ⟨_, (pss_cons (ps_if (PW.pt (pw_or (pt_not (pt_val (pe_callB call_isiT rfl T.isinstance (by decide +kernel) (pa_cons (pv 0) (pa_cons (pe_tup (pa_cons (pe_bltn (v := .ty "list") rfl T.list (by decide +kernel) rfl) (pa_cons (pe_bltn (v := .ty "tuple") rfl T.tuple (by decide +kernel) rfl) pa_nil))) pa_nil))))) (pw_or1 (pt_not (pt_chain op_le op_le pe_int (pe_callB call_len rfl T.len (by decide +kernel) (pa_cons (pv 0) pa_nil)) (pe_globE T.MOST_LEAVES))))))
    (pss_one (ps_ret pe_bl))
    pss_nil)
  (pss_cons (ps_set (i := 1) scfits_ends.nd rfl (Or.inl rfl) pe_int)
  (pss_cons (ps_for PassesOwn.never rfl (pi_orR (pi_list (pv 0)) (pi_tup (pv 0))) (pg_name (i := 2) scfits_ends.nd rfl (Or.inl rfl))
    (pss_cons (ps_if (pt_not (pt_val (pe_callC Cfits_form hr (pa_cons (pv 2) (pa_cons (pe_globE T.DEEPEST) pa_nil)))))
      (pss_one (ps_ret pe_bl))
      pss_nil)
    (pss_cons (ps_aug (i := 1) scfits_ends.nd rfl (Or.inl rfl) (pe_callC Cleaf_count hr (pa_cons (pv 2) pa_nil)) ip_add)
    (pss_one (ps_if (pt_cmpR op_gt (pv 1) (pe_globE T.MOST_LEAVES) (nomark _))
      (pss_one (ps_ret pe_bl))
      pss_nil)))))
  (pss_one (ps_ret pe_bl))))), ?_⟩
  refine ⟨_, rfl, by show 2 ≤ sizeLine; decide, fun tp np => ?_⟩
  have s0 := same_new np (.tup [.ty "list", .ty "tuple"])
  rcases h with ⟨D, hv, hz, hw, q⟩ | ⟨⟨a, kvs, rfl, ha⟩, q⟩
  · refine ⟨_, tp, [.ty "list", .ty "tuple"], .type (tagOf D), [.type "list", .type "tuple"], isSeqD D, rfl, upd_same, .cons (.ty _) (.cons (.ty _) .nil), tyx_of (dp_same s0 _ _ hv), kit_seq D, _, rfl, ?_⟩
    by_cases hs : isSeqD D = true
    · cases D with
      | list ds =>
        cases hv with | @lst p xs _ hT hA =>
        have hl := dpAll_len hA
        have hzz : shortAll ds = true := by
          unfold shortD at hz
          exact hz
        refine iteF ⟨_, rfl, _, _, rfl, .inl ⟨xs, s0.seq hT, rfl⟩, 1, _, rfl, rfl, _, rfl, ?_⟩
        refine ite2 (fun c1 => ?_) (fun c1 => ?_)
        · refine ⟨_, _, rfl, rfl, _, rfl, ?_⟩
          by_cases c2 : (xs.length : Int) ≤ 40
          · rw [decide_eq_true c2]
            refine iteF ?_
            have c1' : (1 : Int) ≤ xs.length := of_decide_eq_true c1
            refine .inl ⟨_, rfl, p, rfl, ⟨xs, s0.seq hT⟩, ?_⟩
            refine for_it walk_list (fun i σ H' => Same H H' ∧ σ[0]? = some (some (.ref p)) ∧ σ[1]? = some (some (.int (((ds.take i).flatMap lvs).length : Nat))) ∧ σ.length = 3 ∧ (ds.take i).all (isForm 12) = true ∧ ((ds.take i).flatMap lvs).length ≤ 40) ⟨s0, rfl, rfl, rfl, rfl, Nat.zero_le _⟩ (fun i σ H' _ pv => pv.1.seq hT) (fun i x σ H1 H2 hi pv y => ?_) (fun σ H' pv => ?_)
            · obtain ⟨rfl, hx⟩ := y
              obtain ⟨d, hd, hxd⟩ := dpAll_at hA hx
              obtain ⟨s1, g0, g1, gl, ga, gc⟩ := pv
              have hm : d ∈ ds := List.mem_of_getElem? hd
              refine ⟨x, by rw [List.getElem?_set_self (by omega)], x, 12, rfl, by omega, .inl ⟨d, dp_same s1 _ _ hxd, short_in hzz hm, fun H3 s3 => ⟨_, rfl, ?_⟩⟩⟩
              by_cases c : isForm 12 d = true
              · rw [c]
                refine ⟨_, by rw [List.getElem?_set_ne (by omega)]; exact g1, x, by rw [List.getElem?_set_self (by omega)], x, 12, d, rfl, by omega, dp_same (s1.trans s3) _ _ hxd, c, ?_⟩
                refine ⟨_, _, rfl, rfl, ?_⟩
                have e1 : ds.take (i + 1) = ds.take i ++ [d] := take_next hd
                have e2 : ((ds.take (i + 1)).flatMap lvs).length = ((ds.take i).flatMap lvs).length + (lvs d).length := by
                  rw [e1, List.flatMap_append, List.length_append]
                  simp
                have e3 : ((((ds.take i).flatMap lvs).length : Nat) : Int) + ((lvs d).length : Nat) = (((ds.take (i + 1)).flatMap lvs).length : Nat) := by
                  rw [e2]
                  omega
                refine ⟨_, by rw [List.getElem?_set_self (by rw [List.length_set]; omega)], _, _, rfl, rfl, _, rfl, ?_⟩
                dsimp only
                by_cases c3 : (40 : Int) < ((((ds.take i).flatMap lvs).length : Nat) : Int) + ((lvs d).length : Nat)
                · rw [decide_eq_true c3]
                  have e : isEnds (.list ds) = false := isEnds_bad (ds := ds) (.inl rfl) (.inr (.inr ⟨i + 1, by omega⟩))
                  rw [e] at q
                  exact q _ (s1.trans s3)
                · rw [decide_eq_false c3]
                  refine ⟨s1.trans s3, by rw [List.getElem?_set_ne (by omega), List.getElem?_set_ne (by omega)]; exact g0, by rw [List.getElem?_set_self (by rw [List.length_set]; omega), e3], by rw [List.length_set, List.length_set]; exact gl, ?_, by omega⟩
                  rw [e1, List.all_append, ga]
                  show (isForm 12 d && true) = true
                  rw [c]
                  rfl
              · rw [Bool.eq_false_iff.mpr c]
                have e : isEnds (.list ds) = false := isEnds_bad (ds := ds) (.inl rfl) (.inr (.inl ⟨d, hm, Bool.eq_false_iff.mpr c⟩))
                rw [e] at q
                exact q _ (s1.trans s3)
            · obtain ⟨s1, g0, g1, gl, ga, gc⟩ := pv
              rw [List.take_of_length_le (by omega)] at ga gc
              have e : isEnds (.list ds) = true := isEnds_good (ds := ds) (.inl rfl) (by omega) (by omega) ga gc
              rw [e] at q
              exact q _ s1
          · rw [decide_eq_false c2]
            have e : isEnds (.list ds) = false := isEnds_bad (ds := ds) (.inl rfl) (.inl (by omega))
            rw [e] at q
            exact q _ s0
        · have c1' : ¬ (1 : Int) ≤ xs.length := of_decide_eq_false (Bool.eq_false_iff.mpr c1)
          have e : isEnds (.list ds) = false := isEnds_bad (ds := ds) (.inl rfl) (.inl (by omega))
          rw [e] at q
          exact ⟨false, rfl, q _ s0⟩
      | tuple ds =>
        cases hv with | @tup p xs _ hT hA =>
        have hl := dpAll_len hA
        have hzz : shortAll ds = true := by
          unfold shortD at hz
          exact hz
        refine iteF ⟨_, rfl, _, _, rfl, .inr ⟨xs, seqT_same s0 hT, rfl⟩, 1, _, rfl, rfl, _, rfl, ?_⟩
        refine ite2 (fun c1 => ?_) (fun c1 => ?_)
        · refine ⟨_, _, rfl, rfl, _, rfl, ?_⟩
          by_cases c2 : (xs.length : Int) ≤ 40
          · rw [decide_eq_true c2]
            refine iteF ?_
            have c1' : (1 : Int) ≤ xs.length := of_decide_eq_true c1
            refine .inr ⟨_, rfl, p, rfl, ⟨xs, seqT_same s0 hT⟩, ?_⟩
            refine for_it walk_tup (fun i σ H' => Same H H' ∧ σ[0]? = some (some (.ref p)) ∧ σ[1]? = some (some (.int (((ds.take i).flatMap lvs).length : Nat))) ∧ σ.length = 3 ∧ (ds.take i).all (isForm 12) = true ∧ ((ds.take i).flatMap lvs).length ≤ 40) ⟨s0, rfl, rfl, rfl, rfl, Nat.zero_le _⟩ (fun i σ H' _ pv => seqT_same pv.1 hT) (fun i x σ H1 H2 hi pv y => ?_) (fun σ H' pv => ?_)
            · obtain ⟨rfl, hx⟩ := y
              obtain ⟨d, hd, hxd⟩ := dpAll_at hA hx
              obtain ⟨s1, g0, g1, gl, ga, gc⟩ := pv
              have hm : d ∈ ds := List.mem_of_getElem? hd
              refine ⟨x, by rw [List.getElem?_set_self (by omega)], x, 12, rfl, by omega, .inl ⟨d, dp_same s1 _ _ hxd, short_in hzz hm, fun H3 s3 => ⟨_, rfl, ?_⟩⟩⟩
              by_cases c : isForm 12 d = true
              · rw [c]
                refine ⟨_, by rw [List.getElem?_set_ne (by omega)]; exact g1, x, by rw [List.getElem?_set_self (by omega)], x, 12, d, rfl, by omega, dp_same (s1.trans s3) _ _ hxd, c, ?_⟩
                refine ⟨_, _, rfl, rfl, ?_⟩
                have e1 : ds.take (i + 1) = ds.take i ++ [d] := take_next hd
                have e2 : ((ds.take (i + 1)).flatMap lvs).length = ((ds.take i).flatMap lvs).length + (lvs d).length := by
                  rw [e1, List.flatMap_append, List.length_append]
                  simp
                have e3 : ((((ds.take i).flatMap lvs).length : Nat) : Int) + ((lvs d).length : Nat) = (((ds.take (i + 1)).flatMap lvs).length : Nat) := by
                  rw [e2]
                  omega
                refine ⟨_, by rw [List.getElem?_set_self (by rw [List.length_set]; omega)], _, _, rfl, rfl, _, rfl, ?_⟩
                dsimp only
                by_cases c3 : (40 : Int) < ((((ds.take i).flatMap lvs).length : Nat) : Int) + ((lvs d).length : Nat)
                · rw [decide_eq_true c3]
                  have e : isEnds (.tuple ds) = false := isEnds_bad (ds := ds) (.inr rfl) (.inr (.inr ⟨i + 1, by omega⟩))
                  rw [e] at q
                  exact q _ (s1.trans s3)
                · rw [decide_eq_false c3]
                  refine ⟨s1.trans s3, by rw [List.getElem?_set_ne (by omega), List.getElem?_set_ne (by omega)]; exact g0, by rw [List.getElem?_set_self (by rw [List.length_set]; omega), e3], by rw [List.length_set, List.length_set]; exact gl, ?_, by omega⟩
                  rw [e1, List.all_append, ga]
                  show (isForm 12 d && true) = true
                  rw [c]
                  rfl
              · rw [Bool.eq_false_iff.mpr c]
                have e : isEnds (.tuple ds) = false := isEnds_bad (ds := ds) (.inr rfl) (.inr (.inl ⟨d, hm, Bool.eq_false_iff.mpr c⟩))
                rw [e] at q
                exact q _ (s1.trans s3)
            · obtain ⟨s1, g0, g1, gl, ga, gc⟩ := pv
              rw [List.take_of_length_le (by omega)] at ga gc
              have e : isEnds (.tuple ds) = true := isEnds_good (ds := ds) (.inr rfl) (by omega) (by omega) ga gc
              rw [e] at q
              exact q _ s1
          · rw [decide_eq_false c2]
            have e : isEnds (.tuple ds) = false := isEnds_bad (ds := ds) (.inr rfl) (.inl (by omega))
            rw [e] at q
            exact q _ s0
        · have c1' : ¬ (1 : Int) ≤ xs.length := of_decide_eq_false (Bool.eq_false_iff.mpr c1)
          have e : isEnds (.tuple ds) = false := isEnds_bad (ds := ds) (.inr rfl) (.inl (by omega))
          rw [e] at q
          exact ⟨false, rfl, q _ s0⟩
      | _ => cases hs
    · have e : isSeqD D = false := Bool.eq_false_iff.mpr hs
      have e2 : isEnds D = false := by
        cases D <;> first | rfl | cases e
      rw [e2] at q
      rw [e]
      exact q _ s0
  · refine ⟨_, tp, [.ty "list", .ty "tuple"], .type "dict", [.type "list", .type "tuple"], false, rfl, upd_same, .cons (.ty _) (.cons (.ty _) .nil), .base (.dK (s0 _ _ ha)), kit2r (g := "dict") (b1 := false) (b2 := false) (by decide +kernel) (by decide +kernel), _, rfl, ?_⟩
    exact q _ s0
end
end My

set_option Elab.async false
set_option linter.all false
set_option maxRecDepth 100000
namespace My
open PySem L2
def badV (CB : Addr) (v : V) (H : Hp) (E : XK) : Prop := ∀ (d : Addr) (H' : Hp), Same H H' → H' d = none → E (.ref CB) (some d) (upd H' d (.xd [(Str.ofString "value", v)]))
def spCheckEnds (K : PySem.W.Frag) (CB : Addr) : Sp := fun vs H Q E => ∃ v, vs = [v] ∧ ((∃ D, Dp K H v D ∧ shortD D = true ∧ widD D = true ∧ (isEnds D = true → ∀ H', Same H H' → Q .non H') ∧ (isEnds D = false → badV CB v H E)) ∨ (isDict H v ∧ badV CB v H E))
section
variable {P : Program} {w : World} {K : PySem.W.Frag} {mg : Str → Option Value} {base : Heap} {f : Addr} {fd : FuncData}
theorem okcheck_ends {CB : Addr} (O : OneE P w K mg base "BadValue" "value" CB) (F : Fun K "check_ends" "check_ends" scheck_ends f fd) (Cfits_ends : Cal P w K mg base "fits_ends" 16 Pfits_ends (spEnds K)) :
    FnOk P w K mg base (L2.CX P w) 17 f fd Pcheck_ends (spCheckEnds K CB) := by
  refine F.okX sccheck_ends (fun vs H Q E h => ?_) (fun cdv A outer s H vs Q E hr h => ?_)
  · obtain ⟨v, rfl, _⟩ := h
    rfl
  obtain ⟨v, rfl, h⟩ := h
  refine ⟨_, (pss_one (ps_if (pt_not (pt_val (pe_callC Cfits_ends hr (pa_cons (pv 0) pa_nil))))
    (pss_one (ps_raise1 (k := 0) O rfl (hr.mono (by decide)) (takes_of rfl rfl rfl rfl) (pv 0)))
    pss_nil)), ?_⟩
  rcases h with ⟨D, hv, hz, hw, q1, q2⟩ | ⟨hd, q⟩
  · refine ⟨_, rfl, v, rfl, .inl ⟨D, hv, hz, hw, fun H1 s1 => ⟨isEnds D, rfl, ?_⟩⟩⟩
    cases c : isEnds D with
    | true => exact q1 c H1 s1
    | false => exact ⟨_, rfl, mk_one O.oex O.no fun d nd => q2 c d H1 s1 nd⟩
  · exact ⟨_, rfl, v, rfl, .inr ⟨hd, fun H1 s1 => ⟨false, rfl, _, rfl, mk_one O.oex O.no fun d nd => q d H1 s1 nd⟩⟩⟩
end
end My

set_option Elab.async false
set_option linter.all false
set_option maxRecDepth 100000
namespace My
open PySem L2
/-! ### where leaves and forks stand -/
def forkW : List Str := [Str.ofString "offered", Str.ofString "chosen"]
abbrev Ab := List (Nat × Nat)
def abD (ab : Ab) : PyData := .tuple (ab.map fun p => .tuple [.int p.1, .int p.2])
def lay : Nat → Ab → PyData → List (PyData × Ab) × List (Str × Ab)
  | _, ab, .tuple [a, b] => ([(.tuple [a, b], ab)], [])
  | f, ab, .tuple [.str w, x, y] =>
    if w ∈ forkW then
      ((lay (f + 1) (ab ++ [(f, 0)]) x).1 ++ (lay (f + 1 + (lay (f + 1) (ab ++ [(f, 0)]) x).2.length) (ab ++ [(f, 1)]) y).1, (w, ab) :: ((lay (f + 1) (ab ++ [(f, 0)]) x).2 ++ (lay (f + 1 + (lay (f + 1) (ab ++ [(f, 0)]) x).2.length) (ab ++ [(f, 1)]) y).2))
    else ((lay f ab x).1 ++ (lay (f + (lay f ab x).2.length) ab y).1, (lay f ab x).2 ++ (lay (f + (lay f ab x).2.length) ab y).2)
  | _, _, _ => ([], [])
termination_by _ _ D => sizeOf D
/-! ### heaps of which the lists may change -/
def KeepN (H H' : Hp) : Prop := ∀ b o, (∀ xs, o ≠ .lst xs) → H b = some o → H' b = some o
def KeepLG (l g : Addr) (H H' : Hp) : Prop := ∀ b o, b ≠ l → b ≠ g → H b = some o → H' b = some o
theorem KeepLG.refl (l g : Addr) (H : Hp) : KeepLG l g H H := fun _ _ _ _ e => e
theorem KeepLG.trans {l g : Addr} {H H1 H2 : Hp} (a : KeepLG l g H H1) (b : KeepLG l g H1 H2) : KeepLG l g H H2 := fun c o n1 n2 e => b c o n1 n2 (a c o n1 n2 e)
theorem Same.lg {l g : Addr} {H H' : Hp} (s : Same H H') : KeepLG l g H H' := fun c o _ _ e => s c o e
theorem KeepLG.n {l g : Addr} {H H' : Hp} {xs ys : List V} (k : KeepLG l g H H') (hl : H l = some (.lst xs)) (hg : H g = some (.lst ys)) : KeepN H H' := fun b o no e => k b o (fun z => by
    rw [z, hl] at e
    exact no xs (Option.some.inj e).symm) (fun z => by
    rw [z, hg] at e
    exact no ys (Option.some.inj e).symm) e
/-- three lists may change -/
def KeepL3 (l g m : Addr) (H H' : Hp) : Prop := ∀ b o, b ≠ l → b ≠ g → b ≠ m → H b = some o → H' b = some o
theorem KeepL3.trans {l g m : Addr} {H H1 H2 : Hp} (a : KeepL3 l g m H H1) (b : KeepL3 l g m H1 H2) : KeepL3 l g m H H2 := fun c o n1 n2 n3 e => b c o n1 n2 n3 (a c o n1 n2 n3 e)
theorem Same.l3 {l g m : Addr} {H H' : Hp} (s : Same H H') : KeepL3 l g m H H' := fun c o _ _ _ e => s c o e
theorem KeepL3.n {l g m : Addr} {H H' : Hp} {xs ys zs : List V} (k : KeepL3 l g m H H') (hl : H l = some (.lst xs)) (hg : H g = some (.lst ys)) (hm : H m = some (.lst zs)) : KeepN H H' := fun b o no e => k b o (fun z => by
    rw [z, hl] at e
    exact no xs (Option.some.inj e).symm) (fun z => by
    rw [z, hg] at e
    exact no ys (Option.some.inj e).symm) (fun z => by
    rw [z, hm] at e
    exact no zs (Option.some.inj e).symm) e
theorem Same.n {H H' : Hp} (s : Same H H') : KeepN H H' := fun b o _ e => s b o e
mutual
def noL : PyData → Bool
  | .list _ => false
  | .dict _ => false
  | .tuple ds => noLs ds
  | _ => true
def noLs : List PyData → Bool
  | [] => true
  | d :: ds => noL d && noLs ds
end
/-- the tuples are kept -/
structure KeepT (H H' : Hp) : Prop where
  t : ∀ b xs, H b = some (.tup xs) → H' b = some (.tup xs)
  f : ∀ b o xs, H b = some (.frz o (.tup xs)) → H' b = some (.frz o (.tup xs))
theorem KeepN.t {H H' : Hp} (k : KeepN H H') : KeepT H H' := ⟨fun b xs e => k b _ (fun _ z => nomatch z) e, fun b o xs e => k b _ (fun _ z => nomatch z) e⟩
theorem keepT_ins {H : Hp} {x C dx : Addr} {fs : List (Str × V)} {o : HO} (e : H x = some (.ins C dx fs)) : KeepT H (upd H x o) := ⟨fun b xs z => by rw [upd_ne (fun y => by rw [y, e] at z; cases z)]; exact z, fun b u xs z => by rw [upd_ne (fun y => by rw [y, e] at z; cases z)]; exact z⟩
section
variable {K : PySem.W.Frag}
theorem seqT_n {H H' : Hp} (k : KeepT H H') {a : Addr} {xs : List V} (h : SqT K H a xs) : SqT K H' a xs := by
  rcases h with (h | ⟨o, h⟩) | h
  · exact .inl (.inl (k.t _ _ h))
  · exact .inl (.inr ⟨o, k.f _ _ _ h⟩)
  · exact .inr h
mutual
theorem dp_n {H H' : Hp} (k : KeepT H H') : ∀ (D : PyData) (v : V), noL D = true → Dp K H v D → Dp K H' v D
  | .none, _, _, h => by cases h; exact .non
  | .bool b, _, _, h => by cases h; exact .bl b
  | .int i, _, _, h => by cases h; exact .int i
  | .str x, _, _, h => by cases h; exact .str x
  | .list ds, _, n, h => by cases n
  | .tuple ds, _, n, h => by
    have n : noLs ds = true := n
    cases h with | tup hs ha => exact .tup (seqT_n k hs) (dpAll_n k ds _ n ha)
  | .dict _, _, n, h => by cases h
theorem dpAll_n {H H' : Hp} (k : KeepT H H') : ∀ (Ds : List PyData) (vs : List V), noLs Ds = true → DpAll K H vs Ds → DpAll K H' vs Ds
  | [], _, _, h => by cases h; exact .nil
  | D :: Ds, _, n, h => by
    have n : (noL D && noLs Ds) = true := n
    obtain ⟨n1, n2⟩ := Bool.and_eq_true_iff.mp n
    cases h with | cons h1 h2 => exact .cons (dp_n k D _ n1 h1) (dpAll_n k Ds _ n2 h2)
end
theorem noL_form : ∀ {k : Nat} {D : PyData}, isForm k D = true → noL D = true := by
  intro k
  induction k with
  | zero =>
    intro D h
    rcases isForm_inv h with ⟨w, n, rfl, hw, hn⟩ | ⟨j, w, a, b, e, _⟩
    · rfl
    · cases e
  | succ k ih =>
    intro D h
    rcases isForm_inv h with ⟨w, n, rfl, hw, hn⟩ | ⟨j, w, a, b, e, rfl, hw, ha, hb⟩
    · rfl
    · obtain rfl : k = j := by omega
      show (true && (noL a && (noL b && true))) = true
      rw [ih ha, ih hb]
      rfl
theorem noL_ab : ∀ ab : Ab, noL (abD ab) = true := fun ab => by
  show noLs (ab.map fun p => .tuple [.int p.1, .int p.2]) = true
  induction ab with
  | nil => rfl
  | cons p ab ih =>
    show (true && noLs _) = true
    rw [ih]
    rfl
/-- a place: its form, its end, the forks above -/
def LeafIs (K : PySem.W.Frag) (CP : Addr) (e : Nat) (H : Hp) (v : V) (r : PyData × Ab) : Prop := ∃ (q dx nd : Addr) (fs : List (Str × V)) (u z : V) (xs : List V), v = .ref q ∧ H q = some (.ins CP dx fs) ∧
  fs.lookup ("form" : Str) = some u ∧ Dp K H u r.1 ∧ noL r.1 = true ∧ fs.lookup ("node" : Str) = some (.ref nd) ∧ SqT K H nd (.int e :: xs) ∧ fs.lookup ("above" : Str) = some z ∧ Dp K H z (abD r.2)
def ForkIs (K : PySem.W.Frag) (CP : Addr) (e : Nat) (H : Hp) (v : V) (r : Str × Ab) : Prop := ∃ (q dx nd : Addr) (fs : List (Str × V)) (z : V) (xs : List V), v = .ref q ∧ H q = some (.ins CP dx fs) ∧
  fs.lookup ("word" : Str) = some (.str r.1) ∧ fs.lookup ("node" : Str) = some (.ref nd) ∧ SqT K H nd (.int e :: xs) ∧ fs.lookup ("above" : Str) = some z ∧ Dp K H z (abD r.2)
theorem LeafIs.n {CP : Addr} {e : Nat} {H H' : Hp} {v : V} {r : PyData × Ab} (k : KeepN H H') (h : LeafIs K CP e H v r) : LeafIs K CP e H' v r := by
  obtain ⟨q, dx, nd, fs, u, z, xs, ev, eq, e1, d1, n1, e2, s2, e3, d3⟩ := h
  exact ⟨q, dx, nd, fs, u, z, xs, ev, k _ _ (fun _ z => nomatch z) eq, e1, dp_n k.t _ _ n1 d1, n1, e2, seqT_n k.t s2, e3, dp_n k.t _ _ (noL_ab _) d3⟩
theorem ForkIs.n {CP : Addr} {e : Nat} {H H' : Hp} {v : V} {r : Str × Ab} (k : KeepN H H') (h : ForkIs K CP e H v r) : ForkIs K CP e H' v r := by
  obtain ⟨q, dx, nd, fs, z, xs, ev, eq, e1, e2, s2, e3, d3⟩ := h
  exact ⟨q, dx, nd, fs, z, xs, ev, k _ _ (fun _ z => nomatch z) eq, e1, e2, seqT_n k.t s2, e3, dp_n k.t _ _ (noL_ab _) d3⟩
end
theorem lay2 (f : Nat) (ab : Ab) (a b : PyData) : lay f ab (.tuple [a, b]) = ([(.tuple [a, b], ab)], []) := by rw [lay]
theorem lay3f (f : Nat) (ab : Ab) (w : Str) (x y : PyData) (h : w ∈ forkW) : lay f ab (.tuple [.str w, x, y]) =
    ((lay (f + 1) (ab ++ [(f, 0)]) x).1 ++ (lay (f + 1 + (lay (f + 1) (ab ++ [(f, 0)]) x).2.length) (ab ++ [(f, 1)]) y).1, (w, ab) :: ((lay (f + 1) (ab ++ [(f, 0)]) x).2 ++ (lay (f + 1 + (lay (f + 1) (ab ++ [(f, 0)]) x).2.length) (ab ++ [(f, 1)]) y).2)) := by
  rw [lay, if_pos h]
theorem lay3n (f : Nat) (ab : Ab) (w : Str) (x y : PyData) (h : ¬ w ∈ forkW) : lay f ab (.tuple [.str w, x, y]) = ((lay f ab x).1 ++ (lay (f + (lay f ab x).2.length) ab y).1, (lay f ab x).2 ++ (lay (f + (lay f ab x).2.length) ab y).2) := by
  rw [lay, if_neg h]
theorem lay_leaves : ∀ {k : Nat} {D : PyData} {f : Nat} {ab : Ab}, isForm k D = true → (lay f ab D).1.map (·.1) = lvs D := by
  intro k
  induction k with
  | zero =>
    intro D f ab h
    rcases isForm_inv h with ⟨w, n, rfl, hw, hn⟩ | ⟨j, w, a, b, e, _⟩
    · rw [lay2, lvs2]
      rfl
    · cases e
  | succ k ih =>
    intro D f ab h
    rcases isForm_inv h with ⟨w, n, rfl, hw, hn⟩ | ⟨j, w, a, b, e, rfl, hw, ha, hb⟩
    · rw [lay2, lvs2]
      rfl
    · obtain rfl : k = j := by omega
      rw [lvs3]
      by_cases c : w ∈ forkW
      · rw [lay3f _ _ _ _ _ c, List.map_append, ih ha, ih hb]
      · rw [lay3n _ _ _ _ _ c, List.map_append, ih ha, ih hb]
end My

set_option Elab.async false
set_option linter.all false
set_option maxRecDepth 100000
namespace My
open PySem L2
abbrev sPlaceI : Stmt := inClass (top 23) 0
abbrev NPlaceI : List Str := ["self", "form", "node", "above", "at"]
theorem scPlaceI : FnScope NPlaceI NPlaceI (defScope sPlaceI) := ⟨rfl, rfl, rfl, by decide +kernel, rfl, by decide +kernel, by decide +kernel⟩
abbrev slaid : Stmt := inClass (top 24) 1
abbrev Nlaid : List Str := ["self", "form", "node", "above", "place", "over", "left", "right", "side"]
abbrev Plaid : List Str := ["self", "form", "node", "above"]
theorem sclaid : FnScope Nlaid Plaid (defScope slaid) := ⟨rfl, rfl, rfl, by decide +kernel, rfl, by decide +kernel, by decide +kernel⟩
/-- the fields of a place -/
def plF (v w nd ab i nu ha : V) : List (Str × V) := putF "halves" ha (putF "number" nu (putF "at" i (putF "above" ab (putF "node" nd (putF "word" w (putF "form" v []))))))
structure PlTxt (K : PySem.W.Frag) (CP : Addr) : Prop where
  cl : Cls K CP
  nForm : NoAttr K CP "form"
  nWord : NoAttr K CP "word"
  nNode : NoAttr K CP "node"
  nAbove : NoAttr K CP "above"
  nAt : NoAttr K CP "at"
  nNumber : NoAttr K CP "number"
  nHalves : NoAttr K CP "halves"
theorem putF_len (f : Str) (v : V) : ∀ fs : List (Str × V), (putF f v fs).length ≤ fs.length + 1
  | [] => by show 1 ≤ 1; decide
  | (g, x) :: r => by
    show (if g = f then _ else _ : List (Str × V)).length ≤ _
    by_cases h : g = f
    · rw [if_pos h]
      simp
    · rw [if_neg h]
      have := putF_len f v r
      simp only [List.length_cons]
      omega
def spPlaceI (K : PySem.W.Frag) (CP : Addr) : Sp := fun vs H Q _ => ∃ (p a dx : Addr) (w nd ab i : V) (xs : List V), vs = [.ref p, .ref a, nd, ab, i] ∧ H p = some (.ins CP dx []) ∧ SqT K H a (w :: xs) ∧
  ∀ t, H t = none → Q .non (upd (upd H t (.tup [])) p (.ins CP dx (plF (.ref a) w nd ab i (.int (-1)) (.ref t))))
section
variable {P : Program} {w : World} {K : PySem.W.Frag} {mg : Str → Option Value} {base : Heap} {f : Addr} {fd : FuncData}
theorem seqT_at {H : Hp} {p : Addr} {o : HO} {a : Addr} {xs : List V} {C dx : Addr} {fs : List (Str × V)} (e : H p = some (.ins C dx fs)) (h : SqT K H a xs) : SqT K (upd H p o) a xs := by
  rcases h with (h | ⟨u, h⟩) | h
  · exact .inl (.inl (by rw [upd_ne (fun z => by rw [z, e] at h; cases h)]; exact h))
  · exact .inl (.inr ⟨u, by rw [upd_ne (fun z => by rw [z, e] at h; cases h)]; exact h⟩)
  · exact .inr h
theorem okPlaceI {CP : Addr} (T : PlTxt K CP) (F : Fun K "__init__" "Place.__init__" sPlaceI f fd) : FnOk P w K mg base CX0 1 f fd NPlaceI (spPlaceI K CP) := by
  refine F.ok scPlaceI (fun vs H Q E h => ?_) (fun cdv A outer s H vs Q E hr h => ?_)
  · obtain ⟨p, a, dx, w, nd, ab, i, xs, rfl, _⟩ := h
    rfl
  obtain ⟨p, a, dx, w, nd, ab, i, xs, rfl, hp, hT, q⟩ := h
  refine ⟨_, pss_cons (ps_fld (pv 0) (pv 1) rfl) (pss_cons (ps_fld (pv 0) (pe_ix ix_tup (pv 1) pe_int (fun _ _ => rfl)) rfl) (pss_cons (ps_fld (pv 0) (pv 2) rfl) (pss_cons (ps_fld (pv 0) (pv 3) rfl)
    (pss_cons (ps_fld (pv 0) (pv 4) rfl) (pss_cons (ps_fld (pv 0) (pe_un un_neg pe_int) rfl) (pss_one (ps_fld (pv 0) (pe_tup pa_nil) rfl))))))), ?_⟩
  have l0 : ∀ fs : List (Str × V), fs.length ≤ 10 → fs.length < 1000 := fun _ h => by omega
  have L1 := putF_len "form" (V.ref a) []
  have L2' := putF_len "word" w (putF "form" (V.ref a) [])
  have L3 := putF_len "node" nd (putF "word" w (putF "form" (V.ref a) []))
  have L4 := putF_len "above" ab (putF "node" nd (putF "word" w (putF "form" (V.ref a) [])))
  have L5 := putF_len "at" i (putF "above" ab (putF "node" nd (putF "word" w (putF "form" (V.ref a) []))))
  have L6 := putF_len "number" (.int (-1)) (putF "at" i (putF "above" ab (putF "node" nd (putF "word" w (putF "form" (V.ref a) [])))))
  simp only [List.length_nil] at L1
  refine ⟨_, rfl, _, rfl, p, CP, dx, _, rfl, hp, T.cl, T.nForm, l0 _ (by show 0 ≤ 10; decide), ?_⟩
  refine ⟨_, rfl, a, _, _, _, rfl, rfl, seqT_at hp hT, atI_nat (j := 0) (xs := w :: xs) rfl, _, rfl, p, CP, dx, _, rfl, upd_same, T.cl, T.nWord, l0 _ (by omega), ?_⟩
  rw [upd_upd]
  refine ⟨_, rfl, _, rfl, p, CP, dx, _, rfl, upd_same, T.cl, T.nNode, l0 _ (by omega), ?_⟩
  rw [upd_upd]
  refine ⟨_, rfl, _, rfl, p, CP, dx, _, rfl, upd_same, T.cl, T.nAbove, l0 _ (by omega), ?_⟩
  rw [upd_upd]
  refine ⟨_, rfl, _, rfl, p, CP, dx, _, rfl, upd_same, T.cl, T.nAt, l0 _ (by omega), ?_⟩
  rw [upd_upd]
  refine ⟨_, rfl, _, rfl, p, CP, dx, _, rfl, upd_same, T.cl, T.nNumber, l0 _ (by omega), ?_⟩
  rw [upd_upd]
  refine ⟨Nat.zero_le _, fun t nt => ?_⟩
  have npt : p ≠ t := fun z => by
    rw [z, upd_same] at nt
    cases nt
  refine ⟨_, rfl, p, CP, dx, _, rfl, by rw [upd_ne npt, upd_same], T.cl, T.nHalves, l0 _ (Nat.le_trans L6 (by omega)), ?_⟩
  have nt' : H t = none := by
    rw [upd_ne npt.symm] at nt
    exact nt
  have e : ∀ o u : HO, upd (upd (upd H p o) t (.tup [])) p u = upd (upd H t (.tup [])) p u := fun o u => by
    funext b
    by_cases h1 : b = p
    · rw [h1, upd_same, upd_same]
    · rw [upd_ne h1, upd_ne h1]
      by_cases h2 : b = t
      · rw [h2, upd_same, upd_same]
      · rw [upd_ne h2, upd_ne h2, upd_ne h1]
  rw [e]
  exact q t nt'
end
end My

set_option Elab.async false
set_option linter.all false
set_option maxRecDepth 100000
namespace My
open PySem L2
theorem pe_catPair {X : Cx} {a b c : Expr} {ta tb tc : TE} {x1 x2 : Nat} {p1 p2 p3 : Pos} (ha : PE X a ta) (hb : PE X b tb) (hc : PE X c tc) (h1 : starEach [b, c] X.env = (false, eval b X.env) :: starEach [c] X.env := by rfl)
    (h2 : starEach [c] X.env = (false, eval c X.env) :: starEach [] X.env := by rfl) : PE X (.BinOp a .Add (.Tuple [.Tuple [b, c] x1 p1] x2 p2) p3) (tOp (nCatT X.K) ta (nTup X.K (tCons (nTup X.K (tCons tb (tCons tc tNil))) tNil))) :=
  pe_op op_catTN ha (pe_tupN (pa_cons (pe_tupN (pa_cons hb (pa_cons hc pa_nil h2) h1)) pa_nil))
structure LaTxt (K : PySem.W.Frag) (mg : Str → Option Value) (CP CL fI fL : Addr) : Prop where
  pl : PlTxt K CP
  mkP : Mk K CP fI
  gP : mg "Place" = some (.ref CP)
  cl : Cls K CL
  nLeaves : NoAttr K CL "leaves"
  nForks : NoAttr K CL "forks"
  nPlaces : NoAttr K CL "places"
  nRoots : NoAttr K CL "roots"
  laid : Meth K CL "laid" fL
def spLaid (K : PySem.W.Frag) (CP CL : Addr) (n : Nat) : Sp := fun vs H Q _ => ∃ (p l g m nd dx : Addr) (lf : List (Str × V)) (ls gs ms xs : List V) (e k : Nat) (v av : V) (D : PyData) (ab : Ab), vs = [.ref p, v, .ref nd, av] ∧ k < n ∧
  H p = some (.ins CL dx lf) ∧ lf.lookup ("leaves" : Str) = some (.ref l) ∧ lf.lookup ("forks" : Str) = some (.ref g) ∧ lf.lookup ("places" : Str) = some (.ref m) ∧ lf.lookup ("laid" : Str) = none ∧ l ≠ g ∧ l ≠ m ∧ g ≠ m ∧ H l = some (.lst ls) ∧ H g = some (.lst gs) ∧ H m = some (.lst ms) ∧
  ls.length + (lay gs.length ab D).1.length ≤ 1000 ∧ gs.length + (lay gs.length ab D).2.length ≤ 1000 ∧ ms.length + 2 * (lay gs.length ab D).1.length ≤ 1000 ∧ Dp K H v D ∧ isForm k D = true ∧ SqT K H nd (.int e :: xs) ∧ xs.length + k ≤ 100 ∧ Dp K H av (abD ab) ∧ ab.length + k ≤ 100 ∧
  ∀ (H' : Hp) (r : Addr) (ls' gs' ms' : List V), KeepL3 l g m H H' → H' l = some (.lst (ls ++ ls')) → H' g = some (.lst (gs ++ gs')) → H' m = some (.lst ms') → ms'.length + 1 ≤ ms.length + 2 * (lay gs.length ab D).1.length → Paired (LeafIs K CP e H') ls' (lay gs.length ab D).1 → Paired (ForkIs K CP e H') gs' (lay gs.length ab D).2 → Q (.ref r) H'
theorem plF_len (v w nd ab i nu ha : V) : (plF v w nd ab i nu ha).length < 1000 := by
  have L1 := putF_len "form" v []
  have L2' := putF_len "word" w (putF "form" v [])
  have L3 := putF_len "node" nd (putF "word" w (putF "form" v []))
  have L4 := putF_len "above" ab (putF "node" nd (putF "word" w (putF "form" v [])))
  have L5 := putF_len "at" i (putF "above" ab (putF "node" nd (putF "word" w (putF "form" v []))))
  have L6 := putF_len "number" nu (putF "at" i (putF "above" ab (putF "node" nd (putF "word" w (putF "form" v [])))))
  have L7 := putF_len "halves" ha (putF "number" nu (putF "at" i (putF "above" ab (putF "node" nd (putF "word" w (putF "form" v []))))))
  simp only [List.length_nil] at L1
  unfold plF
  omega
theorem plF_len' (v w nd ab i nu ha : V) : (plF v w nd ab i nu ha).length ≤ 7 := by
  have L1 := putF_len "form" v []
  have L2' := putF_len "word" w (putF "form" v [])
  have L3 := putF_len "node" nd (putF "word" w (putF "form" v []))
  have L4 := putF_len "above" ab (putF "node" nd (putF "word" w (putF "form" v [])))
  have L5 := putF_len "at" i (putF "above" ab (putF "node" nd (putF "word" w (putF "form" v []))))
  have L6 := putF_len "number" nu (putF "at" i (putF "above" ab (putF "node" nd (putF "word" w (putF "form" v [])))))
  have L7 := putF_len "halves" ha (putF "number" nu (putF "at" i (putF "above" ab (putF "node" nd (putF "word" w (putF "form" v []))))))
  simp only [List.length_nil] at L1
  unfold plF
  omega
theorem n1a : ¬ (("form" : Str) = "at") := by decide +kernel
theorem n2a : ¬ (("node" : Str) = "at") := by decide +kernel
theorem n3a : ¬ (("above" : Str) = "at") := by decide +kernel
theorem n4a : ¬ (("word" : Str) = "at") := by decide +kernel
theorem n12 : ¬ (("form" : Str) = "number") := by decide +kernel
theorem n13 : ¬ (("form" : Str) = "halves") := by decide +kernel
theorem n14 : ¬ (("form" : Str) = "above") := by decide +kernel
theorem n15 : ¬ (("form" : Str) = "node") := by decide +kernel
theorem n16 : ¬ (("form" : Str) = "word") := by decide +kernel
theorem n22 : ¬ (("node" : Str) = "number") := by decide +kernel
theorem n23 : ¬ (("node" : Str) = "halves") := by decide +kernel
theorem n24 : ¬ (("node" : Str) = "above") := by decide +kernel
theorem n32 : ¬ (("above" : Str) = "number") := by decide +kernel
theorem n33 : ¬ (("above" : Str) = "halves") := by decide +kernel
theorem n42 : ¬ (("word" : Str) = "number") := by decide +kernel
theorem n43 : ¬ (("word" : Str) = "halves") := by decide +kernel
theorem n44 : ¬ (("word" : Str) = "above") := by decide +kernel
theorem n45 : ¬ (("word" : Str) = "node") := by decide +kernel
theorem n52 : ¬ (("number" : Str) = "halves") := by decide +kernel
theorem pl_form (v w nd ab i nu ha : V) : (plF v w nd ab i nu ha).lookup ("form" : Str) = some v := by
  unfold plF
  rw [lookup_putF, if_neg n13, lookup_putF, if_neg n12, lookup_putF, if_neg n1a, lookup_putF, if_neg n14, lookup_putF, if_neg n15, lookup_putF, if_neg n16, lookup_putF, if_pos rfl]
theorem pl_node (v w nd ab i nu ha : V) : (plF v w nd ab i nu ha).lookup ("node" : Str) = some nd := by
  unfold plF
  rw [lookup_putF, if_neg n23, lookup_putF, if_neg n22, lookup_putF, if_neg n2a, lookup_putF, if_neg n24, lookup_putF, if_pos rfl]
theorem pl_above (v w nd ab i nu ha : V) : (plF v w nd ab i nu ha).lookup ("above" : Str) = some ab := by
  unfold plF
  rw [lookup_putF, if_neg n33, lookup_putF, if_neg n32, lookup_putF, if_neg n3a, lookup_putF, if_pos rfl]
theorem pl_word (v w nd ab i nu ha : V) : (plF v w nd ab i nu ha).lookup ("word" : Str) = some w := by
  unfold plF
  rw [lookup_putF, if_neg n43, lookup_putF, if_neg n42, lookup_putF, if_neg n4a, lookup_putF, if_neg n44, lookup_putF, if_neg n45, lookup_putF, if_pos rfl]
theorem plN_form (k v w nd ab i nu ha : V) : (putF "number" k (plF v w nd ab i nu ha)).lookup ("form" : Str) = some v := by rw [lookup_putF, if_neg n12, pl_form]
theorem plN_node (k v w nd ab i nu ha : V) : (putF "number" k (plF v w nd ab i nu ha)).lookup ("node" : Str) = some nd := by rw [lookup_putF, if_neg n22, pl_node]
theorem plN_above (k v w nd ab i nu ha : V) : (putF "number" k (plF v w nd ab i nu ha)).lookup ("above" : Str) = some ab := by rw [lookup_putF, if_neg n32, pl_above]
theorem plN_number (k v w nd ab i nu ha : V) : (putF "number" k (plF v w nd ab i nu ha)).lookup ("number" : Str) = some k := by rw [lookup_putF, if_pos rfl]
theorem plN_word (k v w nd ab i nu ha : V) : (putF "number" k (plF v w nd ab i nu ha)).lookup ("word" : Str) = some w := by rw [lookup_putF, if_neg n42, pl_word]
theorem n17 {x : V} {fs : List (Str × V)} : (putF "halves" x fs).lookup ("form" : Str) = fs.lookup ("form" : Str) := by rw [lookup_putF, if_neg n13]
theorem n27 {x : V} {fs : List (Str × V)} : (putF "halves" x fs).lookup ("node" : Str) = fs.lookup ("node" : Str) := by rw [lookup_putF, if_neg n23]
theorem n37 {x : V} {fs : List (Str × V)} : (putF "halves" x fs).lookup ("above" : Str) = fs.lookup ("above" : Str) := by rw [lookup_putF, if_neg n33]
theorem n47 {x : V} {fs : List (Str × V)} : (putF "halves" x fs).lookup ("word" : Str) = fs.lookup ("word" : Str) := by rw [lookup_putF, if_neg n43]
theorem LeafIs.put {K : PySem.W.Frag} {CP x dx' : Addr} {e : Nat} {H : Hp} {v u : V} {r : PyData × Ab} {fsx : List (Str × V)} (hx : H x = some (.ins CP dx' fsx)) (h : LeafIs K CP e H v r) : LeafIs K CP e (upd H x (.ins CP dx' (putF "halves" u fsx))) v r := by
  have k : KeepT H (upd H x (.ins CP dx' (putF "halves" u fsx))) := keepT_ins hx
  obtain ⟨q, dx, nd, fs, u', z, xs, ev, eq, e1, d1, n1, e2, s2, e3, d3⟩ := h
  by_cases c : q = x
  · subst c
    rw [hx] at eq
    injection eq with eq
    injection eq with _ a b
    subst a
    subst b
    exact ⟨q, dx', nd, _, u', z, xs, ev, upd_same, by rw [n17]; exact e1, dp_n k _ _ n1 d1, n1, by rw [n27]; exact e2, seqT_n k s2, by rw [n37]; exact e3, dp_n k _ _ (noL_ab _) d3⟩
  · exact ⟨q, dx, nd, fs, u', z, xs, ev, by rw [upd_ne c]; exact eq, e1, dp_n k _ _ n1 d1, n1, e2, seqT_n k s2, e3, dp_n k _ _ (noL_ab _) d3⟩
theorem ForkIs.put {K : PySem.W.Frag} {CP x dx' : Addr} {e : Nat} {H : Hp} {v u : V} {r : Str × Ab} {fsx : List (Str × V)} (hx : H x = some (.ins CP dx' fsx)) (h : ForkIs K CP e H v r) : ForkIs K CP e (upd H x (.ins CP dx' (putF "halves" u fsx))) v r := by
  have k : KeepT H (upd H x (.ins CP dx' (putF "halves" u fsx))) := keepT_ins hx
  obtain ⟨q, dx, nd, fs, z, xs, ev, eq, e1, e2, s2, e3, d3⟩ := h
  by_cases c : q = x
  · subst c
    rw [hx] at eq
    injection eq with eq
    injection eq with _ a b
    subst a
    subst b
    exact ⟨q, dx', nd, _, z, xs, ev, upd_same, by rw [n47]; exact e1, by rw [n27]; exact e2, seqT_n k s2, by rw [n37]; exact e3, dp_n k _ _ (noL_ab _) d3⟩
  · exact ⟨q, dx, nd, fs, z, xs, ev, by rw [upd_ne c]; exact eq, e1, e2, seqT_n k s2, e3, dp_n k _ _ (noL_ab _) d3⟩
theorem paired_app {α β : Type} {r : α → β → Prop} : ∀ {xs : List α} {ys : List β} {xs' : List α} {ys' : List β}, Paired r xs ys → Paired r xs' ys' → Paired r (xs ++ xs') (ys ++ ys')
  | _, _, _, _, .nil, h => h
  | _, _, _, _, .cons a b, h => .cons a (paired_app b h)
theorem keepT_lst {H : Hp} {x : Addr} {xs : List V} {o : HO} (e : H x = some (.lst xs)) : KeepT H (upd H x o) := ⟨fun b xs z => by rw [upd_ne (fun y => by rw [y, e] at z; cases z)]; exact z, fun b u xs z => by rw [upd_ne (fun y => by rw [y, e] at z; cases z)]; exact z⟩
theorem dpAll_snoc {K : PySem.W.Frag} {H : Hp} {v : V} {D : PyData} (h : Dp K H v D) : ∀ {xs : List V} {ds : List PyData}, DpAll K H xs ds → DpAll K H (xs ++ [v]) (ds ++ [D])
  | _, _, .nil => .cons h .nil
  | _, _, .cons a b => .cons a (dpAll_snoc h b)
theorem abD_snoc {K : PySem.W.Frag} {H : Hp} {p q : Addr} {ab : Ab} {xs : List V} {f m : Nat} (hp : SqT K H p (xs ++ [.ref q])) (ha : DpAll K H xs (ab.map fun p => .tuple [.int p.1, .int p.2])) (hq : SqT K H q [.int f, .int m]) : Dp K H (.ref p) (abD (ab ++ [(f, m)])) := by
  unfold abD
  rw [List.map_append]
  exact .tup hp (dpAll_snoc (.tup hq (.cons (.int _) (.cons (.int _) .nil))) ha)
theorem lay_less : ∀ {k : Nat} {D : PyData} {f : Nat} {ab : Ab}, isForm k D = true → (lay f ab D).2.length + 1 ≤ (lay f ab D).1.length := by
  intro k
  induction k with
  | zero =>
    intro D f ab h
    rcases isForm_inv h with ⟨w, n, rfl, hw, hn⟩ | ⟨j, w, a, b, e, _⟩
    · rw [lay2]
      exact Nat.le_refl _
    · cases e
  | succ k ih =>
    intro D f ab h
    rcases isForm_inv h with ⟨w, n, rfl, hw, hn⟩ | ⟨j, w, a, b, e, rfl, hw, ha, hb⟩
    · rw [lay2]
      exact Nat.le_refl _
    · obtain rfl : k = j := by omega
      by_cases c : w ∈ forkW
      · rw [lay3f _ _ _ _ _ c]
        have h1 := ih (f := f + 1) (ab := ab ++ [(f, 0)]) ha
        have h2 := ih (f := f + 1 + (lay (f + 1) (ab ++ [(f, 0)]) a).2.length) (ab := ab ++ [(f, 1)]) hb
        simp only [List.length_append, List.length_cons]
        omega
      · rw [lay3n _ _ _ _ _ c]
        have h1 := ih (f := f) (ab := ab) ha
        have h2 := ih (f := f + (lay f ab a).2.length) (ab := ab) hb
        simp only [List.length_append]
        omega
section
variable {P : Program} {w : World} {K : PySem.W.Frag} {mg : Str → Option Value} {base : Heap} {f : Addr} {fd : FuncData}
theorem oklaid {CP CL fI fL : Addr} {fdI : FuncData} {n : Nat} (T : Txt7 K mg) (L : LaTxt K mg CP CL fI fL) (F : Fun K "laid" "Layout.laid" slaid f fd) (GI : FnOk P w K mg base CX0 1 fI fdI NPlaceI (spPlaceI K CP)) (bI : Binds K fdI NPlaceI [])
    (Cis_leaf : Cal P w K mg base "is_leaf" 1 Pis_leaf (spIsLeaf K)) (GL : FnOk P w K mg base CX0 (2 + n) fL fd Plaid (spLaid K CP CL n)) (bL : Binds K fd Plaid []) : FnOk P w K mg base CX0 (2 + n + 1) f fd Plaid (spLaid K CP CL (n + 1)) := by
  refine F.ok sclaid (fun vs H Q E h => ?_) (fun cdv A outer s H vs Q E hr h => ?_)
  · obtain ⟨p, l, g, m, nd, dx, lf, ls, gs, ms, xs, e, k, v, av, D, ab, rfl, _⟩ := h
    rfl
  obtain ⟨p, l, g, m, nd, dx, lf, ls, gs, ms, xs, e, k, v, av, D, ab, rfl, hk, hp, f1, f2, fm, f3, nlg, nlm, ngm, hl, hg, hm, b1, b2, b3, hv, hD, hn, bx, ha, ba, q⟩ := h
  refine ⟨_, pss_cons (ps_set (i := 4) sclaid.nd rfl (Or.inr rfl) (pe_make L.mkP GI (hr.mono (by omega)) rfl L.gP bI .nil pass0 (pa_cons (pv 1) (pa_cons (pv 2) (pa_cons (pv 3) (pa_cons (pe_callB call_len rfl T.len (by decide +kernel) (pa_cons (pe_fld (pv 0) rfl) pa_nil)) pa_nil))))))
    (pss_cons (ps_expr (pe_bm PySem.F.plainAttrs_list PySem.F.slot_list_append PySem.F.type_list_append mt_append (pe_fld (pv 0) rfl) (pa_cons (pv 4) pa_nil)))
    (pss_cons (ps_if (pt_val (pe_callC Cis_leaf hr (pa_cons (pv 1) pa_nil)))
      (pss_cons (ps_fld (pv 4) (pe_callB call_len rfl T.len (by decide +kernel) (pa_cons (pe_fld (pv 0) rfl) pa_nil)) rfl)
      (pss_cons (ps_expr (pe_bm PySem.F.plainAttrs_list PySem.F.slot_list_append PySem.F.type_list_append mt_append (pe_fld (pv 0) rfl) (pa_cons (pv 4) pa_nil)))
      (pss_one (ps_ret (pv 4)))))
      pss_nil)
    (pss_cons (ps_set (i := 5) sclaid.nd rfl (Or.inl rfl) (pe_lst (pa_cons (pv 3) (pa_cons (pv 3) pa_nil))))
    (pss_cons (ps_if (pt_cmpR op_in_seq (pe_fld (pv 4) rfl) (pe_globE T.FORK_WORDS) rfl)
      (pss_cons (ps_fld (pv 4) (pe_callB call_len rfl T.len (by decide +kernel) (pa_cons (pe_fld (pv 0) rfl) pa_nil)) rfl)
      (pss_cons (ps_expr (pe_bm PySem.F.plainAttrs_list PySem.F.slot_list_append PySem.F.type_list_append mt_append (pe_fld (pv 0) rfl) (pa_cons (pv 4) pa_nil)))
      (pss_one (ps_setLc (i := 5) (own := [("side", 8)]) (g := (gName 8)) (te := tOp (nCatT K) (tVar 3) (nTup K (tCons (nTup K (tCons (tFld K (tVar 4) "number") (tCons (tVar 8) tNil))) tNil))) rfl sclaid.nd rfl rfl (sw_true rfl rfl rfl (by decide +kernel)) (pi_tup (pe_tupN (pa_cons pe_int (pa_cons pe_int pa_nil)))) (blkOk_by (own := [("side", 8)]) (N := Nlaid) (sc := defScope slaid) (by decide +kernel)) (fun _ _ _ _ _ => (pg_name (i := 8) sclaid.nd rfl (Or.inl rfl))) (fun _ _ _ _ _ => pts_nil)
        (fun _ _ _ _ _ => pe_catPair (pv 3) (pe_fld (pv 4) rfl) (pv 8))))))
      pss_nil)
    (pss_cons (ps_set (i := 6) sclaid.nd rfl (Or.inl rfl) (pe_meth (pv 0) L.cl L.laid GL (hr.mono (by omega)) bL .nil pass0 (pa_cons (pe_ix ix_tup (pv 1) pe_int (fun _ _ => rfl)) (pa_cons (pe_op op_catTN (pv 2) (pe_tupN (pa_cons pe_int pa_nil))) (pa_cons (pe_ix ix_list (pv 5) pe_int (fun _ _ => rfl)) pa_nil)))))
    (pss_cons (ps_set (i := 7) sclaid.nd rfl (Or.inl rfl) (pe_meth (pv 0) L.cl L.laid GL (hr.mono (by omega)) bL .nil pass0 (pa_cons (pe_ix ix_tup (pv 1) pe_int (fun _ _ => rfl)) (pa_cons (pe_op op_catTN (pv 2) (pe_tupN (pa_cons pe_int pa_nil))) (pa_cons (pe_ix ix_list (pv 5) pe_int (fun _ _ => rfl)) pa_nil)))))
    (pss_cons (ps_fld (pv 4) (pe_tupN (pa_cons (pv 6) (pa_cons (pv 7) pa_nil))) rfl)
    (pss_one (ps_ret (pv 4)))))))))), ?_⟩
  obtain ⟨a, w0, ys, rfl, hT, h3⟩ : ∃ (a : Addr) (w0 : V) (ys : List V), v = .ref a ∧ SqT K H a (w0 :: ys) ∧ ∀ y c d, D = .tuple [.str y, c, d] → w0 = .str y ∧ ∃ v1 v2, ys = [v1, v2] ∧ Dp K H v1 c ∧ Dp K H v2 d := by
    rcases isForm_inv hD with ⟨y, nm, rfl, hy, hnm⟩ | ⟨j, y, c, d, rfl, rfl, hy, hc, hd⟩
    · cases hv with | @tup a0 _ _ hT hA => cases hA with | cons h1 hA =>
      exact ⟨a0, _, _, rfl, hT, fun _ _ _ z => by cases z⟩
    · cases hv with | @tup a0 _ _ hT hA => cases hA with | cons h1 hA => cases hA with | cons h2 hA => cases hA with | cons h3 hN =>
      cases hN
      refine ⟨a0, _, _, rfl, hT, fun _ _ _ z => ?_⟩
      cases z
      cases h1
      exact ⟨rfl, _, _, rfl, h2, h3⟩
  refine ⟨_, rfl, _, rfl, _, rfl, _, rfl, p, CL, dx, lf, _, rfl, hp, L.cl, L.nPlaces, fm, _, _, rfl, .inl ⟨ms, SqL.of hm, rfl⟩, fun x dx' nx ndx ne => ?_⟩
  have s1 : Same H (upd (upd H dx' (.own x)) x (.ins CP dx' [])) := fun b o e => by
    rw [upd_ne (ne_of_none e nx), upd_ne (ne_of_none e ndx)]
    exact e
  refine ⟨x, a, dx', w0, .ref nd, av, .int (ms.length : Nat), ys, rfl, upd_same, seqT_same s1 hT, fun t nt => ⟨rfl, ?_⟩⟩
  have ntx : t ≠ x := fun z => by
    rw [z, upd_same] at nt
    cases nt
  have nt' : H t = none := by
    cases z : H t with
    | none => rfl
    | some o => rw [s1 _ _ z] at nt; cases nt
  have nxm : x ≠ m := (ne_of_none hm nx).symm
  have npm : p ≠ m := fun z => by
    rw [z, hm] at hp
    cases hp
  have npl0 : p ≠ l := fun z => by
    rw [z, hl] at hp
    cases hp
  have leaf1 : 1 ≤ (lay gs.length ab D).1.length := by
    have := lay_less (f := gs.length) (ab := ab) hD
    omega
  generalize hH20 : upd (upd (upd (upd H dx' (.own x)) x (.ins CP dx' [])) t (.tup [])) x (.ins CP dx' (plF (.ref a) w0 (.ref nd) av (.int (ms.length : Nat)) (.int (-1)) (.ref t))) = H20
  have s20 : Same H H20 := fun b o e => by
    rw [← hH20, upd_ne (ne_of_none e nx), upd_ne (ne_of_none e nt')]
    exact s1 b o e
  have hx20 : H20 x = some (.ins CP dx' (plF (.ref a) w0 (.ref nd) av (.int (ms.length : Nat)) (.int (-1)) (.ref t))) := by
    rw [← hH20, upd_same]
  refine ⟨_, rfl, p, CL, dx, lf, _, rfl, s20 _ _ hp, L.cl, L.nPlaces, fm, .inl ⟨rfl, ms, SqL.of (s20 _ _ hm)⟩, _, rfl, m, _, _, rfl, rfl, s20 _ _ hm, small1000 (by omega), ?_⟩
  generalize hH2 : upd H20 m (.lst (ms ++ [.ref x])) = H2
  have s2 : ∀ b o, b ≠ m → H b = some o → H2 b = some o := fun b o n e => by
    rw [← hH2, upd_ne n]
    exact s20 b o e
  have k2 : KeepL3 l g m H H2 := fun b o _ _ n3 e => s2 b o n3 e
  have nk2 := (k2.n hl hg hm).t
  have m2 : H2 m = some (.lst (ms ++ [.ref x])) := by rw [← hH2, upd_same]
  have hx : H2 x = some (.ins CP dx' (plF (.ref a) w0 (.ref nd) av (.int (ms.length : Nat)) (.int (-1)) (.ref t))) := by
    rw [← hH2, upd_ne nxm]
    exact hx20
  have nxl : x ≠ l := (ne_of_none hl nx).symm
  have nxg : x ≠ g := (ne_of_none hg nx).symm
  have nxp : x ≠ p := (ne_of_none hp nx).symm
  have npl : p ≠ l := fun z => by
    rw [z, hl] at hp
    cases hp
  have npg : p ≠ g := fun z => by
    rw [z, hg] at hp
    cases hp
  have l0 : (plF (.ref a) w0 (.ref nd) av (.int (ms.length : Nat)) (.int (-1)) (.ref t)).length < 1000 := plF_len _ _ _ _ _ _ _
  rcases isForm_inv hD with ⟨y, nm, rfl, hy, hnm⟩ | ⟨j, y, c, d, rfl, rfl, hy, hc, hd⟩
  · cases hv with | @tup a0 _ _ hT' hA => cases hA with | cons h1 hA => cases hA with | cons h2 hN =>
    cases hN
    refine ⟨_, rfl, a, _, rfl, seqT_n nk2 hT', true, rfl, ?_⟩
    refine ⟨_, rfl, p, CL, dx, lf, _, rfl, s2 _ _ npm hp, L.cl, L.nLeaves, f1, _, _, rfl, .inl ⟨ls, SqL.of (s2 _ _ nlm hl), rfl⟩, _, rfl, x, CP, dx', _, rfl, hx, L.pl.cl, L.pl.nNumber, l0, ?_⟩
    refine ⟨_, rfl, p, CL, dx, lf, _, rfl, by rw [upd_ne nxp.symm]; exact s2 _ _ npm hp, L.cl, L.nLeaves, f1, .inl ⟨rfl, ls, SqL.of (by rw [upd_ne nxl.symm]; exact s2 _ _ nlm hl)⟩, _, rfl, l, _, _, rfl, rfl, by rw [upd_ne nxl.symm]; exact s2 _ _ nlm hl, small1000 (by omega), ?_⟩
    refine ⟨_, rfl, ?_⟩
    rw [lay2] at q b1
    have kk : KeepL3 l g m H (upd (upd H2 x (.ins CP dx' (putF "number" (.int (ls.length : Nat)) (plF (.ref a) w0 (.ref nd) av (.int (ms.length : Nat)) (.int (-1)) (.ref t))))) l (.lst (ls ++ [.ref x]))) := fun b o n1 n2 n3 e => by
      rw [upd_ne n1, upd_ne (ne_of_none e nx)]
      exact s2 b o n3 e
    refine q _ x [.ref x] [] (ms ++ [.ref x]) kk upd_same ?_ ?_ ?_ ?_ .nil
    · rw [List.append_nil, upd_ne nlg.symm, upd_ne nxg.symm]
      exact s2 _ _ ngm hg
    · rw [upd_ne nlm.symm, upd_ne nxm.symm]
      exact m2
    · simp only [List.length_append, List.length_singleton]
      omega
    · have kn := (kk.n hl hg hm).t
      refine .cons ⟨x, dx', nd, _, .ref a, av, xs, rfl, by rw [upd_ne nxl, upd_same], plN_form _ _ _ _ _ _ _ _, dp_n kn _ _ (noL_form hD) (.tup hT' (.cons h1 (.cons h2 .nil))), noL_form hD, plN_node _ _ _ _ _ _ _ _, seqT_n kn hn, plN_above _ _ _ _ _ _ _ _, dp_n kn _ _ (noL_ab ab) ha⟩ .nil
  · obtain ⟨rfl, v1, v2, rfl, dc, dd⟩ := h3 _ _ _ rfl
    refine ⟨_, rfl, a, _, rfl, seqT_n nk2 hT, false, rfl, ?_⟩
    refine ⟨_, rfl, _, rfl, by show 2 ≤ sizeLine; decide, fun o no2 => ?_⟩
    have s3 := same_new no2 (.lst [av, av])
    have nH : H o = none := by
      cases z : H o with
      | none => rfl
      | some u =>
        by_cases c : o = m
        · rw [c, m2] at no2
          cases no2
        · rw [s2 _ _ c z] at no2
          cases no2
    have nol : o ≠ l := (ne_of_none hl nH).symm
    have nog : o ≠ g := (ne_of_none hg nH).symm
    have nom : o ≠ m := (ne_of_none hm nH).symm
    refine ⟨_, rfl, x, CP, dx', _, _, rfl, s3 _ _ hx, L.pl.cl, L.pl.nWord, pl_word _ _ _ _ _ _ _, T.aFork, _, rfl, .inr (T.sFork _), rfl, rfl, _, rfl, ?_⟩
    show (if inV (.str y) (forkW.map V.str) = true then _ else _)
    rw [inV_str]
    by_cases hy2 : y ∈ forkW
    · rw [decide_eq_true hy2]
      have s23 : ∀ b u, b ≠ m → H b = some u → upd H2 o (.lst [av, av]) b = some u := fun b u n e => s3 b u (s2 b u n e)
      refine iteT ⟨_, rfl, p, CL, dx, lf, _, rfl, s23 _ _ npm hp, L.cl, L.nForks, f2, _, _, rfl, .inl ⟨gs, SqL.of (s23 _ _ ngm hg), rfl⟩, _, rfl, x, CP, dx', _, rfl, s3 _ _ hx, L.pl.cl, L.pl.nNumber, l0, ?_⟩
      rw [lay3f _ _ _ _ _ hy2] at q b1 b2 b3
      simp only [List.length_append, List.length_cons] at b1 b2 b3
      generalize hH4 : upd (upd H2 o (.lst [av, av])) x (.ins CP dx' (putF "number" (.int (gs.length : Nat)) (plF (.ref a) (.str y) (.ref nd) av (.int (ms.length : Nat)) (.int (-1)) (.ref t)))) = H4
      have s4 : ∀ b o, b ≠ m → H b = some o → H4 b = some o := fun b o n e => by
        rw [← hH4, upd_ne (ne_of_none e nx)]
        exact s23 b o n e
      have m4 : H4 m = some (.lst (ms ++ [.ref x])) := by
        rw [← hH4, upd_ne nxm.symm]
        exact s3 _ _ m2
      have x4 : H4 x = some (.ins CP dx' (putF "number" (.int (gs.length : Nat)) (plF (.ref a) (.str y) (.ref nd) av (.int (ms.length : Nat)) (.int (-1)) (.ref t)))) := by rw [← hH4, upd_same]
      refine ⟨_, rfl, p, CL, dx, lf, _, rfl, s4 _ _ npm hp, L.cl, L.nForks, f2, .inl ⟨rfl, gs, SqL.of (s4 _ _ ngm hg)⟩, _, rfl, g, _, _, rfl, rfl, s4 _ _ ngm hg, small1000 (by omega), ?_⟩
      have k4g : KeepL3 l g m H (upd H4 g (.lst (gs ++ [.ref x]))) := fun b o n1 n2 n3 e => by
        rw [upd_ne n2]
        exact s4 b o n3 e
      have n4g := (k4g.n hl hg hm).t
      refine ⟨le1k, fun tt H6 s6 e6 => ⟨tt, rfl, ⟨_, e6⟩, fun D nD => ?_⟩⟩
      have x6 : H6 x = some (.ins CP dx' (putF "number" (.int (gs.length : Nat)) (plF (.ref a) (.str y) (.ref nd) av (.int (ms.length : Nat)) (.int (-1)) (.ref t)))) := s6 _ _ (by rw [upd_ne nxg]; exact x4)
      have m6 : H6 m = some (.lst (ms ++ [.ref x])) := s6 _ _ (by rw [upd_ne ngm.symm]; exact m4)
      have k6 : KeepL3 l g m H H6 := k4g.trans (Same.l3 s6)
      have ha2 : Dp K H av (.tuple (ab.map fun p => .tuple [.int p.1, .int p.2])) := ha
      obtain ⟨avA, avs, eav, sav, dav⟩ : ∃ avA avs, av = .ref avA ∧ SqT K H avA avs ∧ DpAll K H avs (ab.map fun p => .tuple [.int p.1, .int p.2]) := by
        cases ha2 with | tup h1 h2 => exact ⟨_, _, rfl, h1, h2⟩
      have lav : avs.length = ab.length := by rw [dpAll_len dav, List.length_map]
      have nHD : H D = none := by
        cases z : H D with
        | none => rfl
        | some u =>
          by_cases c1 : D = g
          · rw [c1, s6 _ _ upd_same] at nD
            cases nD
          · by_cases c2 : D = m
            · rw [c2, m6] at nD
              cases nD
            · rw [s6 _ _ (by rw [upd_ne c1]; exact s4 _ _ c2 z)] at nD
              cases nD
      refine lc_it walk_tup (fun i H' => Same H6 H' ∧ ∃ us : List V, H' D = some (.lst us) ∧ us.length = i ∧ ∀ mm u, us[mm]? = some u → Dp K H' u (abD (ab ++ [(gs.length, mm)]))) ⟨same_new nD _, [], upd_same, rfl, fun mm u z => by simp at z⟩ (fun i H' _ pv => seqT_same pv.1 e6) (fun i xx H7 H8 hi pv yy => ?_) (fun H5 pv => ?_)
      · obtain ⟨rfl, hxx⟩ := yy
        obtain ⟨s7, us, eD, lus, pus⟩ := pv
        have exx : xx = .int (i : Nat) := by
          match i, hi with
          | 0, _ => exact (Option.some.inj hxx).symm
          | 1, _ => exact (Option.some.inj hxx).symm
        subst exx
        have k7 := k6.trans (Same.l3 s7)
        have n7 := (k7.n hl hg hm).t
        refine ⟨rfl, av, rfl, _, rfl, x, CP, dx', _, .int (gs.length : Nat), rfl, s7 _ _ x6, L.pl.cl, L.pl.nNumber, plN_number _ _ _ _ _ _ _ _, _, rfl, le1k, fun q1 H8 s8 e8 => ⟨le1k, fun q2 H9 s9 e9 => ⟨avA, q2, avs, _, eav, rfl, ?_, e9, ?_, fun pp H10 s10 e10 => ?_⟩⟩⟩
        · exact seqT_same s9 (seqT_same s8 (seqT_n n7 sav))
        · rw [lav]
          show ab.length + 1 ≤ 1000
          omega
        have s710 := Same.trans s8 (Same.trans s9 s10)
        refine ⟨us, s710 _ _ eD, small1000 (by have : [V.int 0, V.int 1].length = 2 := rfl; omega), ?_, ?_⟩
        · exact same_at (Same.trans s7 s710) nD
        · refine ⟨us ++ [.ref pp], upd_same, by rw [List.length_append, lus]; rfl, fun mm u hu => ?_⟩
          have kd := keepT_lst (o := .lst (us ++ [.ref pp])) (s710 _ _ eD)
          by_cases c1 : mm < us.length
          · rw [List.getElem?_append_left c1] at hu
            exact dp_n kd _ _ (noL_ab _) (dp_n (Same.n s710).t _ _ (noL_ab _) (pus mm u hu))
          · rw [List.getElem?_append_right (by omega)] at hu
            have em : mm = us.length := by
              have := (List.getElem?_eq_some_iff.mp hu).1
              simp at this
              omega
            subst em
            rw [Nat.sub_self] at hu
            have eu : u = .ref pp := (Option.some.inj hu).symm
            subst eu
            rw [lus]
            refine abD_snoc (xs := avs) (q := q1) ?_ ?_ ?_
            · exact seqT_n kd e10
            · exact dpAll_n kd _ _ (noL_ab ab) (dpAll_n (Same.n s710).t _ _ (noL_ab ab) (dpAll_n n7 _ _ (noL_ab ab) dav))
            · exact seqT_n kd (seqT_same (Same.trans s9 s10) e8)
      · obtain ⟨s65, us, eD, lus, pus⟩ := pv
        obtain ⟨u0, u1, rfl⟩ : ∃ u0 u1, us = [u0, u1] := by
          match us, lus with
          | [u0, u1], _ => exact ⟨u0, u1, rfl⟩
        have k5 : KeepL3 l g m H H5 := k6.trans (Same.l3 s65)
        have m5 : H5 m = some (.lst (ms ++ [.ref x])) := s65 _ _ m6
        have l5 : H5 l = some (.lst ls) := s65 _ _ (s6 _ _ (by rw [upd_ne nlg]; exact s4 _ _ nlm hl))
        obtain ⟨gsf, egs⟩ : ∃ gsf : List V, gsf = [.ref x] := ⟨_, rfl⟩
        have g5 : H5 g = some (.lst (gs ++ gsf)) := by
          rw [egs]
          exact s65 _ _ (s6 _ _ upd_same)
        obtain ⟨frk, efr⟩ : ∃ frk : List (Str × Ab), frk = [(y, ab)] := ⟨_, rfl⟩
        obtain ⟨fsx, efs⟩ : ∃ fsx, fsx = putF "number" (.int (gs.length : Nat)) (plF (.ref a) (.str y) (.ref nd) av (.int (ms.length : Nat)) (.int (-1)) (.ref t)) := ⟨_, rfl⟩
        have x5 : H5 x = some (.ins CP dx' fsx) := by rw [efs]; exact s65 _ _ x6
        have len5 : fsx.length < 1000 := by
          rw [efs]
          have := putF_len "number" (.int (gs.length : Nat)) (plF (.ref a) (.str y) (.ref nd) av (.int (ms.length : Nat)) (.int (-1)) (.ref t))
          have := plF_len' (.ref a) (.str y) (.ref nd) av (.int (ms.length : Nat)) (.int (-1)) (.ref t)
          omega
        have n5 := (k5.n hl hg hm).t
        have F5 : Paired (ForkIs K CP e H5) gsf frk := by
          rw [egs, efr]
          refine .cons ⟨x, dx', nd, fsx, av, xs, rfl, x5, ?_, ?_, seqT_n n5 hn, ?_, dp_n n5 _ _ (noL_ab ab) ha⟩ .nil
          · rw [efs]
            exact plN_word _ _ _ _ _ _ _ _
          · rw [efs]
            exact plN_node _ _ _ _ _ _ _ _
          · rw [efs]
            exact plN_above _ _ _ _ _ _ _ _
        have lz : gs.length + gsf.length = gs.length + 1 := by rw [egs]; rfl
        obtain ⟨ab0, eab0⟩ : ∃ ab0 : Ab, ab0 = ab ++ [(gs.length, 0)] := ⟨_, rfl⟩
        obtain ⟨ab1, eab1⟩ : ∃ ab1 : Ab, ab1 = ab ++ [(gs.length, 1)] := ⟨_, rfl⟩
        have d0 : Dp K H5 u0 (abD ab0) := by
          rw [eab0]
          exact pus 0 u0 rfl
        have d1 : Dp K H5 u1 (abD ab1) := by
          rw [eab1]
          exact pus 1 u1 rfl
        have o5 : H5 D = some (.lst [u0, u1]) := eD
        have nol : D ≠ l := (ne_of_none hl nHD).symm
        have nog : D ≠ g := (ne_of_none hg nHD).symm
        have nom : D ≠ m := (ne_of_none hm nHD).symm
        have la0 : ab0.length ≤ ab.length + 1 := by rw [eab0, List.length_append]; exact Nat.le_refl _
        have la1 : ab1.length ≤ ab.length + 1 := by rw [eab1, List.length_append]; exact Nat.le_refl _
        have hq : ∀ (H' : Hp) (r : Addr) (ls' gs' ms' : List V), KeepL3 l g m H H' → H' l = some (.lst (ls ++ ls')) → H' g = some (.lst (gs ++ gs')) → H' m = some (.lst ms') → ms'.length + 1 ≤ ms.length + 2 * ((lay (gs.length + gsf.length) ab0 c).1 ++ (lay (gs.length + gsf.length + (lay (gs.length + gsf.length) ab0 c).2.length) ab1 d).1).length → Paired (LeafIs K CP e H') ls' ((lay (gs.length + gsf.length) ab0 c).1 ++ (lay (gs.length + gsf.length + (lay (gs.length + gsf.length) ab0 c).2.length) ab1 d).1) →
            Paired (ForkIs K CP e H') gs' (frk ++ ((lay (gs.length + gsf.length) ab0 c).2 ++ (lay (gs.length + gsf.length + (lay (gs.length + gsf.length) ab0 c).2.length) ab1 d).2)) → Q (.ref r) H' := by
          rw [lz, eab0, eab1, efr]
          exact q
        have b3' : ms.length + 2 * ((lay (gs.length + gsf.length) ab0 c).1.length + (lay (gs.length + gsf.length + (lay (gs.length + gsf.length) ab0 c).2.length) ab1 d).1.length) ≤ 1000 := by
          rw [lz, eab0, eab1]
          exact b3
        have b1' : ls.length + ((lay (gs.length + gsf.length) ab0 c).1.length + (lay (gs.length + gsf.length + (lay (gs.length + gsf.length) ab0 c).2.length) ab1 d).1.length) ≤ 1000 := by
          rw [lz, eab0, eab1]
          exact b1
        have b2' : gs.length + gsf.length + ((lay (gs.length + gsf.length) ab0 c).2.length + (lay (gs.length + gsf.length + (lay (gs.length + gsf.length) ab0 c).2.length) ab1 d).2.length) ≤ 1000 := by
          rw [lz, eab0, eab1]
          omega
        have lenF := Paired.length F5
        have ld := lay_less (f := gs.length + gsf.length + (lay (gs.length + gsf.length) ab0 c).2.length) (ab := ab1) hd
        have k5n := (k5.n hl hg hm).t
        refine ⟨_, rfl, p, dx, lf, rfl, k5 _ _ npl npg npm hp, f3, ?_⟩
        refine ⟨_, rfl, a, _, _, _, rfl, rfl, seqT_n k5n hT, rfl, _, rfl, le1k, fun t1 H6 s6 e6 => ⟨nd, t1, _, _, rfl, rfl, seqT_n (Same.n s6).t (seqT_n k5n hn), e6, ?_, fun n1 H7 s7 e7 => ?_⟩⟩
        · simp only [List.length_cons, List.length_nil]
          omega
        have s57 := Same.trans s6 s7
        have k7 := k5.trans (Same.l3 s57)
        refine ⟨_, rfl, D, _, _, _, rfl, rfl, SqL.of (s57 _ _ o5), rfl, ?_⟩
        refine ⟨p, l, g, m, n1, dx, lf, ls, gs ++ gsf, ms ++ [.ref x], xs ++ [V.int 0], e, j, v1, u0, c, ab0, rfl, by omega, k7 _ _ npl npg npm hp, f1, f2, fm, f3, nlg, nlm, ngm, s57 _ _ l5, s57 _ _ g5, s57 _ _ m5, ?_, ?_, ?_, dp_n (k7.n hl hg hm).t _ _ (noL_form hc) dc, hc, e7, by rw [List.length_append, List.length_singleton]; omega, dp_n (Same.n s57).t _ _ (noL_ab _) d0, by omega, fun H8 r8 ls8 gs8 ms8 k8 l8 g8 m8 q8 P8 F8 => ?_⟩
        · rw [List.length_append]
          omega
        · rw [List.length_append]
          omega
        · simp only [List.length_append, List.length_singleton]
          omega
        rw [List.length_append] at P8 F8
        have lenP8 := Paired.length P8
        have lenF8 := Paired.length F8
        simp only [List.length_append, List.length_singleton] at q8
        have k78 := k7.trans k8
        have n78 := (k78.n hl hg hm).t
        have k58 : KeepL3 l g m H5 H8 := (Same.l3 s57).trans k8
        have n58 := (k58.n l5 g5 m5).t
        refine ⟨_, rfl, p, dx, lf, rfl, k78 _ _ npl npg npm hp, f3, ?_⟩
        refine ⟨_, rfl, a, _, _, _, rfl, rfl, seqT_n n78 hT, rfl, _, rfl, le1k, fun t2 H9 s9 e9 => ⟨nd, t2, _, _, rfl, rfl, seqT_n (Same.n s9).t (seqT_n n78 hn), e9, ?_, fun n2 H10 s10 e10 => ?_⟩⟩
        · simp only [List.length_cons, List.length_nil]
          omega
        have s810 := Same.trans s9 s10
        have k10 := k78.trans (Same.l3 s810)
        refine ⟨_, rfl, D, _, _, _, rfl, rfl, SqL.of (s810 _ _ (k58 _ _ nol nog nom o5)), rfl, ?_⟩
        have e8 : ((gs ++ gsf) ++ gs8).length = gs.length + gsf.length + (lay (gs.length + gsf.length) ab0 c).2.length := by
          rw [List.length_append, List.length_append, lenF8]
        refine ⟨p, l, g, m, n2, dx, lf, ls ++ ls8, (gs ++ gsf) ++ gs8, ms8, xs ++ [V.int 1], e, j, v2, u1, d, ab1, rfl, by omega, k10 _ _ npl npg npm hp, f1, f2, fm, f3, nlg, nlm, ngm, s810 _ _ l8, s810 _ _ g8, s810 _ _ m8, ?_, ?_, ?_, dp_n (k10.n hl hg hm).t _ _ (noL_form hd) dd, hd, e10, by rw [List.length_append, List.length_singleton]; omega, dp_n (Same.n s810).t _ _ (noL_ab _) (dp_n n58 _ _ (noL_ab _) d1), by omega, fun H11 r11 ls11 gs11 ms11 k11 l11 g11 m11 q11 P11 F11 => ?_⟩
        · rw [e8, List.length_append, lenP8]
          omega
        · rw [e8]
          omega
        · rw [e8]
          omega
        rw [e8] at P11 F11 q11
        have kk := k10.trans k11
        have k811 : KeepL3 l g m H8 H11 := (Same.l3 s810).trans k11
        have n811 := k811.n l8 g8 m8
        refine ⟨_, rfl, _, rfl, le1k, fun hh H12 s12 e12 => ?_⟩
        have x12 : H12 x = some (.ins CP dx' fsx) := s12 _ _ (k811 _ _ nxl nxg nxm (k58 _ _ nxl nxg nxm x5))
        refine ⟨_, rfl, x, CP, dx', _, rfl, x12, L.pl.cl, L.pl.nHalves, len5, ?_⟩
        refine ⟨_, rfl, hq _ x (ls8 ++ ls11) (gsf ++ (gs8 ++ gs11)) ms11 ?_ ?_ ?_ ?_ ?_ ?_ ?_⟩
        · intro b o' b1 b2 b3 e'
          rw [upd_ne (ne_of_none e' nx)]
          exact s12 _ _ (kk _ _ b1 b2 b3 e')
        · rw [upd_ne nxl.symm, s12 _ _ l11, List.append_assoc]
        · rw [upd_ne nxg.symm, s12 _ _ g11, List.append_assoc, List.append_assoc]
        · rw [upd_ne nxm.symm, s12 _ _ m11]
        · rw [List.length_append]
          omega
        · refine paired_app (paired_imp (fun _ _ z => ?_) P8) (paired_imp (fun _ _ z => ?_) P11)
          · exact LeafIs.put x12 (LeafIs.n (Same.n s12) (LeafIs.n n811 z))
          · exact LeafIs.put x12 (LeafIs.n (Same.n s12) z)
        · refine paired_app (paired_imp (fun _ _ z => ?_) F5) (paired_app (paired_imp (fun _ _ z => ?_) F8) (paired_imp (fun _ _ z => ?_) F11))
          · exact ForkIs.put x12 (ForkIs.n (Same.n s12) (ForkIs.n n811 (ForkIs.n (k58.n l5 g5 m5) z)))
          · exact ForkIs.put x12 (ForkIs.n (Same.n s12) (ForkIs.n n811 z))
          · exact ForkIs.put x12 (ForkIs.n (Same.n s12) z)
    · rw [decide_eq_false hy2]
      rw [lay3n _ _ _ _ _ hy2] at q b1 b2 b3
      simp only [List.length_append] at b1 b2 b3
      generalize hH5 : upd H2 o (.lst [av, av]) = H5 at *
      have k5 : KeepL3 l g m H H5 := fun b u _ _ n3 e => s3 b u (s2 b u n3 e)
      have m5 : H5 m = some (.lst (ms ++ [.ref x])) := s3 _ _ m2
      have l5 : H5 l = some (.lst ls) := s3 _ _ (s2 _ _ nlm hl)
      have g5 : H5 g = some (.lst (gs ++ [])) := by rw [List.append_nil]; exact s3 _ _ (s2 _ _ ngm hg)
      have o5 : H5 o = some (.lst [av, av]) := by rw [← hH5, upd_same]
      obtain ⟨gsf, egs⟩ : ∃ gsf : List V, gsf = [] := ⟨_, rfl⟩
      obtain ⟨frk, efr⟩ : ∃ frk : List (Str × Ab), frk = [] := ⟨_, rfl⟩
      have F5 : Paired (ForkIs K CP e H5) gsf frk := by
        rw [egs, efr]
        exact .nil
      rw [← egs] at g5
      have lz : gs.length + gsf.length = gs.length := by rw [egs]; rfl
      obtain ⟨ab0, eab0⟩ : ∃ ab0 : Ab, ab0 = ab := ⟨_, rfl⟩
      obtain ⟨ab1, eab1⟩ : ∃ ab1 : Ab, ab1 = ab := ⟨_, rfl⟩
      obtain ⟨u0, eu0⟩ : ∃ u0 : V, u0 = av := ⟨_, rfl⟩
      obtain ⟨u1, eu1⟩ : ∃ u1 : V, u1 = av := ⟨_, rfl⟩
      have d0 : Dp K H5 u0 (abD ab0) := by
        rw [eu0, eab0]
        exact dp_n (k5.n hl hg hm).t _ _ (noL_ab ab) ha
      have d1 : Dp K H5 u1 (abD ab1) := by
        rw [eu1, eab1]
        exact dp_n (k5.n hl hg hm).t _ _ (noL_ab ab) ha
      have o5 : H5 o = some (.lst [u0, u1]) := by rw [eu0, eu1]; exact o5
      obtain ⟨fsx, efs⟩ : ∃ fsx, fsx = plF (.ref a) (.str y) (.ref nd) av (.int (ms.length : Nat)) (.int (-1)) (.ref t) := ⟨_, rfl⟩
      have x5 : H5 x = some (.ins CP dx' fsx) := by rw [efs]; exact s3 _ _ hx
      have len5 : fsx.length < 1000 := by rw [efs]; exact l0
      have la0 : ab0.length ≤ ab.length + 1 := by rw [eab0]; omega
      have la1 : ab1.length ≤ ab.length + 1 := by rw [eab1]; omega
      have hq : ∀ (H' : Hp) (r : Addr) (ls' gs' ms' : List V), KeepL3 l g m H H' → H' l = some (.lst (ls ++ ls')) → H' g = some (.lst (gs ++ gs')) → H' m = some (.lst ms') → ms'.length + 1 ≤ ms.length + 2 * ((lay (gs.length + gsf.length) ab0 c).1 ++ (lay (gs.length + gsf.length + (lay (gs.length + gsf.length) ab0 c).2.length) ab1 d).1).length → Paired (LeafIs K CP e H') ls' ((lay (gs.length + gsf.length) ab0 c).1 ++ (lay (gs.length + gsf.length + (lay (gs.length + gsf.length) ab0 c).2.length) ab1 d).1) →
          Paired (ForkIs K CP e H') gs' (frk ++ ((lay (gs.length + gsf.length) ab0 c).2 ++ (lay (gs.length + gsf.length + (lay (gs.length + gsf.length) ab0 c).2.length) ab1 d).2)) → Q (.ref r) H' := by
        rw [lz, eab0, eab1, efr]
        exact q
      have b3' : ms.length + 2 * ((lay (gs.length + gsf.length) ab0 c).1.length + (lay (gs.length + gsf.length + (lay (gs.length + gsf.length) ab0 c).2.length) ab1 d).1.length) ≤ 1000 := by
        rw [lz, eab0, eab1]
        exact b3
      have b1' : ls.length + ((lay (gs.length + gsf.length) ab0 c).1.length + (lay (gs.length + gsf.length + (lay (gs.length + gsf.length) ab0 c).2.length) ab1 d).1.length) ≤ 1000 := by
        rw [lz, eab0, eab1]
        exact b1
      have b2' : gs.length + gsf.length + ((lay (gs.length + gsf.length) ab0 c).2.length + (lay (gs.length + gsf.length + (lay (gs.length + gsf.length) ab0 c).2.length) ab1 d).2.length) ≤ 1000 := by
        rw [lz, eab0, eab1]
        exact b2

      have lenF := Paired.length F5
      have ld := lay_less (f := gs.length + gsf.length + (lay (gs.length + gsf.length) ab0 c).2.length) (ab := ab1) hd
      have k5n := (k5.n hl hg hm).t
      refine ⟨_, rfl, p, dx, lf, rfl, k5 _ _ npl npg npm hp, f3, ?_⟩
      refine ⟨_, rfl, a, _, _, _, rfl, rfl, seqT_n k5n hT, rfl, _, rfl, le1k, fun t1 H6 s6 e6 => ⟨nd, t1, _, _, rfl, rfl, seqT_n (Same.n s6).t (seqT_n k5n hn), e6, ?_, fun n1 H7 s7 e7 => ?_⟩⟩
      · simp only [List.length_cons, List.length_nil]
        omega
      have s57 := Same.trans s6 s7
      have k7 := k5.trans (Same.l3 s57)
      refine ⟨_, rfl, o, _, _, _, rfl, rfl, SqL.of (s57 _ _ o5), rfl, ?_⟩
      refine ⟨p, l, g, m, n1, dx, lf, ls, gs ++ gsf, ms ++ [.ref x], xs ++ [V.int 0], e, j, v1, u0, c, ab0, rfl, by omega, k7 _ _ npl npg npm hp, f1, f2, fm, f3, nlg, nlm, ngm, s57 _ _ l5, s57 _ _ g5, s57 _ _ m5, ?_, ?_, ?_, dp_n (k7.n hl hg hm).t _ _ (noL_form hc) dc, hc, e7, by rw [List.length_append, List.length_singleton]; omega, dp_n (Same.n s57).t _ _ (noL_ab _) d0, by omega, fun H8 r8 ls8 gs8 ms8 k8 l8 g8 m8 q8 P8 F8 => ?_⟩
      · rw [List.length_append]
        omega
      · rw [List.length_append]
        omega
      · simp only [List.length_append, List.length_singleton]
        omega
      rw [List.length_append] at P8 F8
      have lenP8 := Paired.length P8
      have lenF8 := Paired.length F8
      simp only [List.length_append, List.length_singleton] at q8
      have k78 := k7.trans k8
      have n78 := (k78.n hl hg hm).t
      have k58 : KeepL3 l g m H5 H8 := (Same.l3 s57).trans k8
      have n58 := (k58.n l5 g5 m5).t
      refine ⟨_, rfl, p, dx, lf, rfl, k78 _ _ npl npg npm hp, f3, ?_⟩
      refine ⟨_, rfl, a, _, _, _, rfl, rfl, seqT_n n78 hT, rfl, _, rfl, le1k, fun t2 H9 s9 e9 => ⟨nd, t2, _, _, rfl, rfl, seqT_n (Same.n s9).t (seqT_n n78 hn), e9, ?_, fun n2 H10 s10 e10 => ?_⟩⟩
      · simp only [List.length_cons, List.length_nil]
        omega
      have s810 := Same.trans s9 s10
      have k10 := k78.trans (Same.l3 s810)
      refine ⟨_, rfl, o, _, _, _, rfl, rfl, SqL.of (s810 _ _ (k58 _ _ nol nog nom o5)), rfl, ?_⟩
      have e8 : ((gs ++ gsf) ++ gs8).length = gs.length + gsf.length + (lay (gs.length + gsf.length) ab0 c).2.length := by
        rw [List.length_append, List.length_append, lenF8]
      refine ⟨p, l, g, m, n2, dx, lf, ls ++ ls8, (gs ++ gsf) ++ gs8, ms8, xs ++ [V.int 1], e, j, v2, u1, d, ab1, rfl, by omega, k10 _ _ npl npg npm hp, f1, f2, fm, f3, nlg, nlm, ngm, s810 _ _ l8, s810 _ _ g8, s810 _ _ m8, ?_, ?_, ?_, dp_n (k10.n hl hg hm).t _ _ (noL_form hd) dd, hd, e10, by rw [List.length_append, List.length_singleton]; omega, dp_n (Same.n s810).t _ _ (noL_ab _) (dp_n n58 _ _ (noL_ab _) d1), by omega, fun H11 r11 ls11 gs11 ms11 k11 l11 g11 m11 q11 P11 F11 => ?_⟩
      · rw [e8, List.length_append, lenP8]
        omega
      · rw [e8]
        omega
      · rw [e8]
        omega
      rw [e8] at P11 F11 q11
      have kk := k10.trans k11
      have k811 : KeepL3 l g m H8 H11 := (Same.l3 s810).trans k11
      have n811 := k811.n l8 g8 m8
      refine ⟨_, rfl, _, rfl, le1k, fun hh H12 s12 e12 => ?_⟩
      have x12 : H12 x = some (.ins CP dx' fsx) := s12 _ _ (k811 _ _ nxl nxg nxm (k58 _ _ nxl nxg nxm x5))
      refine ⟨_, rfl, x, CP, dx', _, rfl, x12, L.pl.cl, L.pl.nHalves, len5, ?_⟩
      refine ⟨_, rfl, hq _ x (ls8 ++ ls11) (gsf ++ (gs8 ++ gs11)) ms11 ?_ ?_ ?_ ?_ ?_ ?_ ?_⟩
      · intro b o' b1 b2 b3 e'
        rw [upd_ne (ne_of_none e' nx)]
        exact s12 _ _ (kk _ _ b1 b2 b3 e')
      · rw [upd_ne nxl.symm, s12 _ _ l11, List.append_assoc]
      · rw [upd_ne nxg.symm, s12 _ _ g11, List.append_assoc, List.append_assoc]
      · rw [upd_ne nxm.symm, s12 _ _ m11]
      · rw [List.length_append]
        omega
      · refine paired_app (paired_imp (fun _ _ z => ?_) P8) (paired_imp (fun _ _ z => ?_) P11)
        · exact LeafIs.put x12 (LeafIs.n (Same.n s12) (LeafIs.n n811 z))
        · exact LeafIs.put x12 (LeafIs.n (Same.n s12) z)
      · refine paired_app (paired_imp (fun _ _ z => ?_) F5) (paired_app (paired_imp (fun _ _ z => ?_) F8) (paired_imp (fun _ _ z => ?_) F11))
        · exact ForkIs.put x12 (ForkIs.n (Same.n s12) (ForkIs.n n811 (ForkIs.n (k58.n l5 g5 m5) z)))
        · exact ForkIs.put x12 (ForkIs.n (Same.n s12) (ForkIs.n n811 z))
        · exact ForkIs.put x12 (ForkIs.n (Same.n s12) z)
end
end My

set_option Elab.async false
set_option linter.all false
set_option maxRecDepth 100000
namespace My
open PySem L2
def layE : Nat → Nat → List PyData → List (Nat × (PyData × Ab)) × List (Nat × (Str × Ab))
  | _, _, [] => ([], [])
  | f, e, D :: ds => ((lay f [] D).1.map (fun r => (e, r)) ++ (layE (f + (lay f [] D).2.length) (e + 1) ds).1, (lay f [] D).2.map (fun r => (e, r)) ++ (layE (f + (lay f [] D).2.length) (e + 1) ds).2)
theorem layE_snoc (D : PyData) : ∀ (ds : List PyData) (f e : Nat), layE f e (ds ++ [D]) =
    ((layE f e ds).1 ++ (lay (f + (layE f e ds).2.length) [] D).1.map (fun r => (e + ds.length, r)), (layE f e ds).2 ++ (lay (f + (layE f e ds).2.length) [] D).2.map (fun r => (e + ds.length, r)))
  | [], f, e => by
    simp [layE]
  | C :: ds, f, e => by
    have ih := layE_snoc D ds (f + (lay f [] C).2.length) (e + 1)
    rw [List.cons_append]
    simp only [layE, ih, List.length_append, List.length_map, List.length_cons, List.append_assoc]
    have e1 : f + ((lay f [] C).2.length + (layE (f + (lay f [] C).2.length) (e + 1) ds).2.length) = f + (lay f [] C).2.length + (layE (f + (lay f [] C).2.length) (e + 1) ds).2.length := by omega
    have e2 : e + 1 + ds.length = e + (ds.length + 1) := by omega
    rw [e1, e2]
theorem layE_leaves : ∀ (ds : List PyData) (f e : Nat), ds.all (isForm 12) = true → (layE f e ds).1.map (fun r => r.2.1) = ds.flatMap lvs
  | [], _, _, _ => rfl
  | D :: ds, f, e, h => by
    have h' : (isForm 12 D && ds.all (isForm 12)) = true := h
    obtain ⟨h1, h2⟩ := Bool.and_eq_true_iff.mp h'
    simp only [layE, List.map_append, List.map_map, List.flatMap_cons]
    rw [layE_leaves ds _ _ h2, ← lay_leaves (f := f) (ab := []) h1]
    rfl
theorem layE_less : ∀ (ds : List PyData) (f e : Nat), ds.all (isForm 12) = true → (layE f e ds).2.length ≤ (layE f e ds).1.length
  | [], _, _, _ => Nat.le_refl _
  | D :: ds, f, e, h => by
    have h' : (isForm 12 D && ds.all (isForm 12)) = true := h
    obtain ⟨h1, h2⟩ := Bool.and_eq_true_iff.mp h'
    have a := lay_less (f := f) (ab := []) h1
    have b := layE_less ds (f + (lay f [] D).2.length) (e + 1) h2
    simp only [layE, List.length_append, List.length_map]
    omega
def LeafE (K : PySem.W.Frag) (CP : Addr) (H : Hp) (v : V) (r : Nat × (PyData × Ab)) : Prop := LeafIs K CP r.1 H v r.2
def ForkE (K : PySem.W.Frag) (CP : Addr) (H : Hp) (v : V) (r : Nat × (Str × Ab)) : Prop := ForkIs K CP r.1 H v r.2
theorem paired_map {α β γ : Type} {r : α → γ → Prop} {s : α → β → Prop} {f : β → γ} (h : ∀ x y, s x y → r x (f y)) : ∀ {xs : List α} {ys : List β}, Paired s xs ys → Paired r xs (ys.map f)
  | _, _, .nil => .nil
  | _, _, .cons a b => .cons (h _ _ a) (paired_map h b)
theorem keepN_lst {H : Hp} {x : Addr} {xs : List V} {o : HO} (e : H x = some (.lst xs)) : KeepN H (upd H x o) := fun b u no z => by
  rw [upd_ne (fun y => no xs (by rw [y, e] at z; exact (Option.some.inj z).symm))]
  exact z
abbrev sLayI : Stmt := inClass (top 24) 0
abbrev NLayI : List Str := ["self", "ends", "at", "form"]
abbrev PLayI : List Str := ["self", "ends"]
theorem scLayI : FnScope NLayI PLayI (defScope sLayI) := ⟨rfl, rfl, rfl, by decide +kernel, rfl, by decide +kernel, by decide +kernel⟩
def laF (l g r m : Addr) : List (Str × V) := putF "roots" (.ref r) (putF "forks" (.ref g) (putF "leaves" (.ref l) (putF "places" (.ref m) [])))
theorem m1 : ¬ (("leaves" : Str) = "roots") := by decide +kernel
theorem m2 : ¬ (("leaves" : Str) = "forks") := by decide +kernel
theorem m3 : ¬ (("forks" : Str) = "roots") := by decide +kernel
theorem m4 : ¬ (("laid" : Str) = "roots") := by decide +kernel
theorem m5 : ¬ (("laid" : Str) = "forks") := by decide +kernel
theorem m7 : ¬ (("places" : Str) = "roots") := by decide +kernel
theorem m8 : ¬ (("places" : Str) = "forks") := by decide +kernel
theorem m9 : ¬ (("places" : Str) = "leaves") := by decide +kernel
theorem m10 : ¬ (("laid" : Str) = "places") := by decide +kernel
theorem m6 : ¬ (("laid" : Str) = "leaves") := by decide +kernel
theorem la_leaves (l g r m : Addr) : (laF l g r m).lookup ("leaves" : Str) = some (.ref l) := by
  unfold laF
  rw [lookup_putF, if_neg m1, lookup_putF, if_neg m2, lookup_putF, if_pos rfl]
theorem la_forks (l g r m : Addr) : (laF l g r m).lookup ("forks" : Str) = some (.ref g) := by
  unfold laF
  rw [lookup_putF, if_neg m3, lookup_putF, if_pos rfl]
theorem la_roots (l g r m : Addr) : (laF l g r m).lookup ("roots" : Str) = some (.ref r) := by
  unfold laF
  rw [lookup_putF, if_pos rfl]
theorem la_laid (l g r m : Addr) : (laF l g r m).lookup ("laid" : Str) = none := by
  unfold laF
  rw [lookup_putF, if_neg m4, lookup_putF, if_neg m5, lookup_putF, if_neg m6, lookup_putF, if_neg m10]
  rfl
theorem la_places (l g r m : Addr) : (laF l g r m).lookup ("places" : Str) = some (.ref m) := by
  unfold laF
  rw [lookup_putF, if_neg m7, lookup_putF, if_neg m8, lookup_putF, if_neg m9, lookup_putF, if_pos rfl]
/-- a layout of ends, made behind the heap H0 -/
def LayAt (K : PySem.W.Frag) (CP CL : Addr) (H0 H : Hp) (p : Addr) (ds : List PyData) : Prop := Same H0 H ∧ ∃ (dx l g : Addr) (lf : List (Str × V)) (ls gs : List V), H p = some (.ins CL dx lf) ∧ lf.lookup ("leaves" : Str) = some (.ref l) ∧ lf.lookup ("forks" : Str) = some (.ref g) ∧
  H l = some (.lst ls) ∧ H g = some (.lst gs) ∧ Paired (LeafE K CP H) ls (layE 0 0 ds).1 ∧ Paired (ForkE K CP H) gs (layE 0 0 ds).2
def spLayI (K : PySem.W.Frag) (CP CL : Addr) : Sp := fun vs H Q _ => ∃ (H0 : Hp) (p a dx : Addr) (xs : List V) (ds : List PyData), vs = [.ref p, .ref a] ∧ Same H0 H ∧ H0 p = none ∧ H p = some (.ins CL dx []) ∧ (SqL K H0 a xs ∨ SqT K H0 a xs) ∧ DpAll K H0 xs ds ∧ ds.all (isForm 12) = true ∧ ds.length ≤ 40 ∧ (ds.flatMap lvs).length ≤ 40 ∧
  ∀ H', LayAt K CP CL H0 H' p ds → Q .non H'
section
variable {P : Program} {w : World} {K : PySem.W.Frag} {mg : Str → Option Value} {base : Heap} {f : Addr} {fd : FuncData}
theorem okLayI {CP CL fI fL : Addr} {fdL : FuncData} (T : Txt7 K mg) (L : LaTxt K mg CP CL fI fL) (F : Fun K "__init__" "Layout.__init__" sLayI f fd) (GL : FnOk P w K mg base CX0 15 fL fdL Plaid (spLaid K CP CL 13)) (bL : Binds K fdL Plaid []) : FnOk P w K mg base CX0 16 f fd PLayI (spLayI K CP CL) := by
  refine F.ok scLayI (fun vs H Q E h => ?_) (fun cdv A outer s H vs Q E hr h => ?_)
  · obtain ⟨H0, p, a, dx, xs, ds, rfl, _⟩ := h
    rfl
  obtain ⟨H0, p, a, dx, xs, ds, rfl, s0, p0, hp, hS, hA, hF, hN, hL, q⟩ := h
  refine ⟨_, pss_cons (ps_fld (pv 0) (pe_lst pa_nil) rfl) (pss_cons (ps_fld (pv 0) (pe_lst pa_nil) rfl) (pss_cons (ps_fld (pv 0) (pe_lst pa_nil) rfl) (pss_cons (ps_fld (pv 0) (pe_lst pa_nil) rfl)
    (pss_one (ps_for PassesOwn.never rfl (pi_orR (pi_enum rfl T.enumerate (pa_cons (pv 1) pa_nil)) (Enu.pi_enumT rfl T.enumerate (pa_cons (pv 1) pa_nil))) (pg_tup rfl (pgs_cons (pg_name (i := 2) scLayI.nd rfl (Or.inl rfl)) (pgs_cons (pg_name (i := 3) scLayI.nd rfl (Or.inl rfl)) pgs_nil)))
      (pss_one (ps_expr (pe_bm PySem.F.plainAttrs_list PySem.F.slot_list_append PySem.F.type_list_append mt_append (pe_fld (pv 0) rfl) (pa_cons (pe_meth (pv 0) L.cl L.laid GL hr bL .nil pass0 (pa_cons (pv 3) (pa_cons (pe_tupN (pa_cons (pv 2) pa_nil)) (pa_cons (pe_tupN pa_nil) pa_nil)))) pa_nil))))))))), ?_⟩
  have hl := dpAll_len hA
  refine ⟨Nat.zero_le _, fun m nm => ?_⟩
  have npm : p ≠ m := ne_of_none hp nm
  have m0 : H0 m = none := s0.free nm
  have a1 := putF_len "places" (.ref m) []
  simp only [List.length_nil] at a1
  refine ⟨_, rfl, p, CL, dx, _, rfl, by rw [upd_ne npm]; exact hp, L.cl, L.nPlaces, (by show 0 < 1000; decide), Nat.zero_le _, fun l nl => ?_⟩
  have npl : p ≠ l := fun z => by
    rw [← z, upd_same] at nl
    cases nl
  have nlm : l ≠ m := fun z => by
    rw [z, upd_ne npm.symm, upd_same] at nl
    cases nl
  have l0 : H0 l = none := s0.free (by rw [upd_ne npl.symm, upd_ne nlm] at nl; exact nl)
  have a2 := putF_len "leaves" (.ref l) (putF "places" (.ref m) [])
  refine ⟨_, rfl, p, CL, dx, _, rfl, by rw [upd_ne npl, upd_same], L.cl, L.nLeaves, (by omega), Nat.zero_le _, fun g ng => ?_⟩
  have npg : p ≠ g := fun z => by
    rw [← z, upd_same] at ng
    cases ng
  have ngl : g ≠ l := fun z => by
    rw [z, upd_ne npl.symm, upd_same] at ng
    cases ng
  have ngm : g ≠ m := fun z => by
    rw [z, upd_ne npm.symm, upd_ne nlm.symm, upd_ne npm.symm, upd_same] at ng
    cases ng
  have g0' : H0 g = none := s0.free (by rw [upd_ne npg.symm, upd_ne ngl, upd_ne npg.symm, upd_ne ngm] at ng; exact ng)
  have a3 := putF_len "forks" (.ref g) (putF "leaves" (.ref l) (putF "places" (.ref m) []))
  refine ⟨_, rfl, p, CL, dx, _, rfl, by rw [upd_ne npg, upd_same], L.cl, L.nForks, (by omega), Nat.zero_le _, fun r nr => ?_⟩
  have npr : p ≠ r := fun z => by
    rw [← z, upd_same] at nr
    cases nr
  have nrg : r ≠ g := fun z => by
    rw [z, upd_ne npg.symm, upd_same] at nr
    cases nr
  have nrl : r ≠ l := fun z => by
    rw [z, upd_ne npl.symm, upd_ne ngl.symm, upd_ne npl.symm, upd_same] at nr
    cases nr
  have nrm : r ≠ m := fun z => by
    rw [z, upd_ne npm.symm, upd_ne ngm.symm, upd_ne npm.symm, upd_ne nlm.symm, upd_ne npm.symm, upd_same] at nr
    cases nr
  have r0 : H0 r = none := s0.free (by rw [upd_ne npr.symm, upd_ne nrg, upd_ne npr.symm, upd_ne nrl, upd_ne npr.symm, upd_ne nrm] at nr; exact nr)
  refine ⟨_, rfl, p, CL, dx, _, rfl, by rw [upd_ne npr, upd_same], L.cl, L.nRoots, (by omega), ?_⟩
  generalize hH3 : upd (upd (upd (upd (upd (upd (upd (upd H m (.lst [])) p (.ins CL dx (putF "places" (.ref m) []))) l (.lst [])) p (.ins CL dx (putF "leaves" (.ref l) (putF "places" (.ref m) [])))) g (.lst [])) p (.ins CL dx (putF "forks" (.ref g) (putF "leaves" (.ref l) (putF "places" (.ref m) []))))) r (.lst [])) p (.ins CL dx (putF "roots" (.ref r) (putF "forks" (.ref g) (putF "leaves" (.ref l) (putF "places" (.ref m) []))))) = H3
  have hp3 : H3 p = some (.ins CL dx (laF l g r m)) := by
    rw [← hH3, upd_same]
    rfl
  have hr3 : H3 r = some (.lst []) := by rw [← hH3, upd_ne npr.symm, upd_same]
  have hg3 : H3 g = some (.lst []) := by rw [← hH3, upd_ne npg.symm, upd_ne nrg.symm, upd_ne npg.symm, upd_same]
  have hl3 : H3 l = some (.lst []) := by rw [← hH3, upd_ne npl.symm, upd_ne nrl.symm, upd_ne npl.symm, upd_ne ngl.symm, upd_ne npl.symm, upd_same]
  have hm3 : H3 m = some (.lst []) := by rw [← hH3, upd_ne npm.symm, upd_ne nrm.symm, upd_ne npm.symm, upd_ne ngm.symm, upd_ne npm.symm, upd_ne nlm.symm, upd_ne npm.symm, upd_same]
  have s3 : Same H0 H3 := fun b o e => by
    have c1 : b ≠ p := ne_of_none e p0
    rw [← hH3, upd_ne c1, upd_ne (ne_of_none e r0), upd_ne c1, upd_ne (ne_of_none e g0'), upd_ne c1, upd_ne (ne_of_none e l0), upd_ne c1, upd_ne (ne_of_none e m0)]
    exact s0 _ _ e
  rcases hS with hS | hS
  · refine .inl ⟨_, rfl, a, xs, rfl, s3.seq hS, ?_⟩
    refine for_it walk_enum (fun i σ H' => ∃ ls gs rs ms : List V, Same H0 H' ∧ H' p = some (.ins CL dx (laF l g r m)) ∧ H' m = some (.lst ms) ∧ ms.length ≤ 2 * (layE 0 0 (ds.take i)).1.length ∧ H' l = some (.lst ls) ∧ H' g = some (.lst gs) ∧ H' r = some (.lst rs) ∧ rs.length = i ∧ Paired (LeafE K CP H') ls (layE 0 0 (ds.take i)).1 ∧ Paired (ForkE K CP H') gs (layE 0 0 (ds.take i)).2 ∧ σ[0]? = some (some (.ref p)) ∧ σ.length = 4)
      ⟨[], [], [], [], s3, hp3, hm3, Nat.zero_le _, hl3, hg3, hr3, rfl, .nil, .nil, rfl, rfl⟩ (fun i σ H' _ pv => by obtain ⟨_, _, _, _, s, _⟩ := pv; exact s.seq hS) (fun i x σ H4 H5 hi pv y => ?_) (fun σ H' pv => ?_)
    · obtain ⟨ls, gs, rs, ms, s4, hp4, hm4, lm, hl4, hg4, hr4, lr, PL, PF, g0, gl⟩ := pv
      obtain ⟨tt, x1, z, rfl, nt, rfl, e1, e2⟩ := y
      have ex1 : x1 = .int (i : Nat) := (Option.some.inj e1).symm
      subst ex1
      obtain ⟨d, hd, hzd⟩ := dpAll_at hA e2
      have hm : d ∈ ds := List.mem_of_getElem? hd
      have fd : isForm 12 d = true := List.all_eq_true.mp hF d hm
      have s5 : Same H4 (upd H4 tt (.tup [.int (i : Nat), z])) := same_new nt _
      have tup5 : upd H4 tt (.tup [.int (i : Nat), z]) tt = some (.tup [.int (i : Nat), z]) := upd_same
      generalize upd H4 tt (.tup [.int (i : Nat), z]) = H5 at *
      have hp5 := s5 _ _ hp4
      have k1 : σ[0]? = some (some (.ref p)) := g0
      have q0 : ((σ.set 2 (some (.int (i : Nat)))).set 3 (some z))[0]? = some (some (.ref p)) := by
        rw [List.getElem?_set_ne (by omega), List.getElem?_set_ne (by omega)]
        exact g0
      have q2 : ((σ.set 2 (some (.int (i : Nat)))).set 3 (some z))[2]? = some (some (.int (i : Nat))) := by
        rw [List.getElem?_set_ne (by omega), List.getElem?_set_self (by omega)]
      have q3 : ((σ.set 2 (some (.int (i : Nat)))).set 3 (some z))[3]? = some (some z) := by
        rw [List.getElem?_set_self (by rw [List.length_set]; omega)]
      refine ⟨tt, [.int (i : Nat), z], rfl, SqT.of tup5, rfl, _, [z], rfl, z, [], rfl, rfl, ?_⟩
      refine ⟨_, q0, p, CL, dx, _, _, rfl, hp5, L.cl, L.nRoots, la_roots _ _ _ _, .inl ⟨rfl, rs, SqL.of (s5 _ _ hr4)⟩, _, q0, p, dx, _, rfl, hp5, la_laid _ _ _ _, _, q3, _, q2, le1k, fun n1 H7 s7 e7 => ⟨Nat.zero_le _, fun n2 H8 s8 e8 => ?_⟩⟩
      have s48 := Same.trans s5 (Same.trans s7 s8)
      have snoc := layE_snoc d (ds.take i) 0 0
      have etk : ds.take (i + 1) = ds.take i ++ [d] := take_next hd
      have lti : (ds.take i).length = i := by
        rw [List.length_take]
        omega
      have lPF := Paired.length PF
      have lPL := Paired.length PL
      rw [← lPF, lti] at snoc
      simp only [Nat.zero_add] at snoc
      have allT : (ds.take (i + 1)).all (isForm 12) = true := by
        rw [List.all_eq_true]
        intro y hy
        exact List.all_eq_true.mp hF y (List.mem_of_mem_take hy)
      have many : (layE 0 0 (ds.take (i + 1))).1.length ≤ 40 := by
        have e := congrArg List.length (layE_leaves (ds.take (i + 1)) 0 0 allT)
        rw [List.length_map] at e
        rw [e]
        have e3 : (ds.flatMap lvs).length = ((ds.take (i + 1)).flatMap lvs).length + ((ds.drop (i + 1)).flatMap lvs).length := by
          rw [← List.length_append, ← List.flatMap_append, List.take_append_drop]
        omega
      have less := layE_less (ds.take (i + 1)) 0 0 allT
      rw [etk, snoc] at many less
      simp only [List.length_append, List.length_map] at many less
      refine ⟨p, l, g, m, n1, dx, _, ls, gs, ms, [], i, 12, z, .ref n2, d, [], rfl, by omega, s48 _ _ hp4, la_leaves _ _ _ _, la_forks _ _ _ _, la_places _ _ _ _, la_laid _ _ _ _, ngl.symm, nlm, ngm, s48 _ _ hl4, s48 _ _ hg4, s48 _ _ hm4, by omega, by omega, by omega, dp_n (Same.n s48).t _ _ (noL_form fd) (dp_same s4 _ _ hzd), fd, seqT_same s8 e7, by decide, .tup e8 .nil, by decide, fun H9 qq ls' gs' ms' k9 l9 g9 m9 q9 P9 F9 => ?_⟩
      have hr9 : H9 r = some (.lst rs) := k9 _ _ nrl nrg nrm (s48 _ _ hr4)
      refine ⟨r, rs, .ref qq, rfl, rfl, hr9, small1000 (by omega), ?_⟩
      have n49 : KeepN H4 H9 := fun b o no e => (k9.n (s48 _ _ hl4) (s48 _ _ hg4) (s48 _ _ hm4)) b o no (s48 _ _ e)
      have nr9 := keepN_lst (o := .lst (rs ++ [.ref qq])) hr9
      refine ⟨ls ++ ls', gs ++ gs', rs ++ [.ref qq], ms', ?_, ?_, ?_, ?_, ?_, ?_, upd_same, by rw [List.length_append, lr]; rfl, ?_, ?_, q0, by rw [List.length_set, List.length_set]; exact gl⟩
      · intro b o e
        rw [upd_ne (ne_of_none e r0)]
        exact k9 _ _ (ne_of_none e l0) (ne_of_none e g0') (ne_of_none e m0) (s48 _ _ (s4 _ _ e))
      · rw [upd_ne npr]
        exact k9 _ _ npl npg npm (s48 _ _ hp4)
      · rw [upd_ne nrm.symm]
        exact m9
      · rw [etk, snoc]
        simp only [List.length_append, List.length_map]
        omega
      · rw [upd_ne nrl.symm]
        exact l9
      · rw [upd_ne nrg.symm]
        exact g9
      · rw [etk, snoc]
        exact paired_app (paired_imp (fun _ _ y => LeafIs.n nr9 (LeafIs.n n49 y)) PL) (paired_map (r := LeafE K CP (upd H9 r (.lst (rs ++ [.ref qq])))) (f := fun r => (i, r)) (fun _ _ y => LeafIs.n nr9 y) P9)
      · rw [etk, snoc]
        exact paired_app (paired_imp (fun _ _ y => ForkIs.n nr9 (ForkIs.n n49 y)) PF) (paired_map (r := ForkE K CP (upd H9 r (.lst (rs ++ [.ref qq])))) (f := fun r => (i, r)) (fun _ _ y => ForkIs.n nr9 y) F9)
    · obtain ⟨ls, gs, rs, ms, s4, hp4, hm4, lm, hl4, hg4, hr4, lr, PL, PF, g0, gl⟩ := pv
      rw [List.take_of_length_le (by omega)] at PL PF
      exact q H' ⟨s4, dx, l, g, _, ls, gs, hp4, la_leaves _ _ _ _, la_forks _ _ _ _, hl4, hg4, PL, PF⟩
  · refine .inr ⟨_, rfl, a, xs, rfl, seqT_same s3 hS, ?_⟩
    refine for_it Enu.walk_enumT (fun i σ H' => ∃ ls gs rs ms : List V, Same H0 H' ∧ H' p = some (.ins CL dx (laF l g r m)) ∧ H' m = some (.lst ms) ∧ ms.length ≤ 2 * (layE 0 0 (ds.take i)).1.length ∧ H' l = some (.lst ls) ∧ H' g = some (.lst gs) ∧ H' r = some (.lst rs) ∧ rs.length = i ∧ Paired (LeafE K CP H') ls (layE 0 0 (ds.take i)).1 ∧ Paired (ForkE K CP H') gs (layE 0 0 (ds.take i)).2 ∧ σ[0]? = some (some (.ref p)) ∧ σ.length = 4)
      ⟨[], [], [], [], s3, hp3, hm3, Nat.zero_le _, hl3, hg3, hr3, rfl, .nil, .nil, rfl, rfl⟩ (fun i σ H' _ pv => by obtain ⟨_, _, _, _, s, _⟩ := pv; exact seqT_same s hS) (fun i x σ H4 H5 hi pv y => ?_) (fun σ H' pv => ?_)
    · obtain ⟨ls, gs, rs, ms, s4, hp4, hm4, lm, hl4, hg4, hr4, lr, PL, PF, g0, gl⟩ := pv
      obtain ⟨tt, x1, z, rfl, nt, rfl, e1, e2⟩ := y
      have ex1 : x1 = .int (i : Nat) := (Option.some.inj e1).symm
      subst ex1
      obtain ⟨d, hd, hzd⟩ := dpAll_at hA e2
      have hm : d ∈ ds := List.mem_of_getElem? hd
      have fd : isForm 12 d = true := List.all_eq_true.mp hF d hm
      have s5 : Same H4 (upd H4 tt (.tup [.int (i : Nat), z])) := same_new nt _
      have tup5 : upd H4 tt (.tup [.int (i : Nat), z]) tt = some (.tup [.int (i : Nat), z]) := upd_same
      generalize upd H4 tt (.tup [.int (i : Nat), z]) = H5 at *
      have hp5 := s5 _ _ hp4
      have k1 : σ[0]? = some (some (.ref p)) := g0
      have q0 : ((σ.set 2 (some (.int (i : Nat)))).set 3 (some z))[0]? = some (some (.ref p)) := by
        rw [List.getElem?_set_ne (by omega), List.getElem?_set_ne (by omega)]
        exact g0
      have q2 : ((σ.set 2 (some (.int (i : Nat)))).set 3 (some z))[2]? = some (some (.int (i : Nat))) := by
        rw [List.getElem?_set_ne (by omega), List.getElem?_set_self (by omega)]
      have q3 : ((σ.set 2 (some (.int (i : Nat)))).set 3 (some z))[3]? = some (some z) := by
        rw [List.getElem?_set_self (by rw [List.length_set]; omega)]
      refine ⟨tt, [.int (i : Nat), z], rfl, SqT.of tup5, rfl, _, [z], rfl, z, [], rfl, rfl, ?_⟩
      refine ⟨_, q0, p, CL, dx, _, _, rfl, hp5, L.cl, L.nRoots, la_roots _ _ _ _, .inl ⟨rfl, rs, SqL.of (s5 _ _ hr4)⟩, _, q0, p, dx, _, rfl, hp5, la_laid _ _ _ _, _, q3, _, q2, le1k, fun n1 H7 s7 e7 => ⟨Nat.zero_le _, fun n2 H8 s8 e8 => ?_⟩⟩
      have s48 := Same.trans s5 (Same.trans s7 s8)
      have snoc := layE_snoc d (ds.take i) 0 0
      have etk : ds.take (i + 1) = ds.take i ++ [d] := take_next hd
      have lti : (ds.take i).length = i := by
        rw [List.length_take]
        omega
      have lPF := Paired.length PF
      have lPL := Paired.length PL
      rw [← lPF, lti] at snoc
      simp only [Nat.zero_add] at snoc
      have allT : (ds.take (i + 1)).all (isForm 12) = true := by
        rw [List.all_eq_true]
        intro y hy
        exact List.all_eq_true.mp hF y (List.mem_of_mem_take hy)
      have many : (layE 0 0 (ds.take (i + 1))).1.length ≤ 40 := by
        have e := congrArg List.length (layE_leaves (ds.take (i + 1)) 0 0 allT)
        rw [List.length_map] at e
        rw [e]
        have e3 : (ds.flatMap lvs).length = ((ds.take (i + 1)).flatMap lvs).length + ((ds.drop (i + 1)).flatMap lvs).length := by
          rw [← List.length_append, ← List.flatMap_append, List.take_append_drop]
        omega
      have less := layE_less (ds.take (i + 1)) 0 0 allT
      rw [etk, snoc] at many less
      simp only [List.length_append, List.length_map] at many less
      refine ⟨p, l, g, m, n1, dx, _, ls, gs, ms, [], i, 12, z, .ref n2, d, [], rfl, by omega, s48 _ _ hp4, la_leaves _ _ _ _, la_forks _ _ _ _, la_places _ _ _ _, la_laid _ _ _ _, ngl.symm, nlm, ngm, s48 _ _ hl4, s48 _ _ hg4, s48 _ _ hm4, by omega, by omega, by omega, dp_n (Same.n s48).t _ _ (noL_form fd) (dp_same s4 _ _ hzd), fd, seqT_same s8 e7, by decide, .tup e8 .nil, by decide, fun H9 qq ls' gs' ms' k9 l9 g9 m9 q9 P9 F9 => ?_⟩
      have hr9 : H9 r = some (.lst rs) := k9 _ _ nrl nrg nrm (s48 _ _ hr4)
      refine ⟨r, rs, .ref qq, rfl, rfl, hr9, small1000 (by omega), ?_⟩
      have n49 : KeepN H4 H9 := fun b o no e => (k9.n (s48 _ _ hl4) (s48 _ _ hg4) (s48 _ _ hm4)) b o no (s48 _ _ e)
      have nr9 := keepN_lst (o := .lst (rs ++ [.ref qq])) hr9
      refine ⟨ls ++ ls', gs ++ gs', rs ++ [.ref qq], ms', ?_, ?_, ?_, ?_, ?_, ?_, upd_same, by rw [List.length_append, lr]; rfl, ?_, ?_, q0, by rw [List.length_set, List.length_set]; exact gl⟩
      · intro b o e
        rw [upd_ne (ne_of_none e r0)]
        exact k9 _ _ (ne_of_none e l0) (ne_of_none e g0') (ne_of_none e m0) (s48 _ _ (s4 _ _ e))
      · rw [upd_ne npr]
        exact k9 _ _ npl npg npm (s48 _ _ hp4)
      · rw [upd_ne nrm.symm]
        exact m9
      · rw [etk, snoc]
        simp only [List.length_append, List.length_map]
        omega
      · rw [upd_ne nrl.symm]
        exact l9
      · rw [upd_ne nrg.symm]
        exact g9
      · rw [etk, snoc]
        exact paired_app (paired_imp (fun _ _ y => LeafIs.n nr9 (LeafIs.n n49 y)) PL) (paired_map (r := LeafE K CP (upd H9 r (.lst (rs ++ [.ref qq])))) (f := fun r => (i, r)) (fun _ _ y => LeafIs.n nr9 y) P9)
      · rw [etk, snoc]
        exact paired_app (paired_imp (fun _ _ y => ForkIs.n nr9 (ForkIs.n n49 y)) PF) (paired_map (r := ForkE K CP (upd H9 r (.lst (rs ++ [.ref qq])))) (f := fun r => (i, r)) (fun _ _ y => ForkIs.n nr9 y) F9)
    · obtain ⟨ls, gs, rs, ms, s4, hp4, hm4, lm, hl4, hg4, hr4, lr, PL, PF, g0, gl⟩ := pv
      rw [List.take_of_length_le (by omega)] at PL PF
      exact q H' ⟨s4, dx, l, g, _, ls, gs, hp4, la_leaves _ _ _ _, la_forks _ _ _ _, hl4, hg4, PL, PF⟩
end
end My

set_option Elab.async false
set_option linter.all false
set_option maxRecDepth 100000
namespace My
open PySem L2
structure CalX (P : Program) (w : World) (K : PySem.W.Frag) (mg : Str → Option Value) (base : Heap) (x : Str) (k : Nat) (ps : List Str) (sp : Sp) where
  f : Addr
  fd : FuncData
  ok : FnOk P w K mg base (L2.CX P w) k f fd ps sp
  m : mg x = some (.ref f)
  kp : PySem.W.keepIn K (.ref f) = true
  b : Binds K fd ps []
theorem isEnds_inv {D : PyData} (h : isEnds D = true) : ∃ ds, (D = .list ds ∨ D = .tuple ds) ∧ ds.length ≤ 40 ∧ ds.all (isForm 12) = true ∧ (ds.flatMap lvs).length ≤ 40 ∧ 1 ≤ ds.length := by
  have key : ∀ ds : List PyData, (decide (1 ≤ ds.length) && decide (ds.length ≤ 40) && ds.all (isForm 12) && decide ((ds.flatMap lvs).length ≤ 40)) = true → ds.length ≤ 40 ∧ ds.all (isForm 12) = true ∧ (ds.flatMap lvs).length ≤ 40 ∧ 1 ≤ ds.length := fun ds h => by
    simp only [Bool.and_eq_true, decide_eq_true_eq] at h
    exact ⟨h.1.1.2, h.1.2, h.2, h.1.1.1⟩
  cases D with
  | list ds => exact ⟨ds, .inl rfl, key ds h⟩
  | tuple ds => exact ⟨ds, .inr rfl, key ds h⟩
  | _ => cases h
/-- what a look at ends tells -/
def spView (K : PySem.W.Frag) (CB : Addr) (out : List PyData → List PyData) : Sp := fun vs H Q E => ∃ v, vs = [v] ∧ ((∃ D, Dp K H v D ∧ shortD D = true ∧ widD D = true ∧
  (isEnds D = true → ∀ ds, (D = .list ds ∨ D = .tuple ds) → ∀ (H' : Hp) (u : V), Same H H' → Dp K H' u (.tuple (out ds)) → Q u H') ∧ (isEnds D = false → badV CB v H E)) ∨ (isDict H v ∧ badV CB v H E))
structure LyTxt (K : PySem.W.Frag) (mg : Str → Option Value) (CL fLI : Addr) : Prop where
  mkL : Mk K CL fLI
  gL : mg "Layout" = some (.ref CL)
theorem noLs_map {α : Type} {f : α → PyData} (h : ∀ a, noL (f a) = true) : ∀ l : List α, noLs (l.map f) = true
  | [] => rfl
  | a :: l => by
    show (noL (f a) && noLs (l.map f)) = true
    rw [h a, noLs_map h l]
    rfl
theorem noLs_map_in {α : Type} {f : α → PyData} : ∀ l : List α, (∀ a ∈ l, noL (f a) = true) → noLs (l.map f) = true
  | [], _ => rfl
  | a :: l, h => by
    show (noL (f a) && noLs (l.map f)) = true
    rw [h a List.mem_cons_self, noLs_map_in l fun b hb => h b (List.mem_cons_of_mem _ hb)]
    rfl
theorem lay_noL : ∀ {k : Nat} {D : PyData} {f : Nat} {ab : Ab}, isForm k D = true → ∀ r ∈ (lay f ab D).1, noL r.1 = true := by
  intro k D f ab h r hr
  have e := lay_leaves (f := f) (ab := ab) h
  have : ∀ {k : Nat} {D : PyData}, isForm k D = true → ∀ x ∈ lvs D, noL x = true := by
    intro k
    induction k with
    | zero =>
      intro D h x hx
      rcases isForm_inv h with ⟨w, n, rfl, hw, hn⟩ | ⟨j, w, a, b, e, _⟩
      · rw [lvs2] at hx
        rw [List.mem_singleton.mp hx]
        rfl
      · cases e
    | succ k ih =>
      intro D h x hx
      rcases isForm_inv h with ⟨w, n, rfl, hw, hn⟩ | ⟨j, w, a, b, e, rfl, hw, ha, hb⟩
      · rw [lvs2] at hx
        rw [List.mem_singleton.mp hx]
        rfl
      · obtain rfl : k = j := by omega
        rw [lvs3] at hx
        rcases List.mem_append.mp hx with hx | hx
        · exact ih ha x hx
        · exact ih hb x hx
  exact this h r.1 (by rw [← e]; exact List.mem_map_of_mem hr)
theorem paired_get {α β : Type} {r : α → β → Prop} : ∀ {xs : List α} {ys : List β} {i : Nat} {x : α}, Paired r xs ys → xs[i]? = some x → ∃ y, ys[i]? = some y ∧ r x y
  | _, _, _, _, .nil, e => by simp at e
  | _, _, 0, _, .cons a _, e => by
    simp at e
    subst e
    exact ⟨_, rfl, a⟩
  | _, _, i + 1, _, .cons _ b, e => by
    obtain ⟨y, h1, h2⟩ := paired_get (i := i) b (by simpa using e)
    exact ⟨y, by simpa using h1, h2⟩
theorem layE_len (ds : List PyData) (hF : ds.all (isForm 12) = true) (hL : (ds.flatMap lvs).length ≤ 40) : (layE 0 0 ds).1.length ≤ 40 ∧ (layE 0 0 ds).2.length ≤ 40 := by
  have e := congrArg List.length (layE_leaves ds 0 0 hF)
  rw [List.length_map] at e
  have := layE_less ds 0 0 hF
  omega
theorem layE_noL : ∀ (ds : List PyData) (f e : Nat), ds.all (isForm 12) = true → ∀ r ∈ (layE f e ds).1, noL r.2.1 = true
  | [], _, _, _, r, hr => by simp [layE] at hr
  | D :: ds, f, e, h, r, hr => by
    have h' : (isForm 12 D && ds.all (isForm 12)) = true := h
    obtain ⟨h1, h2⟩ := Bool.and_eq_true_iff.mp h'
    simp only [layE] at hr
    rcases List.mem_append.mp hr with hr | hr
    · obtain ⟨y, hy, rfl⟩ := List.mem_map.mp hr
      exact lay_noL h1 y hy
    · exact layE_noL ds _ _ h2 r hr
abbrev sleaves : Stmt := top 26
abbrev Nleaves : List Str := ["ends", "leaf"]
abbrev Pleaves : List Str := ["ends"]
theorem scleaves : FnScope Nleaves Pleaves (defScope sleaves) := ⟨rfl, rfl, rfl, by decide +kernel, rfl, by decide +kernel, by decide +kernel⟩
def outleaves (ds : List PyData) : List PyData := (layE 0 0 ds).1.map fun r => r.2.1
section
variable {P : Program} {w : World} {K : PySem.W.Frag} {mg : Str → Option Value} {base : Heap} {f : Addr} {fd : FuncData}
theorem okleaves {CB CP CL fI fL fLI : Addr} {fdLI : FuncData} (T : Txt7 K mg) (L : LaTxt K mg CP CL fI fL) (Y : LyTxt K mg CL fLI) (GI : FnOk P w K mg base CX0 16 fLI fdLI PLayI (spLayI K CP CL)) (bI : Binds K fdLI PLayI []) (C : CalX P w K mg base "check_ends" 17 Pcheck_ends (spCheckEnds K CB))
    (F : Fun K "leaves" "leaves" sleaves f fd) : FnOk P w K mg base (L2.CX P w) 18 f fd Pleaves (spView K CB outleaves) := by
  refine F.okX scleaves (fun vs H Q E h => ?_) (fun cdv A outer s H vs Q E hr h => ?_)
  · obtain ⟨v, rfl, _⟩ := h
    rfl
  obtain ⟨v, rfl, h⟩ := h
  refine ⟨_, pss_cons (ps_expr (pe_callS C.ok (hr.mono (by decide)) rfl C.m C.kp C.b (fun σ => passAt (takes_of rfl rfl rfl rfl) σ) (pa_cons (pv 0) pa_nil)))
    (pss_one (ps_ret (pe_callTy call_tuple_of rfl T.tuple (by decide +kernel) (pa_cons (pe_lc (own := [("leaf", 1)]) (g := (gName 1)) (te := tFld K (tVar 1) "form") rfl scleaves.nd (pi_list (pe_fld (pe_make Y.mkL GI (hr.mono (by decide)) rfl Y.gL bI .nil pass0 (pa_cons (pv 0) pa_nil)) rfl))
      (blkOk_by (own := [("leaf", 1)]) (N := Nleaves) (sc := defScope sleaves) (by decide +kernel)) (fun _ _ _ _ _ => (pg_name (i := 1) scleaves.nd rfl (Or.inl rfl))) (fun _ _ _ _ _ => pts_nil) (fun _ _ _ _ _ => pe_fld (pv 1) rfl)) pa_nil)))), ?_⟩
  rcases h with ⟨D, hv, hz, hw, q, qb⟩ | ⟨hd, qb⟩
  · refine ⟨v, rfl, v, rfl, .inl ⟨D, hv, hz, hw, fun c H1 s1 => ?_, fun c d H' s' nd => qb c d H' s' nd⟩⟩
    obtain ⟨ds, eD, hN, hF, hL, h1⟩ := isEnds_inv c
    have q := q c ds eD
    obtain ⟨a, xs, rfl, hS, hA⟩ : ∃ a xs, v = .ref a ∧ (SqL K H a xs ∨ SqT K H a xs) ∧ DpAll K H xs ds := by
      rcases eD with rfl | rfl
      · cases hv with | lst g1 g2 => exact ⟨_, _, rfl, .inl g1, g2⟩
      · cases hv with | tup g1 g2 => exact ⟨_, _, rfl, .inr g1, g2⟩
    refine ⟨_, rfl, fun x dx nx ndx ne => ?_⟩
    have sx : Same H1 (upd (upd H1 dx (.own x)) x (.ins CL dx [])) := fun b o e => by
      rw [upd_ne (ne_of_none e nx), upd_ne (ne_of_none e ndx)]
      exact e
    refine ⟨H1, x, a, dx, xs, ds, rfl, sx, nx, upd_same, hS.elim (fun g => .inl (s1.seq g)) (fun g => .inr (seqT_same s1 g)), dpAll_same s1 _ _ hA, hF, hN, hL, fun H2 LA => ⟨rfl, ?_⟩⟩
    obtain ⟨s2, dx2, l, g, lf, ls, gs, e1, f1, f2, el, eg, PL, PF⟩ := LA
    have lenP := Paired.length PL
    refine ⟨x, CL, dx2, lf, _, rfl, e1, L.cl, L.nLeaves, f1, l, rfl, ⟨ls, SqL.of el⟩, fun D nD => ?_⟩
    refine lc_it (walk_list (xs := ls)) (fun i H' => Same H2 H' ∧ ∃ us : List V, H' D = some (.lst us) ∧ us.length = i ∧ DpAll K H' us (((layE 0 0 ds).1.take i).map fun r => r.2.1)) ⟨same_new nD _, [], upd_same, rfl, .nil⟩ (fun i H' _ p => SqL.of (p.1 _ _ el)) (fun i y H3 H4 hi p yy => ?_) (fun H3 p => ?_)
    · obtain ⟨rfl, hy⟩ := yy
      obtain ⟨s3, us, eu, lu, du⟩ := p
      obtain ⟨r, hr2, pr⟩ := paired_get PL hy
      obtain ⟨p, dx3, nd, fs, u, z, zs, rfl, ep, a1, d1, n1, a2, t2, a3, d3⟩ := LeafIs.n (Same.n s3) pr
      have etk : (layE 0 0 ds).1.take (i + 1) = (layE 0 0 ds).1.take i ++ [r] := take_next hr2
      have hi2 : i < 1000 := by
        have := layE_len ds hF hL
        omega
      refine ⟨rfl, _, rfl, p, CP, dx3, fs, _, rfl, ep, L.pl.cl, L.pl.nForm, a1, us, eu, small1000 (by omega), same_at s3 nD, us ++ [u], upd_same, by rw [List.length_append, lu]; rfl, ?_⟩
      have kd := keepT_lst (o := .lst (us ++ [u])) eu
      rw [etk, List.map_append]
      refine dpAll_snoc ?_ (dpAll_n kd _ _ ?_ du)
      · exact dp_n kd _ _ n1 d1
      · exact noLs_map_in _ fun r hr => layE_noL ds 0 0 hF r (List.mem_of_mem_take hr)
    · obtain ⟨s3, us, eu, lu, du⟩ := p
      rw [List.take_of_length_le (by omega)] at du
      refine ⟨D, us, rfl, .inl ⟨SqL.of eu, fun t nt => ?_⟩⟩
      have st := same_new nt (.tup us)
      exact q _ _ (Same.trans s1 (Same.trans s2 (Same.trans s3 st))) (.tup (SqT.of upd_same) (dpAll_same st _ _ du))
  · exact ⟨v, rfl, v, rfl, .inr ⟨hd, qb⟩⟩
end
abbrev sforks : Stmt := top 27
abbrev Nforks : List Str := ["ends", "fork"]
abbrev Pforks : List Str := ["ends"]
theorem scforks : FnScope Nforks Pforks (defScope sforks) := ⟨rfl, rfl, rfl, by decide +kernel, rfl, by decide +kernel, by decide +kernel⟩
def outforks (ds : List PyData) : List PyData := (layE 0 0 ds).2.map fun r => .str r.2.1
section
variable {P : Program} {w : World} {K : PySem.W.Frag} {mg : Str → Option Value} {base : Heap} {f : Addr} {fd : FuncData}
theorem okforks {CB CP CL fI fL fLI : Addr} {fdLI : FuncData} (T : Txt7 K mg) (L : LaTxt K mg CP CL fI fL) (Y : LyTxt K mg CL fLI) (GI : FnOk P w K mg base CX0 16 fLI fdLI PLayI (spLayI K CP CL)) (bI : Binds K fdLI PLayI []) (C : CalX P w K mg base "check_ends" 17 Pcheck_ends (spCheckEnds K CB))
    (F : Fun K "forks" "forks" sforks f fd) : FnOk P w K mg base (L2.CX P w) 18 f fd Pforks (spView K CB outforks) := by
  refine F.okX scforks (fun vs H Q E h => ?_) (fun cdv A outer s H vs Q E hr h => ?_)
  · obtain ⟨v, rfl, _⟩ := h
    rfl
  obtain ⟨v, rfl, h⟩ := h
  refine ⟨_, pss_cons (ps_expr (pe_callS C.ok (hr.mono (by decide)) rfl C.m C.kp C.b (fun σ => passAt (takes_of rfl rfl rfl rfl) σ) (pa_cons (pv 0) pa_nil)))
    (pss_one (ps_ret (pe_callTy call_tuple_of rfl T.tuple (by decide +kernel) (pa_cons (pe_lc (own := [("fork", 1)]) (g := (gName 1)) (te := tFld K (tVar 1) "word") rfl scforks.nd (pi_list (pe_fld (pe_make Y.mkL GI (hr.mono (by decide)) rfl Y.gL bI .nil pass0 (pa_cons (pv 0) pa_nil)) rfl))
      (blkOk_by (own := [("fork", 1)]) (N := Nforks) (sc := defScope sforks) (by decide +kernel)) (fun _ _ _ _ _ => (pg_name (i := 1) scforks.nd rfl (Or.inl rfl))) (fun _ _ _ _ _ => pts_nil) (fun _ _ _ _ _ => pe_fld (pv 1) rfl)) pa_nil)))), ?_⟩
  rcases h with ⟨D, hv, hz, hw, q, qb⟩ | ⟨hd, qb⟩
  · refine ⟨v, rfl, v, rfl, .inl ⟨D, hv, hz, hw, fun c H1 s1 => ?_, fun c d H' s' nd => qb c d H' s' nd⟩⟩
    obtain ⟨ds, eD, hN, hF, hL, h1⟩ := isEnds_inv c
    have q := q c ds eD
    obtain ⟨a, xs, rfl, hS, hA⟩ : ∃ a xs, v = .ref a ∧ (SqL K H a xs ∨ SqT K H a xs) ∧ DpAll K H xs ds := by
      rcases eD with rfl | rfl
      · cases hv with | lst g1 g2 => exact ⟨_, _, rfl, .inl g1, g2⟩
      · cases hv with | tup g1 g2 => exact ⟨_, _, rfl, .inr g1, g2⟩
    refine ⟨_, rfl, fun x dx nx ndx ne => ?_⟩
    have sx : Same H1 (upd (upd H1 dx (.own x)) x (.ins CL dx [])) := fun b o e => by
      rw [upd_ne (ne_of_none e nx), upd_ne (ne_of_none e ndx)]
      exact e
    refine ⟨H1, x, a, dx, xs, ds, rfl, sx, nx, upd_same, hS.elim (fun g => .inl (s1.seq g)) (fun g => .inr (seqT_same s1 g)), dpAll_same s1 _ _ hA, hF, hN, hL, fun H2 LA => ⟨rfl, ?_⟩⟩
    obtain ⟨s2, dx2, l, g, lf, ls, gs, e1, f1, f2, el, eg, PL, PF⟩ := LA
    have lenP := Paired.length PF
    refine ⟨x, CL, dx2, lf, _, rfl, e1, L.cl, L.nForks, f2, g, rfl, ⟨gs, SqL.of eg⟩, fun D nD => ?_⟩
    refine lc_it (walk_list (xs := gs)) (fun i H' => Same H2 H' ∧ ∃ us : List V, H' D = some (.lst us) ∧ us.length = i ∧ DpAll K H' us (((layE 0 0 ds).2.take i).map fun r => .str r.2.1)) ⟨same_new nD _, [], upd_same, rfl, .nil⟩ (fun i H' _ p => SqL.of (p.1 _ _ eg)) (fun i y H3 H4 hi p yy => ?_) (fun H3 p => ?_)
    · obtain ⟨rfl, hy⟩ := yy
      obtain ⟨s3, us, eu, lu, du⟩ := p
      obtain ⟨r, hr2, pr⟩ := paired_get PF hy
      obtain ⟨p, dx3, nd, fs, z, zs, rfl, ep, a1, a2, t2, a3, d3⟩ := ForkIs.n (Same.n s3) pr
      have etk : (layE 0 0 ds).2.take (i + 1) = (layE 0 0 ds).2.take i ++ [r] := take_next hr2
      have hi2 : i < 1000 := by
        have := layE_len ds hF hL
        omega
      refine ⟨rfl, _, rfl, p, CP, dx3, fs, _, rfl, ep, L.pl.cl, L.pl.nWord, a1, us, eu, small1000 (by omega), same_at s3 nD, us ++ [.str r.2.1], upd_same, by rw [List.length_append, lu]; rfl, ?_⟩
      have kd := keepT_lst (o := .lst (us ++ [.str r.2.1])) eu
      rw [etk, List.map_append]
      refine dpAll_snoc ?_ (dpAll_n kd _ _ ?_ du)
      · exact .str _
      · exact noLs_map_in _ fun r hr => rfl
    · obtain ⟨s3, us, eu, lu, du⟩ := p
      rw [List.take_of_length_le (by omega)] at du
      refine ⟨D, us, rfl, .inl ⟨SqL.of eu, fun t nt => ?_⟩⟩
      have st := same_new nt (.tup us)
      exact q _ _ (Same.trans s1 (Same.trans s2 (Same.trans s3 st))) (.tup (SqT.of upd_same) (dpAll_same st _ _ du))
  · exact ⟨v, rfl, v, rfl, .inr ⟨hd, qb⟩⟩
end
abbrev sleaf_ends : Stmt := top 28
abbrev Nleaf_ends : List Str := ["ends", "leaf"]
abbrev Pleaf_ends : List Str := ["ends"]
theorem scleaf_ends : FnScope Nleaf_ends Pleaf_ends (defScope sleaf_ends) := ⟨rfl, rfl, rfl, by decide +kernel, rfl, by decide +kernel, by decide +kernel⟩
def outleaf_ends (ds : List PyData) : List PyData := (layE 0 0 ds).1.map fun r => .int (r.1 : Nat)
section
variable {P : Program} {w : World} {K : PySem.W.Frag} {mg : Str → Option Value} {base : Heap} {f : Addr} {fd : FuncData}
theorem okleaf_ends {CB CP CL fI fL fLI : Addr} {fdLI : FuncData} (T : Txt7 K mg) (L : LaTxt K mg CP CL fI fL) (Y : LyTxt K mg CL fLI) (GI : FnOk P w K mg base CX0 16 fLI fdLI PLayI (spLayI K CP CL)) (bI : Binds K fdLI PLayI []) (C : CalX P w K mg base "check_ends" 17 Pcheck_ends (spCheckEnds K CB))
    (F : Fun K "leaf_ends" "leaf_ends" sleaf_ends f fd) : FnOk P w K mg base (L2.CX P w) 18 f fd Pleaf_ends (spView K CB outleaf_ends) := by
  refine F.okX scleaf_ends (fun vs H Q E h => ?_) (fun cdv A outer s H vs Q E hr h => ?_)
  · obtain ⟨v, rfl, _⟩ := h
    rfl
  obtain ⟨v, rfl, h⟩ := h
  refine ⟨_, pss_cons (ps_expr (pe_callS C.ok (hr.mono (by decide)) rfl C.m C.kp C.b (fun σ => passAt (takes_of rfl rfl rfl rfl) σ) (pa_cons (pv 0) pa_nil)))
    (pss_one (ps_ret (pe_callTy call_tuple_of rfl T.tuple (by decide +kernel) (pa_cons (pe_lc (own := [("leaf", 1)]) (g := (gName 1)) (te := tOp (rIxT K) (tFld K (tVar 1) "node") (tC (.int 0))) rfl scleaf_ends.nd (pi_list (pe_fld (pe_make Y.mkL GI (hr.mono (by decide)) rfl Y.gL bI .nil pass0 (pa_cons (pv 0) pa_nil)) rfl))
      (blkOk_by (own := [("leaf", 1)]) (N := Nleaf_ends) (sc := defScope sleaf_ends) (by decide +kernel)) (fun _ _ _ _ _ => (pg_name (i := 1) scleaf_ends.nd rfl (Or.inl rfl))) (fun _ _ _ _ _ => pts_nil) (fun _ _ _ _ _ => pe_ix ix_tup (pe_fld (pv 1) rfl) pe_int (fun _ _ => rfl))) pa_nil)))), ?_⟩
  rcases h with ⟨D, hv, hz, hw, q, qb⟩ | ⟨hd, qb⟩
  · refine ⟨v, rfl, v, rfl, .inl ⟨D, hv, hz, hw, fun c H1 s1 => ?_, fun c d H' s' nd => qb c d H' s' nd⟩⟩
    obtain ⟨ds, eD, hN, hF, hL, h1⟩ := isEnds_inv c
    have q := q c ds eD
    obtain ⟨a, xs, rfl, hS, hA⟩ : ∃ a xs, v = .ref a ∧ (SqL K H a xs ∨ SqT K H a xs) ∧ DpAll K H xs ds := by
      rcases eD with rfl | rfl
      · cases hv with | lst g1 g2 => exact ⟨_, _, rfl, .inl g1, g2⟩
      · cases hv with | tup g1 g2 => exact ⟨_, _, rfl, .inr g1, g2⟩
    refine ⟨_, rfl, fun x dx nx ndx ne => ?_⟩
    have sx : Same H1 (upd (upd H1 dx (.own x)) x (.ins CL dx [])) := fun b o e => by
      rw [upd_ne (ne_of_none e nx), upd_ne (ne_of_none e ndx)]
      exact e
    refine ⟨H1, x, a, dx, xs, ds, rfl, sx, nx, upd_same, hS.elim (fun g => .inl (s1.seq g)) (fun g => .inr (seqT_same s1 g)), dpAll_same s1 _ _ hA, hF, hN, hL, fun H2 LA => ⟨rfl, ?_⟩⟩
    obtain ⟨s2, dx2, l, g, lf, ls, gs, e1, f1, f2, el, eg, PL, PF⟩ := LA
    have lenP := Paired.length PL
    refine ⟨x, CL, dx2, lf, _, rfl, e1, L.cl, L.nLeaves, f1, l, rfl, ⟨ls, SqL.of el⟩, fun D nD => ?_⟩
    refine lc_it (walk_list (xs := ls)) (fun i H' => Same H2 H' ∧ ∃ us : List V, H' D = some (.lst us) ∧ us.length = i ∧ DpAll K H' us (((layE 0 0 ds).1.take i).map fun r => .int (r.1 : Nat))) ⟨same_new nD _, [], upd_same, rfl, .nil⟩ (fun i H' _ p => SqL.of (p.1 _ _ el)) (fun i y H3 H4 hi p yy => ?_) (fun H3 p => ?_)
    · obtain ⟨rfl, hy⟩ := yy
      obtain ⟨s3, us, eu, lu, du⟩ := p
      obtain ⟨r, hr2, pr⟩ := paired_get PL hy
      obtain ⟨p, dx3, nd, fs, u, z, zs, rfl, ep, a1, d1, n1, a2, t2, a3, d3⟩ := LeafIs.n (Same.n s3) pr
      have etk : (layE 0 0 ds).1.take (i + 1) = (layE 0 0 ds).1.take i ++ [r] := take_next hr2
      have hi2 : i < 1000 := by
        have := layE_len ds hF hL
        omega
      refine ⟨rfl, _, rfl, p, CP, dx3, fs, _, rfl, ep, L.pl.cl, L.pl.nNode, a2, nd, _, _, _, rfl, rfl, t2, atI_nat (j := 0) rfl, us, eu, small1000 (by omega), same_at s3 nD, us ++ [.int (r.1 : Nat)], upd_same, by rw [List.length_append, lu]; rfl, ?_⟩
      have kd := keepT_lst (o := .lst (us ++ [.int (r.1 : Nat)])) eu
      rw [etk, List.map_append]
      refine dpAll_snoc ?_ (dpAll_n kd _ _ ?_ du)
      · exact .int _
      · exact noLs_map_in _ fun r hr => rfl
    · obtain ⟨s3, us, eu, lu, du⟩ := p
      rw [List.take_of_length_le (by omega)] at du
      refine ⟨D, us, rfl, .inl ⟨SqL.of eu, fun t nt => ?_⟩⟩
      have st := same_new nt (.tup us)
      exact q _ _ (Same.trans s1 (Same.trans s2 (Same.trans s3 st))) (.tup (SqT.of upd_same) (dpAll_same st _ _ du))
  · exact ⟨v, rfl, v, rfl, .inr ⟨hd, qb⟩⟩
end
abbrev sfork_ends : Stmt := top 29
abbrev Nfork_ends : List Str := ["ends", "fork"]
abbrev Pfork_ends : List Str := ["ends"]
theorem scfork_ends : FnScope Nfork_ends Pfork_ends (defScope sfork_ends) := ⟨rfl, rfl, rfl, by decide +kernel, rfl, by decide +kernel, by decide +kernel⟩
def outfork_ends (ds : List PyData) : List PyData := (layE 0 0 ds).2.map fun r => .int (r.1 : Nat)
section
variable {P : Program} {w : World} {K : PySem.W.Frag} {mg : Str → Option Value} {base : Heap} {f : Addr} {fd : FuncData}
theorem okfork_ends {CB CP CL fI fL fLI : Addr} {fdLI : FuncData} (T : Txt7 K mg) (L : LaTxt K mg CP CL fI fL) (Y : LyTxt K mg CL fLI) (GI : FnOk P w K mg base CX0 16 fLI fdLI PLayI (spLayI K CP CL)) (bI : Binds K fdLI PLayI []) (C : CalX P w K mg base "check_ends" 17 Pcheck_ends (spCheckEnds K CB))
    (F : Fun K "fork_ends" "fork_ends" sfork_ends f fd) : FnOk P w K mg base (L2.CX P w) 18 f fd Pfork_ends (spView K CB outfork_ends) := by
  refine F.okX scfork_ends (fun vs H Q E h => ?_) (fun cdv A outer s H vs Q E hr h => ?_)
  · obtain ⟨v, rfl, _⟩ := h
    rfl
  obtain ⟨v, rfl, h⟩ := h
  refine ⟨_, pss_cons (ps_expr (pe_callS C.ok (hr.mono (by decide)) rfl C.m C.kp C.b (fun σ => passAt (takes_of rfl rfl rfl rfl) σ) (pa_cons (pv 0) pa_nil)))
    (pss_one (ps_ret (pe_callTy call_tuple_of rfl T.tuple (by decide +kernel) (pa_cons (pe_lc (own := [("fork", 1)]) (g := (gName 1)) (te := tOp (rIxT K) (tFld K (tVar 1) "node") (tC (.int 0))) rfl scfork_ends.nd (pi_list (pe_fld (pe_make Y.mkL GI (hr.mono (by decide)) rfl Y.gL bI .nil pass0 (pa_cons (pv 0) pa_nil)) rfl))
      (blkOk_by (own := [("fork", 1)]) (N := Nfork_ends) (sc := defScope sfork_ends) (by decide +kernel)) (fun _ _ _ _ _ => (pg_name (i := 1) scfork_ends.nd rfl (Or.inl rfl))) (fun _ _ _ _ _ => pts_nil) (fun _ _ _ _ _ => pe_ix ix_tup (pe_fld (pv 1) rfl) pe_int (fun _ _ => rfl))) pa_nil)))), ?_⟩
  rcases h with ⟨D, hv, hz, hw, q, qb⟩ | ⟨hd, qb⟩
  · refine ⟨v, rfl, v, rfl, .inl ⟨D, hv, hz, hw, fun c H1 s1 => ?_, fun c d H' s' nd => qb c d H' s' nd⟩⟩
    obtain ⟨ds, eD, hN, hF, hL, h1⟩ := isEnds_inv c
    have q := q c ds eD
    obtain ⟨a, xs, rfl, hS, hA⟩ : ∃ a xs, v = .ref a ∧ (SqL K H a xs ∨ SqT K H a xs) ∧ DpAll K H xs ds := by
      rcases eD with rfl | rfl
      · cases hv with | lst g1 g2 => exact ⟨_, _, rfl, .inl g1, g2⟩
      · cases hv with | tup g1 g2 => exact ⟨_, _, rfl, .inr g1, g2⟩
    refine ⟨_, rfl, fun x dx nx ndx ne => ?_⟩
    have sx : Same H1 (upd (upd H1 dx (.own x)) x (.ins CL dx [])) := fun b o e => by
      rw [upd_ne (ne_of_none e nx), upd_ne (ne_of_none e ndx)]
      exact e
    refine ⟨H1, x, a, dx, xs, ds, rfl, sx, nx, upd_same, hS.elim (fun g => .inl (s1.seq g)) (fun g => .inr (seqT_same s1 g)), dpAll_same s1 _ _ hA, hF, hN, hL, fun H2 LA => ⟨rfl, ?_⟩⟩
    obtain ⟨s2, dx2, l, g, lf, ls, gs, e1, f1, f2, el, eg, PL, PF⟩ := LA
    have lenP := Paired.length PF
    refine ⟨x, CL, dx2, lf, _, rfl, e1, L.cl, L.nForks, f2, g, rfl, ⟨gs, SqL.of eg⟩, fun D nD => ?_⟩
    refine lc_it (walk_list (xs := gs)) (fun i H' => Same H2 H' ∧ ∃ us : List V, H' D = some (.lst us) ∧ us.length = i ∧ DpAll K H' us (((layE 0 0 ds).2.take i).map fun r => .int (r.1 : Nat))) ⟨same_new nD _, [], upd_same, rfl, .nil⟩ (fun i H' _ p => SqL.of (p.1 _ _ eg)) (fun i y H3 H4 hi p yy => ?_) (fun H3 p => ?_)
    · obtain ⟨rfl, hy⟩ := yy
      obtain ⟨s3, us, eu, lu, du⟩ := p
      obtain ⟨r, hr2, pr⟩ := paired_get PF hy
      obtain ⟨p, dx3, nd, fs, z, zs, rfl, ep, a1, a2, t2, a3, d3⟩ := ForkIs.n (Same.n s3) pr
      have etk : (layE 0 0 ds).2.take (i + 1) = (layE 0 0 ds).2.take i ++ [r] := take_next hr2
      have hi2 : i < 1000 := by
        have := layE_len ds hF hL
        omega
      refine ⟨rfl, _, rfl, p, CP, dx3, fs, _, rfl, ep, L.pl.cl, L.pl.nNode, a2, nd, _, _, _, rfl, rfl, t2, atI_nat (j := 0) rfl, us, eu, small1000 (by omega), same_at s3 nD, us ++ [.int (r.1 : Nat)], upd_same, by rw [List.length_append, lu]; rfl, ?_⟩
      have kd := keepT_lst (o := .lst (us ++ [.int (r.1 : Nat)])) eu
      rw [etk, List.map_append]
      refine dpAll_snoc ?_ (dpAll_n kd _ _ ?_ du)
      · exact .int _
      · exact noLs_map_in _ fun r hr => rfl
    · obtain ⟨s3, us, eu, lu, du⟩ := p
      rw [List.take_of_length_le (by omega)] at du
      refine ⟨D, us, rfl, .inl ⟨SqL.of eu, fun t nt => ?_⟩⟩
      have st := same_new nt (.tup us)
      exact q _ _ (Same.trans s1 (Same.trans s2 (Same.trans s3 st))) (.tup (SqT.of upd_same) (dpAll_same st _ _ du))
  · exact ⟨v, rfl, v, rfl, .inr ⟨hd, qb⟩⟩
end
abbrev sabove_leaves : Stmt := top 30
abbrev Nabove_leaves : List Str := ["ends", "leaf"]
abbrev Pabove_leaves : List Str := ["ends"]
theorem scabove_leaves : FnScope Nabove_leaves Pabove_leaves (defScope sabove_leaves) := ⟨rfl, rfl, rfl, by decide +kernel, rfl, by decide +kernel, by decide +kernel⟩
def outabove_leaves (ds : List PyData) : List PyData := (layE 0 0 ds).1.map fun r => abD r.2.2
section
variable {P : Program} {w : World} {K : PySem.W.Frag} {mg : Str → Option Value} {base : Heap} {f : Addr} {fd : FuncData}
theorem okabove_leaves {CB CP CL fI fL fLI : Addr} {fdLI : FuncData} (T : Txt7 K mg) (L : LaTxt K mg CP CL fI fL) (Y : LyTxt K mg CL fLI) (GI : FnOk P w K mg base CX0 16 fLI fdLI PLayI (spLayI K CP CL)) (bI : Binds K fdLI PLayI []) (C : CalX P w K mg base "check_ends" 17 Pcheck_ends (spCheckEnds K CB))
    (F : Fun K "above_leaves" "above_leaves" sabove_leaves f fd) : FnOk P w K mg base (L2.CX P w) 18 f fd Pabove_leaves (spView K CB outabove_leaves) := by
  refine F.okX scabove_leaves (fun vs H Q E h => ?_) (fun cdv A outer s H vs Q E hr h => ?_)
  · obtain ⟨v, rfl, _⟩ := h
    rfl
  obtain ⟨v, rfl, h⟩ := h
  refine ⟨_, pss_cons (ps_expr (pe_callS C.ok (hr.mono (by decide)) rfl C.m C.kp C.b (fun σ => passAt (takes_of rfl rfl rfl rfl) σ) (pa_cons (pv 0) pa_nil)))
    (pss_one (ps_ret (pe_callTy call_tuple_of rfl T.tuple (by decide +kernel) (pa_cons (pe_lc (own := [("leaf", 1)]) (g := (gName 1)) (te := tFld K (tVar 1) "above") rfl scabove_leaves.nd (pi_list (pe_fld (pe_make Y.mkL GI (hr.mono (by decide)) rfl Y.gL bI .nil pass0 (pa_cons (pv 0) pa_nil)) rfl))
      (blkOk_by (own := [("leaf", 1)]) (N := Nabove_leaves) (sc := defScope sabove_leaves) (by decide +kernel)) (fun _ _ _ _ _ => (pg_name (i := 1) scabove_leaves.nd rfl (Or.inl rfl))) (fun _ _ _ _ _ => pts_nil) (fun _ _ _ _ _ => pe_fld (pv 1) rfl)) pa_nil)))), ?_⟩
  rcases h with ⟨D, hv, hz, hw, q, qb⟩ | ⟨hd, qb⟩
  · refine ⟨v, rfl, v, rfl, .inl ⟨D, hv, hz, hw, fun c H1 s1 => ?_, fun c d H' s' nd => qb c d H' s' nd⟩⟩
    obtain ⟨ds, eD, hN, hF, hL, h1⟩ := isEnds_inv c
    have q := q c ds eD
    obtain ⟨a, xs, rfl, hS, hA⟩ : ∃ a xs, v = .ref a ∧ (SqL K H a xs ∨ SqT K H a xs) ∧ DpAll K H xs ds := by
      rcases eD with rfl | rfl
      · cases hv with | lst g1 g2 => exact ⟨_, _, rfl, .inl g1, g2⟩
      · cases hv with | tup g1 g2 => exact ⟨_, _, rfl, .inr g1, g2⟩
    refine ⟨_, rfl, fun x dx nx ndx ne => ?_⟩
    have sx : Same H1 (upd (upd H1 dx (.own x)) x (.ins CL dx [])) := fun b o e => by
      rw [upd_ne (ne_of_none e nx), upd_ne (ne_of_none e ndx)]
      exact e
    refine ⟨H1, x, a, dx, xs, ds, rfl, sx, nx, upd_same, hS.elim (fun g => .inl (s1.seq g)) (fun g => .inr (seqT_same s1 g)), dpAll_same s1 _ _ hA, hF, hN, hL, fun H2 LA => ⟨rfl, ?_⟩⟩
    obtain ⟨s2, dx2, l, g, lf, ls, gs, e1, f1, f2, el, eg, PL, PF⟩ := LA
    have lenP := Paired.length PL
    refine ⟨x, CL, dx2, lf, _, rfl, e1, L.cl, L.nLeaves, f1, l, rfl, ⟨ls, SqL.of el⟩, fun D nD => ?_⟩
    refine lc_it (walk_list (xs := ls)) (fun i H' => Same H2 H' ∧ ∃ us : List V, H' D = some (.lst us) ∧ us.length = i ∧ DpAll K H' us (((layE 0 0 ds).1.take i).map fun r => abD r.2.2)) ⟨same_new nD _, [], upd_same, rfl, .nil⟩ (fun i H' _ p => SqL.of (p.1 _ _ el)) (fun i y H3 H4 hi p yy => ?_) (fun H3 p => ?_)
    · obtain ⟨rfl, hy⟩ := yy
      obtain ⟨s3, us, eu, lu, du⟩ := p
      obtain ⟨r, hr2, pr⟩ := paired_get PL hy
      obtain ⟨p, dx3, nd, fs, u, z, zs, rfl, ep, a1, d1, n1, a2, t2, a3, d3⟩ := LeafIs.n (Same.n s3) pr
      have etk : (layE 0 0 ds).1.take (i + 1) = (layE 0 0 ds).1.take i ++ [r] := take_next hr2
      have hi2 : i < 1000 := by
        have := layE_len ds hF hL
        omega
      refine ⟨rfl, _, rfl, p, CP, dx3, fs, _, rfl, ep, L.pl.cl, L.pl.nAbove, a3, us, eu, small1000 (by omega), same_at s3 nD, us ++ [z], upd_same, by rw [List.length_append, lu]; rfl, ?_⟩
      have kd := keepT_lst (o := .lst (us ++ [z])) eu
      rw [etk, List.map_append]
      refine dpAll_snoc ?_ (dpAll_n kd _ _ ?_ du)
      · exact dp_n kd _ _ (noL_ab _) d3
      · exact noLs_map_in _ fun r hr => noL_ab _
    · obtain ⟨s3, us, eu, lu, du⟩ := p
      rw [List.take_of_length_le (by omega)] at du
      refine ⟨D, us, rfl, .inl ⟨SqL.of eu, fun t nt => ?_⟩⟩
      have st := same_new nt (.tup us)
      exact q _ _ (Same.trans s1 (Same.trans s2 (Same.trans s3 st))) (.tup (SqT.of upd_same) (dpAll_same st _ _ du))
  · exact ⟨v, rfl, v, rfl, .inr ⟨hd, qb⟩⟩
end
abbrev sabove_forks : Stmt := top 31
abbrev Nabove_forks : List Str := ["ends", "fork"]
abbrev Pabove_forks : List Str := ["ends"]
theorem scabove_forks : FnScope Nabove_forks Pabove_forks (defScope sabove_forks) := ⟨rfl, rfl, rfl, by decide +kernel, rfl, by decide +kernel, by decide +kernel⟩
def outabove_forks (ds : List PyData) : List PyData := (layE 0 0 ds).2.map fun r => abD r.2.2
section
variable {P : Program} {w : World} {K : PySem.W.Frag} {mg : Str → Option Value} {base : Heap} {f : Addr} {fd : FuncData}
theorem okabove_forks {CB CP CL fI fL fLI : Addr} {fdLI : FuncData} (T : Txt7 K mg) (L : LaTxt K mg CP CL fI fL) (Y : LyTxt K mg CL fLI) (GI : FnOk P w K mg base CX0 16 fLI fdLI PLayI (spLayI K CP CL)) (bI : Binds K fdLI PLayI []) (C : CalX P w K mg base "check_ends" 17 Pcheck_ends (spCheckEnds K CB))
    (F : Fun K "above_forks" "above_forks" sabove_forks f fd) : FnOk P w K mg base (L2.CX P w) 18 f fd Pabove_forks (spView K CB outabove_forks) := by
  refine F.okX scabove_forks (fun vs H Q E h => ?_) (fun cdv A outer s H vs Q E hr h => ?_)
  · obtain ⟨v, rfl, _⟩ := h
    rfl
  obtain ⟨v, rfl, h⟩ := h
  refine ⟨_, pss_cons (ps_expr (pe_callS C.ok (hr.mono (by decide)) rfl C.m C.kp C.b (fun σ => passAt (takes_of rfl rfl rfl rfl) σ) (pa_cons (pv 0) pa_nil)))
    (pss_one (ps_ret (pe_callTy call_tuple_of rfl T.tuple (by decide +kernel) (pa_cons (pe_lc (own := [("fork", 1)]) (g := (gName 1)) (te := tFld K (tVar 1) "above") rfl scabove_forks.nd (pi_list (pe_fld (pe_make Y.mkL GI (hr.mono (by decide)) rfl Y.gL bI .nil pass0 (pa_cons (pv 0) pa_nil)) rfl))
      (blkOk_by (own := [("fork", 1)]) (N := Nabove_forks) (sc := defScope sabove_forks) (by decide +kernel)) (fun _ _ _ _ _ => (pg_name (i := 1) scabove_forks.nd rfl (Or.inl rfl))) (fun _ _ _ _ _ => pts_nil) (fun _ _ _ _ _ => pe_fld (pv 1) rfl)) pa_nil)))), ?_⟩
  rcases h with ⟨D, hv, hz, hw, q, qb⟩ | ⟨hd, qb⟩
  · refine ⟨v, rfl, v, rfl, .inl ⟨D, hv, hz, hw, fun c H1 s1 => ?_, fun c d H' s' nd => qb c d H' s' nd⟩⟩
    obtain ⟨ds, eD, hN, hF, hL, h1⟩ := isEnds_inv c
    have q := q c ds eD
    obtain ⟨a, xs, rfl, hS, hA⟩ : ∃ a xs, v = .ref a ∧ (SqL K H a xs ∨ SqT K H a xs) ∧ DpAll K H xs ds := by
      rcases eD with rfl | rfl
      · cases hv with | lst g1 g2 => exact ⟨_, _, rfl, .inl g1, g2⟩
      · cases hv with | tup g1 g2 => exact ⟨_, _, rfl, .inr g1, g2⟩
    refine ⟨_, rfl, fun x dx nx ndx ne => ?_⟩
    have sx : Same H1 (upd (upd H1 dx (.own x)) x (.ins CL dx [])) := fun b o e => by
      rw [upd_ne (ne_of_none e nx), upd_ne (ne_of_none e ndx)]
      exact e
    refine ⟨H1, x, a, dx, xs, ds, rfl, sx, nx, upd_same, hS.elim (fun g => .inl (s1.seq g)) (fun g => .inr (seqT_same s1 g)), dpAll_same s1 _ _ hA, hF, hN, hL, fun H2 LA => ⟨rfl, ?_⟩⟩
    obtain ⟨s2, dx2, l, g, lf, ls, gs, e1, f1, f2, el, eg, PL, PF⟩ := LA
    have lenP := Paired.length PF
    refine ⟨x, CL, dx2, lf, _, rfl, e1, L.cl, L.nForks, f2, g, rfl, ⟨gs, SqL.of eg⟩, fun D nD => ?_⟩
    refine lc_it (walk_list (xs := gs)) (fun i H' => Same H2 H' ∧ ∃ us : List V, H' D = some (.lst us) ∧ us.length = i ∧ DpAll K H' us (((layE 0 0 ds).2.take i).map fun r => abD r.2.2)) ⟨same_new nD _, [], upd_same, rfl, .nil⟩ (fun i H' _ p => SqL.of (p.1 _ _ eg)) (fun i y H3 H4 hi p yy => ?_) (fun H3 p => ?_)
    · obtain ⟨rfl, hy⟩ := yy
      obtain ⟨s3, us, eu, lu, du⟩ := p
      obtain ⟨r, hr2, pr⟩ := paired_get PF hy
      obtain ⟨p, dx3, nd, fs, z, zs, rfl, ep, a1, a2, t2, a3, d3⟩ := ForkIs.n (Same.n s3) pr
      have etk : (layE 0 0 ds).2.take (i + 1) = (layE 0 0 ds).2.take i ++ [r] := take_next hr2
      have hi2 : i < 1000 := by
        have := layE_len ds hF hL
        omega
      refine ⟨rfl, _, rfl, p, CP, dx3, fs, _, rfl, ep, L.pl.cl, L.pl.nAbove, a3, us, eu, small1000 (by omega), same_at s3 nD, us ++ [z], upd_same, by rw [List.length_append, lu]; rfl, ?_⟩
      have kd := keepT_lst (o := .lst (us ++ [z])) eu
      rw [etk, List.map_append]
      refine dpAll_snoc ?_ (dpAll_n kd _ _ ?_ du)
      · exact dp_n kd _ _ (noL_ab _) d3
      · exact noLs_map_in _ fun r hr => noL_ab _
    · obtain ⟨s3, us, eu, lu, du⟩ := p
      rw [List.take_of_length_le (by omega)] at du
      refine ⟨D, us, rfl, .inl ⟨SqL.of eu, fun t nt => ?_⟩⟩
      have st := same_new nt (.tup us)
      exact q _ _ (Same.trans s1 (Same.trans s2 (Same.trans s3 st))) (.tup (SqT.of upd_same) (dpAll_same st _ _ du))
  · exact ⟨v, rfl, v, rfl, .inr ⟨hd, qb⟩⟩
end
end My

set_option Elab.async false
set_option linter.all false
set_option maxRecDepth 100000
namespace My
open PySem L2
def wds : PyData → List Str
  | .tuple [_, _] => []
  | .tuple [.str w, a, b] => ((if w ∈ forkW then [w] else []) ++ wds a) ++ wds b
  | _ => []
theorem wds2 (a b : PyData) : wds (.tuple [a, b]) = [] := by rw [wds]
theorem wds3 (w : Str) (a b : PyData) : wds (.tuple [.str w, a, b]) = ((if w ∈ forkW then [w] else []) ++ wds a) ++ wds b := by rw [wds]
theorem lay_words : ∀ {k : Nat} {D : PyData} {f : Nat} {ab : Ab}, isForm k D = true → (lay f ab D).2.map (·.1) = wds D := by
  intro k
  induction k with
  | zero =>
    intro D f ab h
    rcases isForm_inv h with ⟨w, n, rfl, hw, hn⟩ | ⟨j, w, a, b, e, _⟩
    · rw [lay2, wds2]
      rfl
    · cases e
  | succ k ih =>
    intro D f ab h
    rcases isForm_inv h with ⟨w, n, rfl, hw, hn⟩ | ⟨j, w, a, b, e, rfl, hw, ha, hb⟩
    · rw [lay2, wds2]
      rfl
    · obtain rfl : k = j := by omega
      rw [wds3]
      by_cases c : w ∈ forkW
      · rw [lay3f _ _ _ _ _ c, if_pos c, List.map_cons, List.map_append, ih ha, ih hb]
        rfl
      · rw [lay3n _ _ _ _ _ c, if_neg c, List.map_append, ih ha, ih hb]
        rfl
abbrev s_law_leaves : Stmt := top 36
abbrev N_law_leaves : List Str := ["_law_form"]
abbrev P_law_leaves : List Str := ["_law_form"]
theorem sc_law_leaves : FnScope N_law_leaves P_law_leaves (defScope s_law_leaves) := ⟨rfl, rfl, rfl, by decide +kernel, rfl, by decide +kernel, by decide +kernel⟩
abbrev s_law_forks : Stmt := top 37
abbrev N_law_forks : List Str := ["_law_form"]
abbrev P_law_forks : List Str := ["_law_form"]
theorem sc_law_forks : FnScope N_law_forks P_law_forks (defScope s_law_forks) := ⟨rfl, rfl, rfl, by decide +kernel, rfl, by decide +kernel, by decide +kernel⟩
def spLvs (K : PySem.W.Frag) (n : Nat) : Sp := fun vs H Q _ => ∃ (v : V) (k : Nat) (D : PyData), vs = [v] ∧ k < n ∧ Dp K H v D ∧ isForm k D = true ∧ (lvs D).length ≤ 1000 ∧ ∀ (H' : Hp) (p : Addr) (us : List V), Same H H' → H' p = some (.lst us) → DpAll K H' us (lvs D) → Q (.ref p) H'
def spWds (K : PySem.W.Frag) (n : Nat) : Sp := fun vs H Q _ => ∃ (v : V) (k : Nat) (D : PyData), vs = [v] ∧ k < n ∧ Dp K H v D ∧ isForm k D = true ∧ (wds D).length ≤ 1000 ∧ ∀ (H' : Hp) (p : Addr), Same H H' → H' p = some (.lst ((wds D).map V.str)) → Q (.ref p) H'
theorem dpAll_app {K : PySem.W.Frag} {H : Hp} : ∀ {xs : List V} {ds : List PyData} {ys : List V} {es : List PyData}, DpAll K H xs ds → DpAll K H ys es → DpAll K H (xs ++ ys) (ds ++ es)
  | _, _, _, _, .nil, h => h
  | _, _, _, _, .cons a b, h => .cons a (dpAll_app b h)
section
variable {P : Program} {w : World} {K : PySem.W.Frag} {mg : Str → Option Value} {base : Heap} {f : Addr} {fd : FuncData}
theorem ok_law_leaves {n : Nat} (T : Txt7 K mg) (F : Fun K "_law_leaves" "_law_leaves" s_law_leaves f fd) (C_law_leaves : Cal P w K mg base "_law_leaves" n P_law_leaves (spLvs K n)) : FnOk P w K mg base CX0 (n + 1) f fd P_law_leaves (spLvs K (n + 1)) := by
  refine F.ok sc_law_leaves (fun vs H Q E h => ?_) (fun cdv A outer s H vs Q E hr h => ?_)
  · obtain ⟨v, k, D, rfl, _⟩ := h
    rfl
  obtain ⟨v, k, D, rfl, hk, hv, hD, hL, q⟩ := h
  refine ⟨_, (pss_one (ps_ret (pe_ifExp (pt_cmpR op_eq (pe_callB call_len rfl T.len (by decide +kernel) (pa_cons (pv 0) pa_nil)) pe_int (nomark _)) (pe_lstN (pa_cons (pv 0) pa_nil)) (pe_op op_catLN (pe_callC C_law_leaves hr (pa_cons (pe_ix ix_tup (pv 0) pe_int (fun _ _ => rfl)) pa_nil)) (pe_callC C_law_leaves hr (pa_cons (pe_ix ix_tup (pv 0) pe_int (fun _ _ => rfl)) pa_nil)))))), ?_⟩
  rcases isForm_inv hD with ⟨x, m, rfl, hx, hn⟩ | ⟨j, x, a, b, rfl, rfl, hx, ha, hb⟩
  · cases hv with | @tup p xs _ hT hA => cases hA with | cons h1 hA => cases hA with | cons h2 hN =>
    cases hN
    rw [lvs2] at q
    refine ⟨_, rfl, _, _, rfl, .inr ⟨_, hT, rfl⟩, rfl, true, rfl, ?_⟩
    exact ⟨_, rfl, le1k, fun o H1 s1 e1 => q H1 o _ s1 e1 (.cons (.tup (seqT_same s1 hT) (.cons (dp_same s1 _ _ h1) (.cons (dp_same s1 _ _ h2) .nil))) .nil)⟩
  · cases hv with | @tup p xs _ hT hA => cases hA with | cons h1 hA => cases hA with | cons h2 hA => cases hA with | cons h3 hN =>
    cases hN
    rw [lvs3] at q hL
    rw [List.length_append] at hL
    refine ⟨_, rfl, _, _, rfl, .inr ⟨_, hT, rfl⟩, rfl, false, rfl, ?_⟩
    refine ⟨_, rfl, p, _, _, _, rfl, rfl, hT, rfl, _, j, a, rfl, by omega, h2, ha, by omega, fun H1 p1 us1 s1 e1 d1 => ?_⟩
    refine ⟨_, rfl, p, _, _, _, rfl, rfl, seqT_same s1 hT, rfl, _, j, b, rfl, by omega, dp_same s1 _ _ h3, hb, by omega, fun H2 p2 us2 s2 e2 d2 => ?_⟩
    refine ⟨p1, p2, us1, us2, rfl, rfl, s2 _ _ e1, e2, ?_, fun o H3 s3 e3 => ?_⟩
    · rw [dpAll_len d1, dpAll_len d2]
      exact hL
    · exact q H3 o _ (Same.trans s1 (Same.trans s2 s3)) e3 (dpAll_app (dpAll_same (Same.trans s2 s3) _ _ d1) (dpAll_same s3 _ _ d2))
theorem ok_law_forks {n : Nat} (T : Txt7 K mg) (F : Fun K "_law_forks" "_law_forks" s_law_forks f fd) (C_law_forks : Cal P w K mg base "_law_forks" n P_law_forks (spWds K n)) : FnOk P w K mg base CX0 (n + 1) f fd P_law_forks (spWds K (n + 1)) := by
  refine F.ok sc_law_forks (fun vs H Q E h => ?_) (fun cdv A outer s H vs Q E hr h => ?_)
  · obtain ⟨v, k, D, rfl, _⟩ := h
    rfl
  obtain ⟨v, k, D, rfl, hk, hv, hD, hL, q⟩ := h
  refine ⟨_, (pss_cons (ps_if (pt_cmpR op_eq (pe_callB call_len rfl T.len (by decide +kernel) (pa_cons (pv 0) pa_nil)) pe_int (nomark _))
    (pss_one (ps_ret (pe_lstN pa_nil)))
    pss_nil)
  (pss_one (ps_ret (pe_op op_catLN (pe_op op_catLN (pe_ifExp (pt_cmpR op_in_seq (pe_ix ix_tup (pv 0) pe_int (fun _ _ => rfl)) (pe_lstN (pa_cons pe_str (pa_cons pe_str pa_nil))) rfl) (pe_lstN (pa_cons (pe_ix ix_tup (pv 0) pe_int (fun _ _ => rfl)) pa_nil)) (pe_lstN pa_nil)) (pe_callC C_law_forks hr (pa_cons (pe_ix ix_tup (pv 0) pe_int (fun _ _ => rfl)) pa_nil))) (pe_callC C_law_forks hr (pa_cons (pe_ix ix_tup (pv 0) pe_int (fun _ _ => rfl)) pa_nil)))))), ?_⟩
  rcases isForm_inv hD with ⟨x, m, rfl, hx, hn⟩ | ⟨j, x, a, b, rfl, rfl, hx, ha, hb⟩
  · cases hv with | @tup p xs _ hT hA => cases hA with | cons h1 hA => cases hA with | cons h2 hN =>
    cases hN
    rw [wds2] at q
    refine ⟨_, rfl, _, _, rfl, .inr ⟨_, hT, rfl⟩, rfl, true, rfl, ?_⟩
    exact ⟨Nat.zero_le _, fun o H1 s1 e1 => q H1 o s1 e1⟩
  · cases hv with | @tup p xs _ hT hA => cases hA with | cons h1 hA => cases hA with | cons h2 hA => cases hA with | cons h3 hN =>
    cases hN
    cases h1
    rw [wds3] at q hL
    rw [List.length_append, List.length_append] at hL
    refine ⟨_, rfl, _, _, rfl, .inr ⟨_, hT, rfl⟩, rfl, false, rfl, ?_⟩
    refine ⟨_, rfl, p, _, _, _, rfl, rfl, hT, rfl, le1k, fun o H1 s1 e1 => ⟨o, _, rfl, .inl (SqL.of e1), rfl, rfl, _, rfl, ?_⟩⟩
    show (if inV (.str x) (forkW.map V.str) = true then _ else _)
    rw [inV_str]
    by_cases c : x ∈ forkW
    · rw [decide_eq_true c]
      rw [if_pos c] at q hL
      refine iteT ⟨_, rfl, p, _, _, _, rfl, rfl, seqT_same s1 hT, rfl, le1k, fun p0 H2 s2' e2 => ?_⟩
      have s2 := Same.trans s1 s2'
      refine ⟨_, rfl, p, _, _, _, rfl, rfl, seqT_same s2 hT, rfl, _, j, a, rfl, by omega, dp_same s2 _ _ h2, ha, by omega, fun H3 p1 s3 e3 => ?_⟩
      refine ⟨p0, p1, _, _, rfl, rfl, s3 _ _ e2, e3, ?_, fun p3 H4 s4 e4 => ?_⟩
      · rw [List.length_map]
        simp only [List.length_cons, List.length_nil] at hL ⊢
        omega
      have s24 := Same.trans s2 (Same.trans s3 s4)
      refine ⟨_, rfl, p, _, _, _, rfl, rfl, seqT_same s24 hT, rfl, _, j, b, rfl, by omega, dp_same s24 _ _ h3, hb, by omega, fun H5 p5 s5 e5 => ?_⟩
      refine ⟨p3, p5, _, _, rfl, rfl, s5 _ _ e4, e5, ?_, fun p6 H6 s6 e6 => ?_⟩
      · rw [List.length_append, List.length_map, List.length_map]
        simp only [List.length_cons, List.length_nil] at hL ⊢
        omega
      refine q H6 p6 (Same.trans s24 (Same.trans s5 s6)) ?_
      rw [e6, List.map_append, List.map_append]
      rfl
    · rw [decide_eq_false c]
      rw [if_neg c] at q hL
      refine iteF ⟨Nat.zero_le _, fun p0 H2 s2' e2 => ?_⟩
      have s2 := Same.trans s1 s2'
      refine ⟨_, rfl, p, _, _, _, rfl, rfl, seqT_same s2 hT, rfl, _, j, a, rfl, by omega, dp_same s2 _ _ h2, ha, by omega, fun H3 p1 s3 e3 => ?_⟩
      refine ⟨p0, p1, _, _, rfl, rfl, s3 _ _ e2, e3, ?_, fun p3 H4 s4 e4 => ?_⟩
      · rw [List.length_map]
        simp only [List.length_cons, List.length_nil] at hL ⊢
        omega
      have s24 := Same.trans s2 (Same.trans s3 s4)
      refine ⟨_, rfl, p, _, _, _, rfl, rfl, seqT_same s24 hT, rfl, _, j, b, rfl, by omega, dp_same s24 _ _ h3, hb, by omega, fun H5 p5 s5 e5 => ?_⟩
      refine ⟨p3, p5, _, _, rfl, rfl, s5 _ _ e4, e5, ?_, fun p6 H6 s6 e6 => ?_⟩
      · rw [List.length_append, List.length_map, List.length_map]
        simp only [List.length_cons, List.length_nil] at hL ⊢
        omega
      refine q H6 p6 (Same.trans s24 (Same.trans s5 s6)) ?_
      rw [e6, List.map_append, List.map_append]
      rfl
end
end My

set_option Elab.async false
set_option linter.all false
set_option maxRecDepth 100000
namespace My
open PySem L2
theorem flat_len {α : Type} (g : PyData → List α) (ds : List PyData) (i : Nat) : ((ds.take i).flatMap g).length ≤ (ds.flatMap g).length := by
  have e : (ds.flatMap g).length = ((ds.take i).flatMap g).length + ((ds.drop i).flatMap g).length := by
    rw [← List.length_append, ← List.flatMap_append, List.take_append_drop]
  omega
theorem flat_snoc {α : Type} (g : PyData → List α) {ds : List PyData} {i : Nat} {d : PyData} (h : ds[i]? = some d) : (ds.take (i + 1)).flatMap g = (ds.take i).flatMap g ++ g d := by
  rw [take_next h, List.flatMap_append]
  simp
abbrev s_law_all_leaves : Stmt := top 58
abbrev N_law_all_leaves : List Str := ["_law_ends", "_law_out", "_law_form"]
abbrev P_law_all_leaves : List Str := ["_law_ends"]
theorem sc_law_all_leaves : FnScope N_law_all_leaves P_law_all_leaves (defScope s_law_all_leaves) := ⟨rfl, rfl, rfl, by decide +kernel, rfl, by decide +kernel, by decide +kernel⟩
def spAllLvs (K : PySem.W.Frag) : Sp := fun vs H Q _ => ∃ (a : Addr) (xs : List V) (ds : List PyData), vs = [.ref a] ∧ (SqL K H a xs ∨ SqT K H a xs) ∧ DpAll K H xs ds ∧ ds.all (isForm 12) = true ∧ (ds.flatMap lvs).length ≤ 1000 ∧
  ∀ (H' : Hp) (p : Addr), Same H H' → (∃ us, H' p = some (.lst us) ∧ DpAll K H' us (ds.flatMap lvs)) → Q (.ref p) H'
section
variable {P : Program} {w : World} {K : PySem.W.Frag} {mg : Str → Option Value} {base : Heap} {f : Addr} {fd : FuncData}
theorem ok_law_all_leaves (T : Txt7 K mg) (F : Fun K "_law_all_leaves" "_law_all_leaves" s_law_all_leaves f fd) (C_law_leaves : Cal P w K mg base "_law_leaves" 13 P_law_leaves (spLvs K 13)) : FnOk P w K mg base CX0 14 f fd P_law_all_leaves (spAllLvs K) := by
  refine F.ok sc_law_all_leaves (fun vs H Q E h => ?_) (fun cdv A outer s H vs Q E hr h => ?_)
  · obtain ⟨a, xs, ds, rfl, _⟩ := h
    rfl
  obtain ⟨a, xs, ds, rfl, hS, hA, hF, hL, q⟩ := h
  refine ⟨_, (pss_cons (ps_set (i := 1) sc_law_all_leaves.nd rfl (Or.inl rfl) (pe_lst pa_nil))
  (pss_cons (ps_for PassesOwn.never rfl (pi_orR (pi_list (pv 0)) (pi_tup (pv 0))) (pg_name (i := 2) sc_law_all_leaves.nd rfl (Or.inl rfl))
    (pss_one (ps_set (i := 1) sc_law_all_leaves.nd rfl (Or.inl rfl) (pe_op op_catLN (pv 1) (pe_callC C_law_leaves hr (pa_cons (pv 2) pa_nil))))))
  (pss_one (ps_ret (pv 1))))), ?_⟩
  have hl := dpAll_len hA
  refine ⟨Nat.zero_le _, fun o no => ?_⟩
  have s0 := same_new no (.lst [])
  rcases hS with hS | hS
  · refine .inl ⟨_, rfl, a, rfl, ⟨xs, s0.seq hS⟩, ?_⟩
    refine for_it walk_list (fun i σ H' => Same H H' ∧ σ.length = 3 ∧ ∃ p, σ[1]? = some (some (.ref p)) ∧ (∃ us, H' p = some (.lst us) ∧ DpAll K H' us ((ds.take i).flatMap lvs))) ⟨s0, rfl, o, rfl, ⟨[], upd_same, .nil⟩⟩ (fun i σ H' _ pv => pv.1.seq hS) (fun i x σ H1 H2 hi pv y => ?_) (fun σ H' pv => ?_)
    · obtain ⟨rfl, hx⟩ := y
      obtain ⟨d, hd, hxd⟩ := dpAll_at hA hx
      obtain ⟨s1, gl, p, gp, us, ep, du⟩ := pv
      have fd : isForm 12 d = true := List.all_eq_true.mp hF d (List.mem_of_getElem? hd)
      have sn := flat_snoc lvs hd
      have ln := flat_len lvs ds (i + 1)
      rw [sn, List.length_append] at ln
      refine ⟨.ref p, by rw [List.getElem?_set_ne (by omega)]; exact gp, x, by rw [List.getElem?_set_self (by omega)], x, 12, d, rfl, by omega, dp_same s1 _ _ hxd, fd, by omega, fun H3 p3 us3 s3 e3 d3 => ?_⟩
      refine ⟨p, p3, _, _, rfl, rfl, s3 _ _ ep, e3, by rw [dpAll_len du, dpAll_len d3]; omega, fun p4 H4 s4 e4 => ?_⟩
      refine ⟨Same.trans s1 (Same.trans s3 s4), by rw [List.length_set, List.length_set]; exact gl, p4, by rw [List.getElem?_set_self (by rw [List.length_set]; omega)], _, e4, ?_⟩
      rw [sn]
      exact dpAll_app (dpAll_same (Same.trans s3 s4) _ _ du) (dpAll_same s4 _ _ d3)
    · obtain ⟨s1, gl, p, gp, us, ep, du⟩ := pv
      rw [List.take_of_length_le (by omega)] at du
      exact ⟨_, gp, q H' p s1 ⟨us, ep, du⟩⟩
  · refine .inr ⟨_, rfl, a, rfl, ⟨xs, seqT_same s0 hS⟩, ?_⟩
    refine for_it walk_tup (fun i σ H' => Same H H' ∧ σ.length = 3 ∧ ∃ p, σ[1]? = some (some (.ref p)) ∧ (∃ us, H' p = some (.lst us) ∧ DpAll K H' us ((ds.take i).flatMap lvs))) ⟨s0, rfl, o, rfl, ⟨[], upd_same, .nil⟩⟩ (fun i σ H' _ pv => seqT_same pv.1 hS) (fun i x σ H1 H2 hi pv y => ?_) (fun σ H' pv => ?_)
    · obtain ⟨rfl, hx⟩ := y
      obtain ⟨d, hd, hxd⟩ := dpAll_at hA hx
      obtain ⟨s1, gl, p, gp, us, ep, du⟩ := pv
      have fd : isForm 12 d = true := List.all_eq_true.mp hF d (List.mem_of_getElem? hd)
      have sn := flat_snoc lvs hd
      have ln := flat_len lvs ds (i + 1)
      rw [sn, List.length_append] at ln
      refine ⟨.ref p, by rw [List.getElem?_set_ne (by omega)]; exact gp, x, by rw [List.getElem?_set_self (by omega)], x, 12, d, rfl, by omega, dp_same s1 _ _ hxd, fd, by omega, fun H3 p3 us3 s3 e3 d3 => ?_⟩
      refine ⟨p, p3, _, _, rfl, rfl, s3 _ _ ep, e3, by rw [dpAll_len du, dpAll_len d3]; omega, fun p4 H4 s4 e4 => ?_⟩
      refine ⟨Same.trans s1 (Same.trans s3 s4), by rw [List.length_set, List.length_set]; exact gl, p4, by rw [List.getElem?_set_self (by rw [List.length_set]; omega)], _, e4, ?_⟩
      rw [sn]
      exact dpAll_app (dpAll_same (Same.trans s3 s4) _ _ du) (dpAll_same s4 _ _ d3)
    · obtain ⟨s1, gl, p, gp, us, ep, du⟩ := pv
      rw [List.take_of_length_le (by omega)] at du
      exact ⟨_, gp, q H' p s1 ⟨us, ep, du⟩⟩
end
abbrev s_law_all_forks : Stmt := top 59
abbrev N_law_all_forks : List Str := ["_law_ends", "_law_out", "_law_form"]
abbrev P_law_all_forks : List Str := ["_law_ends"]
theorem sc_law_all_forks : FnScope N_law_all_forks P_law_all_forks (defScope s_law_all_forks) := ⟨rfl, rfl, rfl, by decide +kernel, rfl, by decide +kernel, by decide +kernel⟩
def spAllWds (K : PySem.W.Frag) : Sp := fun vs H Q _ => ∃ (a : Addr) (xs : List V) (ds : List PyData), vs = [.ref a] ∧ (SqL K H a xs ∨ SqT K H a xs) ∧ DpAll K H xs ds ∧ ds.all (isForm 12) = true ∧ (ds.flatMap wds).length ≤ 1000 ∧
  ∀ (H' : Hp) (p : Addr), Same H H' → (H' p = some (.lst ((ds.flatMap wds).map V.str))) → Q (.ref p) H'
section
variable {P : Program} {w : World} {K : PySem.W.Frag} {mg : Str → Option Value} {base : Heap} {f : Addr} {fd : FuncData}
theorem ok_law_all_forks (T : Txt7 K mg) (F : Fun K "_law_all_forks" "_law_all_forks" s_law_all_forks f fd) (C_law_forks : Cal P w K mg base "_law_forks" 13 P_law_forks (spWds K 13)) : FnOk P w K mg base CX0 14 f fd P_law_all_forks (spAllWds K) := by
  refine F.ok sc_law_all_forks (fun vs H Q E h => ?_) (fun cdv A outer s H vs Q E hr h => ?_)
  · obtain ⟨a, xs, ds, rfl, _⟩ := h
    rfl
  obtain ⟨a, xs, ds, rfl, hS, hA, hF, hL, q⟩ := h
  refine ⟨_, (pss_cons (ps_set (i := 1) sc_law_all_forks.nd rfl (Or.inl rfl) (pe_lst pa_nil))
  (pss_cons (ps_for PassesOwn.never rfl (pi_orR (pi_list (pv 0)) (pi_tup (pv 0))) (pg_name (i := 2) sc_law_all_forks.nd rfl (Or.inl rfl))
    (pss_one (ps_set (i := 1) sc_law_all_forks.nd rfl (Or.inl rfl) (pe_op op_catLN (pv 1) (pe_callC C_law_forks hr (pa_cons (pv 2) pa_nil))))))
  (pss_one (ps_ret (pv 1))))), ?_⟩
  have hl := dpAll_len hA
  refine ⟨Nat.zero_le _, fun o no => ?_⟩
  have s0 := same_new no (.lst [])
  rcases hS with hS | hS
  · refine .inl ⟨_, rfl, a, rfl, ⟨xs, s0.seq hS⟩, ?_⟩
    refine for_it walk_list (fun i σ H' => Same H H' ∧ σ.length = 3 ∧ ∃ p, σ[1]? = some (some (.ref p)) ∧ (H' p = some (.lst (((ds.take i).flatMap wds).map V.str)))) ⟨s0, rfl, o, rfl, upd_same⟩ (fun i σ H' _ pv => pv.1.seq hS) (fun i x σ H1 H2 hi pv y => ?_) (fun σ H' pv => ?_)
    · obtain ⟨rfl, hx⟩ := y
      obtain ⟨d, hd, hxd⟩ := dpAll_at hA hx
      obtain ⟨s1, gl, p, gp, ep⟩ := pv
      have fd : isForm 12 d = true := List.all_eq_true.mp hF d (List.mem_of_getElem? hd)
      have sn := flat_snoc wds hd
      have ln := flat_len wds ds (i + 1)
      rw [sn, List.length_append] at ln
      refine ⟨.ref p, by rw [List.getElem?_set_ne (by omega)]; exact gp, x, by rw [List.getElem?_set_self (by omega)], x, 12, d, rfl, by omega, dp_same s1 _ _ hxd, fd, by omega, fun H3 p3 s3 e3 => ?_⟩
      refine ⟨p, p3, _, _, rfl, rfl, s3 _ _ ep, e3, by rw [List.length_map, List.length_map]; omega, fun p4 H4 s4 e4 => ?_⟩
      refine ⟨Same.trans s1 (Same.trans s3 s4), by rw [List.length_set, List.length_set]; exact gl, p4, by rw [List.getElem?_set_self (by rw [List.length_set]; omega)], ?_⟩
      rw [sn, List.map_append]
      exact e4
    · obtain ⟨s1, gl, p, gp, ep⟩ := pv
      rw [List.take_of_length_le (by omega)] at ep
      exact ⟨_, gp, q H' p s1 ep⟩
  · refine .inr ⟨_, rfl, a, rfl, ⟨xs, seqT_same s0 hS⟩, ?_⟩
    refine for_it walk_tup (fun i σ H' => Same H H' ∧ σ.length = 3 ∧ ∃ p, σ[1]? = some (some (.ref p)) ∧ (H' p = some (.lst (((ds.take i).flatMap wds).map V.str)))) ⟨s0, rfl, o, rfl, upd_same⟩ (fun i σ H' _ pv => seqT_same pv.1 hS) (fun i x σ H1 H2 hi pv y => ?_) (fun σ H' pv => ?_)
    · obtain ⟨rfl, hx⟩ := y
      obtain ⟨d, hd, hxd⟩ := dpAll_at hA hx
      obtain ⟨s1, gl, p, gp, ep⟩ := pv
      have fd : isForm 12 d = true := List.all_eq_true.mp hF d (List.mem_of_getElem? hd)
      have sn := flat_snoc wds hd
      have ln := flat_len wds ds (i + 1)
      rw [sn, List.length_append] at ln
      refine ⟨.ref p, by rw [List.getElem?_set_ne (by omega)]; exact gp, x, by rw [List.getElem?_set_self (by omega)], x, 12, d, rfl, by omega, dp_same s1 _ _ hxd, fd, by omega, fun H3 p3 s3 e3 => ?_⟩
      refine ⟨p, p3, _, _, rfl, rfl, s3 _ _ ep, e3, by rw [List.length_map, List.length_map]; omega, fun p4 H4 s4 e4 => ?_⟩
      refine ⟨Same.trans s1 (Same.trans s3 s4), by rw [List.length_set, List.length_set]; exact gl, p4, by rw [List.getElem?_set_self (by rw [List.length_set]; omega)], ?_⟩
      rw [sn, List.map_append]
      exact e4
    · obtain ⟨s1, gl, p, gp, ep⟩ := pv
      rw [List.take_of_length_le (by omega)] at ep
      exact ⟨_, gp, q H' p s1 ep⟩
end
end My

set_option Elab.async false
set_option linter.all false
set_option maxRecDepth 100000
namespace My
open PySem L2
abbrev s_law_above : Stmt := top 55
abbrev N_law_above : List Str := ["_law_form", "_law_above_here", "_law_first", "_law_tips", "_law_branches", "_law_one", "_law_other"]
abbrev P_law_above : List Str := ["_law_form", "_law_above_here", "_law_first", "_law_tips", "_law_branches"]
theorem sc_law_above : FnScope N_law_above P_law_above (defScope s_law_above) := ⟨rfl, rfl, rfl, by decide +kernel, rfl, by decide +kernel, by decide +kernel⟩
def spAbove (K : PySem.W.Frag) (n : Nat) : Sp := fun vs H Q _ => ∃ (l g : Addr) (ls gs : List V) (k f : Nat) (v av : V) (D : PyData) (ab : Ab), vs = [v, av, .int (f : Nat), .ref l, .ref g] ∧ k < n ∧ l ≠ g ∧ H l = some (.lst ls) ∧ H g = some (.lst gs) ∧
  ls.length + (lay f ab D).1.length ≤ 1000 ∧ gs.length + (lay f ab D).2.length ≤ 1000 ∧ Dp K H v D ∧ isForm k D = true ∧ Dp K H av (abD ab) ∧ ab.length + k ≤ 100 ∧
  ∀ (H' : Hp) (ls' gs' : List V), KeepLG l g H H' → H' l = some (.lst (ls ++ ls')) → H' g = some (.lst (gs ++ gs')) → DpAll K H' ls' ((lay f ab D).1.map fun r => abD r.2) → DpAll K H' gs' ((lay f ab D).2.map fun r => abD r.2) → Q (.int (f + (lay f ab D).2.length : Nat)) H'
section
variable {P : Program} {w : World} {K : PySem.W.Frag} {mg : Str → Option Value} {base : Heap} {f : Addr} {fd : FuncData}
theorem ok_law_above {n : Nat} (T : Txt7 K mg) (F : Fun K "_law_above" "_law_above" s_law_above f fd) (C_law_above : Cal P w K mg base "_law_above" n P_law_above (spAbove K n)) : FnOk P w K mg base CX0 (n + 1) f fd P_law_above (spAbove K (n + 1)) := by
  refine F.ok sc_law_above (fun vs H Q E h => ?_) (fun cdv A outer s H vs Q E hr h => ?_)
  · obtain ⟨l, g, ls, gs, k, f, v, av, D, ab, rfl, _⟩ := h
    rfl
  obtain ⟨l, g, ls, gs, k, f, v, av, D, ab, rfl, hk, nlg, hl, hg, b1, b2, hv, hD, ha, ba, q⟩ := h
  refine ⟨_, (pss_cons (ps_if (pt_cmpR op_eq (pe_callB call_len rfl T.len (by decide +kernel) (pa_cons (pv 0) pa_nil)) pe_int (nomark _))
    (pss_cons (ps_expr (pe_bm PySem.F.plainAttrs_list PySem.F.slot_list_append PySem.F.type_list_append mt_append (pv 3) (pa_cons (pv 1) pa_nil)))
    (pss_one (ps_ret (pv 2))))
    pss_nil)
  (pss_cons (ps_par (i := 5) (j := 6) (by rfl) sc_law_above.nd rfl rfl (by decide) rfl rfl (pa_cons (pv 1) (pa_cons (pv 1) pa_nil)) (by rfl))
  (pss_cons (ps_if (pt_cmpR op_in_seq (pe_ix ix_tup (pv 0) pe_int (fun _ _ => rfl)) (pe_lstN (pa_cons pe_str (pa_cons pe_str pa_nil))) rfl)
    (pss_cons (ps_expr (pe_bm PySem.F.plainAttrs_list PySem.F.slot_list_append PySem.F.type_list_append mt_append (pv 4) (pa_cons (pv 1) pa_nil)))
    (pss_one (ps_par3 (i := 5) (j := 6) (l := 2) (by rfl) sc_law_above.nd rfl rfl rfl (by decide) (by decide) (by decide) rfl rfl rfl (pa_cons (pe_catPair (pv 1) (pv 2) pe_int) (pa_cons (pe_catPair (pv 1) (pv 2) pe_int) (pa_cons (pe_op op_add (pv 2) pe_int) pa_nil))) (by rfl))))
    pss_nil)
  (pss_cons (ps_set (i := 2) sc_law_above.nd rfl (Or.inl rfl) (pe_callC C_law_above hr (pa_cons (pe_ix ix_tup (pv 0) pe_int (fun _ _ => rfl)) (pa_cons (pv 5) (pa_cons (pv 2) (pa_cons (pv 3) (pa_cons (pv 4) pa_nil)))))))
  (pss_one (ps_ret (pe_callC C_law_above hr (pa_cons (pe_ix ix_tup (pv 0) pe_int (fun _ _ => rfl)) (pa_cons (pv 6) (pa_cons (pv 2) (pa_cons (pv 3) (pa_cons (pv 4) pa_nil)))))))))))), ?_⟩
  rcases isForm_inv hD with ⟨x, m, rfl, hx, hn⟩ | ⟨j, x, c, d, rfl, rfl, hx, hc, hd⟩
  · cases hv with | @tup p xs _ hT hA => cases hA with | cons h1 hA => cases hA with | cons h2 hN =>
    cases hN
    rw [lay2] at q b1
    refine ⟨_, rfl, _, _, rfl, .inr ⟨_, hT, rfl⟩, rfl, true, rfl, ?_⟩
    refine ⟨_, rfl, .inl ⟨rfl, ls, SqL.of hl⟩, _, rfl, l, _, _, rfl, rfl, hl, small1000 (by omega), ?_⟩
    refine ⟨_, rfl, q _ [av] [] (fun b o n1 n2 e => by rw [upd_ne n1]; exact e) upd_same (by rw [upd_ne nlg.symm, List.append_nil]; exact hg) (.cons (dp_n (keepT_lst hl) _ _ (noL_ab ab) ha) .nil) .nil⟩
  · cases hv with | @tup p xs _ hT hA => cases hA with | cons h1 hA => cases hA with | cons h2 hA => cases hA with | cons h3 hN =>
    cases hN
    cases h1
    refine ⟨_, rfl, _, _, rfl, .inr ⟨_, hT, rfl⟩, rfl, false, rfl, ?_⟩
    rename_i v1 v2
    have dc : Dp K H v1 c := h2
    have dd : Dp K H v2 d := h3
    refine ⟨_, rfl, _, rfl, av, av, rfl, ?_⟩
    refine ⟨_, rfl, p, _, _, _, rfl, rfl, hT, rfl, le1k, fun o H1 s1 e1 => ⟨o, _, rfl, .inl (SqL.of e1), rfl, rfl, _, rfl, ?_⟩⟩
    show (if inV (.str x) (forkW.map V.str) = true then _ else _)
    rw [inV_str]
    by_cases hy2 : x ∈ forkW
    · rw [decide_eq_true hy2]
      rw [lay3f _ _ _ _ _ hy2] at q b1 b2
      simp only [List.length_append, List.length_cons] at b1 b2
      refine iteT ⟨_, rfl, .inl ⟨rfl, gs, SqL.of (s1 _ _ hg)⟩, _, rfl, g, _, _, rfl, rfl, s1 _ _ hg, small1000 (by omega), ?_⟩
      have k2 : KeepLG l g H (upd H1 g (.lst (gs ++ [av]))) := fun b o n1 n2 e => by
        rw [upd_ne n2]
        exact s1 _ _ e
      have e2 : upd H1 g (.lst (gs ++ [av])) g = some (.lst (gs ++ [av])) := upd_same
      have e3 : upd H1 g (.lst (gs ++ [av])) l = some (.lst ls) := by rw [upd_ne nlg]; exact s1 _ _ hl
      generalize upd H1 g (.lst (gs ++ [av])) = H2 at *
      have n2 := (k2.n hl hg).t
      have ha2 : Dp K H av (.tuple (ab.map fun p => .tuple [.int p.1, .int p.2])) := ha
      obtain ⟨avA, avs, rfl, sav, dav⟩ : ∃ avA avs, av = .ref avA ∧ SqT K H avA avs ∧ DpAll K H avs (ab.map fun p => .tuple [.int p.1, .int p.2]) := by
        cases ha2 with | tup h1 h2 => exact ⟨_, _, rfl, h1, h2⟩
      have lav : avs.length = ab.length := by rw [dpAll_len dav, List.length_map]
      refine ⟨_, rfl, _, rfl, le1k, fun q1 H3 s3 t3 => ⟨le1k, fun q2 H4 s4 t4 => ⟨avA, q2, avs, _, rfl, rfl, seqT_same s4 (seqT_same s3 (seqT_n n2 sav)), t4, by rw [lav]; show ab.length + 1 ≤ 1000; omega, fun pp H5 s5 t5 => ?_⟩⟩⟩
      refine ⟨_, rfl, _, rfl, le1k, fun r1 H6 s6 t6 => ⟨le1k, fun r2 H7 s7 t7 => ⟨avA, r2, avs, _, rfl, rfl, ?_, t7, by rw [lav]; show ab.length + 1 ≤ 1000; omega, fun rr H8 s8 t8 => ?_⟩⟩⟩
      · exact seqT_same (Same.trans s3 (Same.trans s4 (Same.trans s5 (Same.trans s6 s7)))) (seqT_n n2 sav)
      have s28 := Same.trans s3 (Same.trans s4 (Same.trans s5 (Same.trans s6 (Same.trans s7 s8))))
      have s58 := Same.trans s6 (Same.trans s7 s8)
      refine ⟨_, rfl, _, _, rfl, rfl, _, _, _, rfl, ?_⟩
      have efirst : ((f : Nat) : Int) + 1 = ((f + 1 : Nat) : Int) := by omega
      dsimp only
      rw [efirst]
      have k5 : KeepLG l g H H8 := k2.trans (Same.lg s28)
      have l5 : H8 l = some (.lst ls) := s28 _ _ e3
      obtain ⟨gsf, egs⟩ : ∃ gsf : List V, gsf = [.ref avA] := ⟨_, rfl⟩
      have g5 : H8 g = some (.lst (gs ++ gsf)) := by rw [egs]; exact s28 _ _ e2
      obtain ⟨frk, efr⟩ : ∃ frk : List (Str × Ab), frk = [(x, ab)] := ⟨_, rfl⟩
      have n5 := (k5.n hl hg).t
      have dF : DpAll K H8 gsf (frk.map fun r => abD r.2) := by
        rw [egs, efr]
        exact .cons (dp_n n5 _ _ (noL_ab ab) ha) .nil
      have lenF : gsf.length = 1 := by rw [egs]; rfl
      obtain ⟨M, eM⟩ : ∃ M : Nat, M = f + 1 := ⟨_, rfl⟩
      obtain ⟨ab0, eab0⟩ : ∃ ab0 : Ab, ab0 = ab ++ [(f, 0)] := ⟨_, rfl⟩
      obtain ⟨ab1, eab1⟩ : ∃ ab1 : Ab, ab1 = ab ++ [(f, 1)] := ⟨_, rfl⟩
      have d0 : Dp K H8 (.ref pp) (abD ab0) := by
        rw [eab0]
        exact abD_snoc (xs := avs) (q := q1) (seqT_same s58 t5) (dpAll_n n5 _ _ (noL_ab ab) dav) (seqT_same (Same.trans s4 (Same.trans s5 s58)) t3)
      have d1 : Dp K H8 (.ref rr) (abD ab1) := by
        rw [eab1]
        exact abD_snoc (xs := avs) (q := r1) t8 (dpAll_n n5 _ _ (noL_ab ab) dav) (seqT_same (Same.trans s7 s8) t6)
      have la0 : ab0.length ≤ ab.length + 1 := by rw [eab0, List.length_append]; exact Nat.le_refl _
      have la1 : ab1.length ≤ ab.length + 1 := by rw [eab1, List.length_append]; exact Nat.le_refl _
      have hq : ∀ (H' : Hp) (ls' gs' : List V), KeepLG l g H H' → H' l = some (.lst (ls ++ ls')) → H' g = some (.lst (gs ++ gs')) → DpAll K H' ls' (((lay M ab0 c).1 ++ (lay (M + (lay M ab0 c).2.length) ab1 d).1).map fun r => abD r.2) →
          DpAll K H' gs' ((frk ++ ((lay M ab0 c).2 ++ (lay (M + (lay M ab0 c).2.length) ab1 d).2)).map fun r => abD r.2) → Q (.int (M + (lay M ab0 c).2.length + (lay (M + (lay M ab0 c).2.length) ab1 d).2.length : Nat)) H' := by
        rw [eM, eab0, eab1, efr]
        intro H' ls' gs' a1 a2 a3 a4 a5
        have z := q H' ls' gs' a1 a2 a3 a4 a5
        simp only [List.length_append, List.length_cons] at z
        have ez : f + ((lay (f + 1) (ab ++ [(f, 0)]) c).2.length + (lay (f + 1 + (lay (f + 1) (ab ++ [(f, 0)]) c).2.length) (ab ++ [(f, 1)]) d).2.length + 1) = f + 1 + (lay (f + 1) (ab ++ [(f, 0)]) c).2.length + (lay (f + 1 + (lay (f + 1) (ab ++ [(f, 0)]) c).2.length) (ab ++ [(f, 1)]) d).2.length := by omega
        rw [ez] at z
        exact z
      have b1' : ls.length + ((lay M ab0 c).1.length + (lay (M + (lay M ab0 c).2.length) ab1 d).1.length) ≤ 1000 := by rw [eM, eab0, eab1]; exact b1
      have b2' : gs.length + 1 + ((lay M ab0 c).2.length + (lay (M + (lay M ab0 c).2.length) ab1 d).2.length) ≤ 1000 := by rw [eM, eab0, eab1]; omega
      rw [← eM]
      have k5n := (k5.n hl hg).t
      refine ⟨_, rfl, p, _, _, _, rfl, rfl, seqT_n k5n hT, rfl, _, rfl, _, rfl, _, rfl, _, rfl, ?_⟩
      refine ⟨l, g, ls, gs ++ gsf, j, M, v1, (.ref pp), c, ab0, rfl, by omega, nlg, l5, g5, by omega, by rw [List.length_append, lenF]; omega, dp_n k5n _ _ (noL_form hc) dc, hc, d0, by omega, fun H8 ls8 gs8 k8 l8 g8 D8 E8 => ?_⟩
      have k58 := (k8.n l5 g5).t
      have k08 := k5.trans k8
      have n08 := (k08.n hl hg).t
      have len8 : ls8.length = (lay M ab0 c).1.length := by rw [dpAll_len D8, List.length_map]
      have len8' : gs8.length = (lay M ab0 c).2.length := by rw [dpAll_len E8, List.length_map]
      refine ⟨_, rfl, p, _, _, _, rfl, rfl, seqT_n n08 hT, rfl, _, rfl, _, rfl, _, rfl, _, rfl, ?_⟩
      refine ⟨l, g, ls ++ ls8, (gs ++ gsf) ++ gs8, j, M + (lay M ab0 c).2.length, v2, (.ref rr), d, ab1, rfl, by omega, nlg, l8, g8, by rw [List.length_append]; omega, by rw [List.length_append, List.length_append, lenF]; omega, dp_n n08 _ _ (noL_form hd) dd, hd, dp_n k58 _ _ (noL_ab _) d1, by omega, fun H9 ls9 gs9 k9 l9 g9 D9 E9 => ?_⟩
      have k89 := (k9.n l8 g8).t
      refine hq H9 (ls8 ++ ls9) (gsf ++ (gs8 ++ gs9)) (k08.trans k9) (by rw [l9, List.append_assoc]) (by rw [g9, List.append_assoc, List.append_assoc]) ?_ ?_
      · rw [List.map_append]
        exact dpAll_app (dpAll_n k89 _ _ (noLs_map (fun r => noL_ab _) _) D8) D9
      · rw [List.map_append, List.map_append]
        exact dpAll_app (dpAll_n k89 _ _ (noLs_map (fun r => noL_ab _) _) (dpAll_n k58 _ _ (noLs_map (fun r => noL_ab _) _) dF)) (dpAll_app (dpAll_n k89 _ _ (noLs_map (fun r => noL_ab _) _) E8) E9)
    · rw [decide_eq_false hy2]
      rw [lay3n _ _ _ _ _ hy2] at q b1 b2
      simp only [List.length_append] at b1 b2
      refine iteF ?_
      have k5 : KeepLG l g H H1 := Same.lg s1
      have l5 : H1 l = some (.lst ls) := s1 _ _ hl
      obtain ⟨gsf, egs⟩ : ∃ gsf : List V, gsf = [] := ⟨_, rfl⟩
      have g5 : H1 g = some (.lst (gs ++ gsf)) := by rw [egs, List.append_nil]; exact s1 _ _ hg
      obtain ⟨frk, efr⟩ : ∃ frk : List (Str × Ab), frk = [] := ⟨_, rfl⟩
      have dF : DpAll K H1 gsf (frk.map fun r => abD r.2) := by
        rw [egs, efr]
        exact .nil
      have lenF : gsf.length = 0 := by rw [egs]; rfl
      obtain ⟨M, eM⟩ : ∃ M : Nat, M = f := ⟨_, rfl⟩
      obtain ⟨ab0, eab0⟩ : ∃ ab0 : Ab, ab0 = ab := ⟨_, rfl⟩
      obtain ⟨ab1, eab1⟩ : ∃ ab1 : Ab, ab1 = ab := ⟨_, rfl⟩
      have d0 : Dp K H1 av (abD ab0) := by rw [eab0]; exact dp_same s1 _ _ ha
      have d1 : Dp K H1 av (abD ab1) := by rw [eab1]; exact dp_same s1 _ _ ha
      have la0 : ab0.length ≤ ab.length + 1 := by rw [eab0]; omega
      have la1 : ab1.length ≤ ab.length + 1 := by rw [eab1]; omega
      have hq : ∀ (H' : Hp) (ls' gs' : List V), KeepLG l g H H' → H' l = some (.lst (ls ++ ls')) → H' g = some (.lst (gs ++ gs')) → DpAll K H' ls' (((lay M ab0 c).1 ++ (lay (M + (lay M ab0 c).2.length) ab1 d).1).map fun r => abD r.2) →
          DpAll K H' gs' ((frk ++ ((lay M ab0 c).2 ++ (lay (M + (lay M ab0 c).2.length) ab1 d).2)).map fun r => abD r.2) → Q (.int (M + (lay M ab0 c).2.length + (lay (M + (lay M ab0 c).2.length) ab1 d).2.length : Nat)) H' := by
        rw [eM, eab0, eab1, efr]
        intro H' ls' gs' a1 a2 a3 a4 a5
        have z := q H' ls' gs' a1 a2 a3 a4 a5
        simp only [List.length_append] at z
        rw [← Nat.add_assoc] at z
        exact z
      have b1' : ls.length + ((lay M ab0 c).1.length + (lay (M + (lay M ab0 c).2.length) ab1 d).1.length) ≤ 1000 := by rw [eM, eab0, eab1]; exact b1
      have b2' : gs.length + ((lay M ab0 c).2.length + (lay (M + (lay M ab0 c).2.length) ab1 d).2.length) ≤ 1000 := by rw [eM, eab0, eab1]; exact b2
      rw [← eM]
      have k5n := (k5.n hl hg).t
      refine ⟨_, rfl, p, _, _, _, rfl, rfl, seqT_n k5n hT, rfl, _, rfl, _, rfl, _, rfl, _, rfl, ?_⟩
      refine ⟨l, g, ls, gs ++ gsf, j, M, v1, av, c, ab0, rfl, by omega, nlg, l5, g5, by omega, by rw [List.length_append, lenF]; omega, dp_n k5n _ _ (noL_form hc) dc, hc, d0, by omega, fun H8 ls8 gs8 k8 l8 g8 D8 E8 => ?_⟩
      have k58 := (k8.n l5 g5).t
      have k08 := k5.trans k8
      have n08 := (k08.n hl hg).t
      have len8 : ls8.length = (lay M ab0 c).1.length := by rw [dpAll_len D8, List.length_map]
      have len8' : gs8.length = (lay M ab0 c).2.length := by rw [dpAll_len E8, List.length_map]
      refine ⟨_, rfl, p, _, _, _, rfl, rfl, seqT_n n08 hT, rfl, _, rfl, _, rfl, _, rfl, _, rfl, ?_⟩
      refine ⟨l, g, ls ++ ls8, (gs ++ gsf) ++ gs8, j, M + (lay M ab0 c).2.length, v2, av, d, ab1, rfl, by omega, nlg, l8, g8, by rw [List.length_append]; omega, by rw [List.length_append, List.length_append, lenF]; omega, dp_n n08 _ _ (noL_form hd) dd, hd, dp_n k58 _ _ (noL_ab _) d1, by omega, fun H9 ls9 gs9 k9 l9 g9 D9 E9 => ?_⟩
      have k89 := (k9.n l8 g8).t
      refine hq H9 (ls8 ++ ls9) (gsf ++ (gs8 ++ gs9)) (k08.trans k9) (by rw [l9, List.append_assoc]) (by rw [g9, List.append_assoc, List.append_assoc]) ?_ ?_
      · rw [List.map_append]
        exact dpAll_app (dpAll_n k89 _ _ (noLs_map (fun r => noL_ab _) _) D8) D9
      · rw [List.map_append, List.map_append]
        exact dpAll_app (dpAll_n k89 _ _ (noLs_map (fun r => noL_ab _) _) (dpAll_n k58 _ _ (noLs_map (fun r => noL_ab _) _) dF)) (dpAll_app (dpAll_n k89 _ _ (noLs_map (fun r => noL_ab _) _) E8) E9)
end
end My

set_option Elab.async false
set_option linter.all false
set_option maxRecDepth 100000
namespace My
open PySem L2
abbrev s_law_all_above : Stmt := top 56
abbrev N_law_all_above : List Str := ["_law_ends", "_law_tips", "_law_branches", "_law_first", "_law_form"]
abbrev P_law_all_above : List Str := ["_law_ends"]
theorem sc_law_all_above : FnScope N_law_all_above P_law_all_above (defScope s_law_all_above) := ⟨rfl, rfl, rfl, by decide +kernel, rfl, by decide +kernel, by decide +kernel⟩
def spAllAbove (K : PySem.W.Frag) : Sp := fun vs H Q _ => ∃ (a : Addr) (xs : List V) (ds : List PyData), vs = [.ref a] ∧ (SqL K H a xs ∨ SqT K H a xs) ∧ DpAll K H xs ds ∧ ds.all (isForm 12) = true ∧ (ds.flatMap lvs).length ≤ 40 ∧
  ∀ (H' : Hp) (t l g : Addr) (us ws : List V), Same H H' → SqT K H' t [.ref l, .ref g] → H' l = some (.lst us) → H' g = some (.lst ws) → DpAll K H' us ((layE 0 0 ds).1.map fun r => abD r.2.2) → DpAll K H' ws ((layE 0 0 ds).2.map fun r => abD r.2.2) → Q (.ref t) H'
section
variable {P : Program} {w : World} {K : PySem.W.Frag} {mg : Str → Option Value} {base : Heap} {f : Addr} {fd : FuncData}
theorem ok_law_all_above (T : Txt7 K mg) (F : Fun K "_law_all_above" "_law_all_above" s_law_all_above f fd) (C_law_above : Cal P w K mg base "_law_above" 13 P_law_above (spAbove K 13)) : FnOk P w K mg base CX0 14 f fd P_law_all_above (spAllAbove K) := by
  refine F.ok sc_law_all_above (fun vs H Q E h => ?_) (fun cdv A outer s H vs Q E hr h => ?_)
  · obtain ⟨a, xs, ds, rfl, _⟩ := h
    rfl
  obtain ⟨a, xs, ds, rfl, hS, hA, hF, hL, q⟩ := h
  refine ⟨_, (pss_cons (ps_par3 (i := 1) (j := 2) (l := 3) (by rfl) sc_law_all_above.nd rfl rfl rfl (by decide) (by decide) (by decide) rfl rfl rfl (pa_cons (pe_lst pa_nil) (pa_cons (pe_lst pa_nil) (pa_cons pe_int pa_nil))) (by rfl))
  (pss_cons (ps_for PassesOwn.never rfl (pi_orR (pi_list (pv 0)) (pi_tup (pv 0))) (pg_name (i := 4) sc_law_all_above.nd rfl (Or.inl rfl))
    (pss_one (ps_set (i := 3) sc_law_all_above.nd rfl (Or.inl rfl) (pe_callC C_law_above hr (pa_cons (pv 4) (pa_cons (pe_tupN pa_nil) (pa_cons (pv 3) (pa_cons (pv 1) (pa_cons (pv 2) pa_nil)))))))))
  (pss_one (ps_ret (pe_tupN (pa_cons (pv 1) (pa_cons (pv 2) pa_nil))))))), ?_⟩
  have hl := dpAll_len hA
  refine ⟨Nat.zero_le _, fun l nl => ⟨Nat.zero_le _, fun g ng => ?_⟩⟩
  have ngl : g ≠ l := fun z => by
    rw [z, upd_same] at ng
    cases ng
  have ng0 : H g = none := by
    rw [upd_ne ngl] at ng
    exact ng
  have s0 : Same H (upd (upd H l (.lst [])) g (.lst [])) := fun b o e => by
    rw [upd_ne (ne_of_none e ng0), upd_ne (ne_of_none e nl)]
    exact e
  refine ⟨_, _, _, rfl, ?_⟩
  rcases hS with hS | hS
  · refine .inl ⟨_, rfl, a, rfl, ⟨xs, s0.seq hS⟩, ?_⟩
    refine for_it walk_list (fun i σ H' => Same H H' ∧ σ.length = 5 ∧ σ[1]? = some (some (.ref l)) ∧ σ[2]? = some (some (.ref g)) ∧ σ[3]? = some (some (.int ((layE 0 0 (ds.take i)).2.length : Nat))) ∧ ∃ us ws, H' l = some (.lst us) ∧ H' g = some (.lst ws) ∧ DpAll K H' us ((layE 0 0 (ds.take i)).1.map fun r => abD r.2.2) ∧ DpAll K H' ws ((layE 0 0 (ds.take i)).2.map fun r => abD r.2.2))
      ⟨s0, rfl, rfl, rfl, rfl, [], [], by rw [upd_ne ngl.symm, upd_same], upd_same, .nil, .nil⟩ (fun i σ H' _ pv => by obtain ⟨s1, _⟩ := pv; exact s1.seq hS) (fun i x σ H1 H2 hi pv y => ?_) (fun σ H' pv => ?_)
    · obtain ⟨rfl, hx⟩ := y
      obtain ⟨d, hd, hxd⟩ := dpAll_at hA hx
      obtain ⟨s1, gl, g1, g2, g3, us, ws, el, eg, du, dw⟩ := pv
      have fd : isForm 12 d = true := List.all_eq_true.mp hF d (List.mem_of_getElem? hd)
      have lti : (ds.take i).length = i := by
        rw [List.length_take]
        omega
      have etk : ds.take (i + 1) = ds.take i ++ [d] := take_next hd
      have snoc := layE_snoc d (ds.take i) 0 0
      rw [lti] at snoc
      simp only [Nat.zero_add] at snoc
      have allT : (ds.take (i + 1)).all (isForm 12) = true := by
        rw [List.all_eq_true]
        intro y hy
        exact List.all_eq_true.mp hF y (List.mem_of_mem_take hy)
      have many := layE_len (ds.take (i + 1)) allT (Nat.le_trans (flat_len lvs ds (i + 1)) hL)
      rw [etk, snoc] at many
      simp only [List.length_append, List.length_map] at many
      have lus := dpAll_len du
      have lws := dpAll_len dw
      rw [List.length_map] at lus lws
      refine ⟨x, by rw [List.getElem?_set_self (by omega)], Nat.zero_le _, fun n1 H3 s3 e3 => ?_⟩
      refine ⟨_, by rw [List.getElem?_set_ne (by omega)]; exact g3, _, by rw [List.getElem?_set_ne (by omega)]; exact g1, _, by rw [List.getElem?_set_ne (by omega)]; exact g2, ?_⟩
      have s13 := Same.trans s1 s3
      refine ⟨l, g, us, ws, 12, (layE 0 0 (ds.take i)).2.length, x, .ref n1, d, [], rfl, by omega, ngl.symm, s3 _ _ el, s3 _ _ eg, by omega, by omega, dp_same s13 _ _ hxd, fd, .tup e3 .nil, by decide, fun H4 us4 ws4 k4 l4 g4 du4 dw4 => ?_⟩
      have k34 := (k4.n (s3 _ _ el) (s3 _ _ eg)).t
      have kk : KeepT H2 H4 := ⟨fun b xs e => k34.t _ _ (s3 _ _ e), fun b o xs e => k34.f _ _ _ (s3 _ _ e)⟩
      have es : ∀ v : V, ((σ.set 4 (some x)).set 3 (some v)).length = 5 := fun v => by rw [List.length_set, List.length_set]; exact gl
      refine ⟨fun b o e => k4 _ _ (ne_of_none e nl) (ne_of_none e ng0) (s13 _ _ e), es _, by rw [List.getElem?_set_ne (by omega), List.getElem?_set_ne (by omega)]; exact g1, by rw [List.getElem?_set_ne (by omega), List.getElem?_set_ne (by omega)]; exact g2, ?_, us ++ us4, ws ++ ws4, l4, g4, ?_, ?_⟩
      · rw [List.getElem?_set_self (by rw [List.length_set]; omega), etk, snoc, List.length_append, List.length_map]
      · rw [etk, snoc, List.map_append]
        refine dpAll_app (dpAll_n kk _ _ (noLs_map (fun r => noL_ab _) _) du) ?_
        rw [List.map_map]
        exact du4
      · rw [etk, snoc, List.map_append]
        refine dpAll_app (dpAll_n kk _ _ (noLs_map (fun r => noL_ab _) _) dw) ?_
        rw [List.map_map]
        exact dw4
    · obtain ⟨s1, gl, g1, g2, g3, us, ws, el, eg, du, dw⟩ := pv
      rw [List.take_of_length_le (by omega)] at du dw
      exact ⟨_, g1, _, g2, le1k, fun t H2 s2 t2 => q H2 t l g us ws (Same.trans s1 s2) t2 (s2 _ _ el) (s2 _ _ eg) (dpAll_same s2 _ _ du) (dpAll_same s2 _ _ dw)⟩
  · refine .inr ⟨_, rfl, a, rfl, ⟨xs, seqT_same s0 hS⟩, ?_⟩
    refine for_it walk_tup (fun i σ H' => Same H H' ∧ σ.length = 5 ∧ σ[1]? = some (some (.ref l)) ∧ σ[2]? = some (some (.ref g)) ∧ σ[3]? = some (some (.int ((layE 0 0 (ds.take i)).2.length : Nat))) ∧ ∃ us ws, H' l = some (.lst us) ∧ H' g = some (.lst ws) ∧ DpAll K H' us ((layE 0 0 (ds.take i)).1.map fun r => abD r.2.2) ∧ DpAll K H' ws ((layE 0 0 (ds.take i)).2.map fun r => abD r.2.2))
      ⟨s0, rfl, rfl, rfl, rfl, [], [], by rw [upd_ne ngl.symm, upd_same], upd_same, .nil, .nil⟩ (fun i σ H' _ pv => by obtain ⟨s1, _⟩ := pv; exact seqT_same s1 hS) (fun i x σ H1 H2 hi pv y => ?_) (fun σ H' pv => ?_)
    · obtain ⟨rfl, hx⟩ := y
      obtain ⟨d, hd, hxd⟩ := dpAll_at hA hx
      obtain ⟨s1, gl, g1, g2, g3, us, ws, el, eg, du, dw⟩ := pv
      have fd : isForm 12 d = true := List.all_eq_true.mp hF d (List.mem_of_getElem? hd)
      have lti : (ds.take i).length = i := by
        rw [List.length_take]
        omega
      have etk : ds.take (i + 1) = ds.take i ++ [d] := take_next hd
      have snoc := layE_snoc d (ds.take i) 0 0
      rw [lti] at snoc
      simp only [Nat.zero_add] at snoc
      have allT : (ds.take (i + 1)).all (isForm 12) = true := by
        rw [List.all_eq_true]
        intro y hy
        exact List.all_eq_true.mp hF y (List.mem_of_mem_take hy)
      have many := layE_len (ds.take (i + 1)) allT (Nat.le_trans (flat_len lvs ds (i + 1)) hL)
      rw [etk, snoc] at many
      simp only [List.length_append, List.length_map] at many
      have lus := dpAll_len du
      have lws := dpAll_len dw
      rw [List.length_map] at lus lws
      refine ⟨x, by rw [List.getElem?_set_self (by omega)], Nat.zero_le _, fun n1 H3 s3 e3 => ?_⟩
      refine ⟨_, by rw [List.getElem?_set_ne (by omega)]; exact g3, _, by rw [List.getElem?_set_ne (by omega)]; exact g1, _, by rw [List.getElem?_set_ne (by omega)]; exact g2, ?_⟩
      have s13 := Same.trans s1 s3
      refine ⟨l, g, us, ws, 12, (layE 0 0 (ds.take i)).2.length, x, .ref n1, d, [], rfl, by omega, ngl.symm, s3 _ _ el, s3 _ _ eg, by omega, by omega, dp_same s13 _ _ hxd, fd, .tup e3 .nil, by decide, fun H4 us4 ws4 k4 l4 g4 du4 dw4 => ?_⟩
      have k34 := (k4.n (s3 _ _ el) (s3 _ _ eg)).t
      have kk : KeepT H2 H4 := ⟨fun b xs e => k34.t _ _ (s3 _ _ e), fun b o xs e => k34.f _ _ _ (s3 _ _ e)⟩
      have es : ∀ v : V, ((σ.set 4 (some x)).set 3 (some v)).length = 5 := fun v => by rw [List.length_set, List.length_set]; exact gl
      refine ⟨fun b o e => k4 _ _ (ne_of_none e nl) (ne_of_none e ng0) (s13 _ _ e), es _, by rw [List.getElem?_set_ne (by omega), List.getElem?_set_ne (by omega)]; exact g1, by rw [List.getElem?_set_ne (by omega), List.getElem?_set_ne (by omega)]; exact g2, ?_, us ++ us4, ws ++ ws4, l4, g4, ?_, ?_⟩
      · rw [List.getElem?_set_self (by rw [List.length_set]; omega), etk, snoc, List.length_append, List.length_map]
      · rw [etk, snoc, List.map_append]
        refine dpAll_app (dpAll_n kk _ _ (noLs_map (fun r => noL_ab _) _) du) ?_
        rw [List.map_map]
        exact du4
      · rw [etk, snoc, List.map_append]
        refine dpAll_app (dpAll_n kk _ _ (noLs_map (fun r => noL_ab _) _) dw) ?_
        rw [List.map_map]
        exact dw4
    · obtain ⟨s1, gl, g1, g2, g3, us, ws, el, eg, du, dw⟩ := pv
      rw [List.take_of_length_le (by omega)] at du dw
      exact ⟨_, g1, _, g2, le1k, fun t H2 s2 t2 => q H2 t l g us ws (Same.trans s1 s2) t2 (s2 _ _ el) (s2 _ _ eg) (dpAll_same s2 _ _ du) (dpAll_same s2 _ _ dw)⟩
end
end My

set_option Elab.async false
set_option linter.all false
set_option maxRecDepth 100000
namespace My
open PySem L2
/-- a def of the text whose code object is known -/
structure FunC (K : PySem.W.Frag) (x qual : Str) (st : Stmt) (f : Addr) (fd : FuncData) (cdv : Value) : Prop where
  ex : ∃ (oc : Value) (od : Option Addr) (kV doc pm : Value) (an : Option Addr) (ct : Value) (osl : Array (Option Value)),
    fd = PySem.W.fnOf x qual (defArgs st) (defBody st) (defScope st) .none kV doc pm an cdv ct ∧ K.lookup f = some ⟨oc, od, .func fd, osl⟩ ∧ PySem.W.codeIn K cdv qual = true
theorem FunC.ok {P : Program} {w : World} {K : PySem.W.Frag} {mg : Str → Option Value} {base : Heap} {x qual : Str} {st : Stmt} {f : Addr} {fd : FuncData} {cdv : Value} {N ps : List Str} {k : Nat} {sp : Sp} (F : FunC K x qual st f fd cdv) (S : FnScope N ps (defScope st))
    (len : ∀ vs H Q E, sp vs H Q E → vs.length = ps.length)
    (hbody : ∀ (A : Around) (outer : List Env) (s : Shared) (H : Hp) (vs : List V) (Q : VK) (E : XK), Room k (A.deeper (PyProof.Rows.envOfC qual (defScope st) s.heap.objs.size f cdv)) → sp vs H Q E →
      ∃ t, PSs (cxOf CX0 P w K mg base N qual (defScope st) f cdv A outer s H E).nox (defBody st) t ∧ t { nx := fun _ H' => Q .non H', rt := Q } (L2.start N vs) H) : FnOk P w K mg base CX0 (k + 1) f fd ps sp := by
  obtain ⟨oc, od, kV, doc, pm, an, ct, osl, rfl, lk, hcd⟩ := F.ex
  refine fn_of lk hcd S len fun A outer s H vs Q E hr hsp => ?_
  obtain ⟨t, h, q⟩ := hbody A outer s H vs Q E hr hsp
  exact ⟨t, h.nox, q⟩
theorem cells_mono {env : Env} {N : List Str} {σ τ : L2.St} {C : Addr → Option Obj} (h : ∀ (i : Nat) (x : Str) (v : V), N[i]? = some x → σ[i]? = some (some v) → (env.kindOf x = some .cell ∨ env.kindOf x = some .free) → τ[i]? = some (some v)) (K : Clo.CellsAt env N τ C) : Clo.CellsAt env N σ C :=
  ⟨K.all, fun i x v c hn hs hk e => K.val i x v c hn (h i x v hn hs hk) hk e⟩
theorem minus_plus {C : Addr → Option Obj} {H : Hp} (h : ∀ c o, C c = some o → H c = none) : Clo.minus C (Clo.plus C H) = H := by
  funext b
  cases e : C b with
  | none => rw [Clo.minus_out e, Clo.plus_out e]
  | some o => rw [Clo.minus_in e, h b o e]
section
variable {K : PySem.W.Frag}
theorem seqT_x {H H' : Hp} (k : LamX.ExtN H H') {a : Addr} {xs : List V} (h : SqT K H a xs) : SqT K H' a xs := by
  rcases h with (h | ⟨o, h⟩) | h
  · exact .inl (.inl (k _ _ h fun _ z => nomatch z))
  · exact .inl (.inr ⟨o, k _ _ h fun _ z => nomatch z⟩)
  · exact .inr h
theorem seqL_x {H H' : Hp} (k : LamX.ExtN H H') {a : Addr} {xs : List V} (h : SqL K H a xs) : SqL K H' a xs := by
  rcases h with (h | ⟨o, h⟩) | h
  · exact .inl (.inl (k _ _ h fun _ z => nomatch z))
  · exact .inl (.inr ⟨o, k _ _ h fun _ z => nomatch z⟩)
  · exact .inr h
mutual
theorem dp_x {H H' : Hp} (k : LamX.ExtN H H') : ∀ (D : PyData) (v : V), Dp K H v D → Dp K H' v D
  | .none, _, h => by cases h; exact .non
  | .bool b, _, h => by cases h; exact .bl b
  | .int i, _, h => by cases h; exact .int i
  | .str x, _, h => by cases h; exact .str x
  | .list ds, _, h => by cases h with | lst hs ha => exact .lst (seqL_x k hs) (dpAll_x k ds _ ha)
  | .tuple ds, _, h => by cases h with | tup hs ha => exact .tup (seqT_x k hs) (dpAll_x k ds _ ha)
  | .dict _, _, h => by cases h
theorem dpAll_x {H H' : Hp} (k : LamX.ExtN H H') : ∀ (Ds : List PyData) (vs : List V), DpAll K H vs Ds → DpAll K H' vs Ds
  | [], _, h => by cases h; exact .nil
  | D :: Ds, _, h => by cases h with | cons h1 h2 => exact .cons (dp_x k D _ h1) (dpAll_x k Ds _ h2)
end
end
abbrev s_law_refuses : Stmt := top 60
abbrev N_law_refuses : List Str := ["_law_pen", "_law_ends", "_law_deed", "_law_odd"]
abbrev P_law_refuses : List Str := ["_law_pen", "_law_ends"]
theorem sc_law_refuses : FnScope N_law_refuses P_law_refuses (defScope s_law_refuses) := ⟨rfl, rfl, rfl, by decide +kernel, rfl, by decide +kernel, by decide +kernel⟩
/-- no ends -/
def NoEnds (K : PySem.W.Frag) (H : Hp) (v : V) : Prop := (∃ D, Dp K H v D ∧ shortD D = true ∧ widD D = true ∧ D.depth ≤ 60 ∧ isEnds D = false) ∨ ∃ (a : Addr) (kvs : List (Key × V)), v = .ref a ∧ H a = some (.dK kvs) ∧ (kvs.map (·.1)).Nodup ∧ ∀ p ∈ kvs, flatB p.2 = true
def spNoEnds (K : PySem.W.Frag) : Sp := fun vs H Q _ => ∃ (d L a : Addr) (ns : List Int) (n : Nat) (xs : List V) (ds : List PyData), vs = [.ref d, .ref a] ∧ Pen K H d L ns n ∧ n < 2 ^ 37 ∧ H a = some (.lst xs) ∧ DpAll K H xs ds ∧ isEnds (.list ds) = true ∧ ∀ v H', Keep d H H' → NoEnds K H' v → Q v H'
theorem NoEnds.x {K : PySem.W.Frag} {H H' : Hp} {v : V} (k : LamX.ExtN H H') (h : NoEnds K H v) : NoEnds K H' v := by
  rcases h with ⟨D, h1, h2⟩ | ⟨a, kvs, e, h1, h2⟩
  · exact .inl ⟨D, dp_x k _ _ h1, h2⟩
  · exact .inr ⟨a, kvs, e, k _ _ h1 (fun _ z => nomatch z), h2⟩
/-- a value that refuses what stands in slot 3 -/
def Rdy (X : Cx) (CB : Addr) (q : Str) (σ : L2.St) (H : Hp) (v : V) : Prop := ∃ (f c' : Addr) (fo : Obj) (out : List PyData → List PyData), v = .ref f ∧ Clo.FnObj fo ∧ H f = some (Clo.Pin f fo) ∧ H c' = some (LamX.CodeO c' q) ∧
  ∀ C, Clo.CellsAt X.env X.N σ C → Clo.Act X.prog X.w X.K X.mg X.base 19 f (Clo.tlX f c' fo q C σ (fun E => tCallS (spView X.K CB out) (WE fun cls d _ H => E cls d H) (tCons (tVar 3) tNil)))
theorem Rdy.x {X : Cx} {CB : Addr} {q : Str} {σ : L2.St} {H H' : Hp} {v : V} (k : LamX.ExtN H H') (h : Rdy X CB q σ H v) : Rdy X CB q σ H' v := by
  obtain ⟨f, c', fo, out, e, n, h1, h2, a⟩ := h
  exact ⟨f, c', fo, out, e, n, k _ _ h1 (fun _ => Clo.pin_tbl), k _ _ h2 (fun _ => LamX.codeO_ne _), a⟩
theorem tabs_keep {d : Addr} {H H' : Hp} {Tb : List (Addr × Str)} (hd : IsDk H d) (k : Keep d H H') (t : LamX.Tabs Tb H) : LamX.Tabs Tb H' := fun p hp => by
  obtain ⟨kvs, hd⟩ := hd
  obtain ⟨ps, h1, h2, h3⟩ := t p hp
  refine ⟨ps, k _ _ (fun z => by rw [z, hd] at h1; cases h1) h1, h2, fun pos cv hc => ?_⟩
  obtain ⟨c, e, hc2⟩ := h3 pos cv hc
  exact ⟨c, e, k _ _ (fun z => by
    rw [z, hd] at hc2
    have z' := Option.some.inj hc2
    unfold LamX.CodeO at z'
    cases z') hc2⟩
abbrev lamQ : Str := "_law_refuses.<locals>.<lambda>"
def spRefuses (K : PySem.W.Frag) (Pt : Addr) : Sp := fun vs H Q _ => ∃ (d L a : Addr) (ns : List Int) (n : Nat) (xs : List V) (ds : List PyData), vs = [.ref d, .ref a] ∧ Pen K H d L ns n ∧ n < 2 ^ 37 ∧ H a = some (.lst xs) ∧ DpAll K H xs ds ∧ isEnds (.list ds) = true ∧ LamX.Tabs [(Pt, lamQ)] H ∧ ∀ H', Q (.bl true) H'
section
variable {P : Program} {w : World} {K : PySem.W.Frag} {mg : Str → Option Value} {base : Heap} {f : Addr} {fd : FuncData}
theorem ok_law_refuses {c Pt : Addr} {T : ErrT K mg} (TB : LamX.TabB base mg c Pt) (F : FunC K "_law_refuses" "_law_refuses" s_law_refuses f fd (.ref c)) (C_law_no_ends : Cal P w K mg base "_law_no_ends" 18 ["_law_pen", "_law_ends"] (spNoEnds K)) (C_law_faults : Cal P w K mg base "_law_faults" 88 P_law_faults (spFaults P w K mg base T 20 66))
    (C1 : CalX P w K mg base "leaves" 18 Pleaves (spView K T.B outleaves)) (C2 : CalX P w K mg base "forks" 18 Pforks (spView K T.B outforks)) (C3 : CalX P w K mg base "leaf_ends" 18 Pleaf_ends (spView K T.B outleaf_ends)) (C4 : CalX P w K mg base "fork_ends" 18 Pfork_ends (spView K T.B outfork_ends))
    (C5 : CalX P w K mg base "above_leaves" 18 Pabove_leaves (spView K T.B outabove_leaves)) (C6 : CalX P w K mg base "above_forks" 18 Pabove_forks (spView K T.B outabove_forks)) : FnOk P w K mg base CX0 92 f fd P_law_refuses (spRefuses K Pt) := by
  refine F.ok sc_law_refuses (fun vs H Q E h => ?_) (fun A outer s H vs Q E hr h => ?_)
  · obtain ⟨d, L, a, ns, n, xs, ds, rfl, _⟩ := h
    rfl
  obtain ⟨d, L, a, ns, n, xs, ds, rfl, hp, hn, ha, hA, hE, tabs, q⟩ := h
  refine ⟨_, (pss_cons (ps_set (i := 3) sc_law_refuses.nd rfl (Or.inr rfl) (pe_callC C_law_no_ends hr (pa_cons (pv 0) (pa_cons (pv 1) pa_nil))))
    (pss_cons (ps_for PassesOwn.never rfl (pi_list (pe_lst
      (pa_cons (Clo.pe_lam (k := 18) (t := fun E => tCallS (spView K T.B outleaves) (WE fun cls d _ H => E cls d H) (tCons (tVar 3) tNil)) TB rfl (List.mem_singleton.mpr rfl) (fun p hp _ => by rw [List.mem_singleton.mp hp]) (show LamX.LamS (defScope s_law_refuses) _ from LamX.lamS_by (by decide +kernel)) rfl (fun _ _ _ _ _ => rfl) (fun A outer s H E f c' hr' => pe_callS C1.ok hr' rfl C1.m C1.kp C1.b (fun σ => passAt (takes_of rfl rfl rfl rfl) σ) (pa_cons (pv 3) pa_nil)))
      (pa_cons (Clo.pe_lam (k := 18) (t := fun E => tCallS (spView K T.B outforks) (WE fun cls d _ H => E cls d H) (tCons (tVar 3) tNil)) TB rfl (List.mem_singleton.mpr rfl) (fun p hp _ => by rw [List.mem_singleton.mp hp]) (show LamX.LamS (defScope s_law_refuses) _ from LamX.lamS_by (by decide +kernel)) rfl (fun _ _ _ _ _ => rfl) (fun A outer s H E f c' hr' => pe_callS C2.ok hr' rfl C2.m C2.kp C2.b (fun σ => passAt (takes_of rfl rfl rfl rfl) σ) (pa_cons (pv 3) pa_nil)))
      (pa_cons (Clo.pe_lam (k := 18) (t := fun E => tCallS (spView K T.B outleaf_ends) (WE fun cls d _ H => E cls d H) (tCons (tVar 3) tNil)) TB rfl (List.mem_singleton.mpr rfl) (fun p hp _ => by rw [List.mem_singleton.mp hp]) (show LamX.LamS (defScope s_law_refuses) _ from LamX.lamS_by (by decide +kernel)) rfl (fun _ _ _ _ _ => rfl) (fun A outer s H E f c' hr' => pe_callS C3.ok hr' rfl C3.m C3.kp C3.b (fun σ => passAt (takes_of rfl rfl rfl rfl) σ) (pa_cons (pv 3) pa_nil)))
      (pa_cons (Clo.pe_lam (k := 18) (t := fun E => tCallS (spView K T.B outfork_ends) (WE fun cls d _ H => E cls d H) (tCons (tVar 3) tNil)) TB rfl (List.mem_singleton.mpr rfl) (fun p hp _ => by rw [List.mem_singleton.mp hp]) (show LamX.LamS (defScope s_law_refuses) _ from LamX.lamS_by (by decide +kernel)) rfl (fun _ _ _ _ _ => rfl) (fun A outer s H E f c' hr' => pe_callS C4.ok hr' rfl C4.m C4.kp C4.b (fun σ => passAt (takes_of rfl rfl rfl rfl) σ) (pa_cons (pv 3) pa_nil)))
      (pa_cons (Clo.pe_lam (k := 18) (t := fun E => tCallS (spView K T.B outabove_leaves) (WE fun cls d _ H => E cls d H) (tCons (tVar 3) tNil)) TB rfl (List.mem_singleton.mpr rfl) (fun p hp _ => by rw [List.mem_singleton.mp hp]) (show LamX.LamS (defScope s_law_refuses) _ from LamX.lamS_by (by decide +kernel)) rfl (fun _ _ _ _ _ => rfl) (fun A outer s H E f c' hr' => pe_callS C5.ok hr' rfl C5.m C5.kp C5.b (fun σ => passAt (takes_of rfl rfl rfl rfl) σ) (pa_cons (pv 3) pa_nil)))
      (pa_cons (Clo.pe_lam (k := 18) (t := fun E => tCallS (spView K T.B outabove_forks) (WE fun cls d _ H => E cls d H) (tCons (tVar 3) tNil)) TB rfl (List.mem_singleton.mpr rfl) (fun p hp _ => by rw [List.mem_singleton.mp hp]) (show LamX.LamS (defScope s_law_refuses) _ from LamX.lamS_by (by decide +kernel)) rfl (fun _ _ _ _ _ => rfl) (fun A outer s H E f c' hr' => pe_callS C6.ok hr' rfl C6.m C6.kp C6.b (fun σ => passAt (takes_of rfl rfl rfl rfl) σ) (pa_cons (pv 3) pa_nil)))
      pa_nil)))))))) (pg_name (i := 2) sc_law_refuses.nd rfl (Or.inl rfl))
      (pss_one (ps_if (pt_not (pt_val (Clo.pe_callT C_law_faults.ok (hr.mono (by decide)) rfl C_law_faults.m C_law_faults.kp C_law_faults.b (fun _ => rfl) (pa_cons (pv 2) (pa_cons (pe_tup (pa_cons pe_str (pa_cons (pv 3) pa_nil))) pa_nil)))))
        (pss_one (ps_ret pe_bl))
        pss_nil)))
    (pss_one (ps_ret pe_bl)))), ?_⟩
  refine ⟨_, rfl, _, rfl, d, L, a, ns, n, xs, ds, rfl, hp, hn, ha, hA, hE, fun odd H1 k1 bad => ?_⟩
  have tabs1 := tabs_keep hp.isDk k1 tabs
  refine ⟨tabs1, fun f1 fo1 c1 H2 x2 t2 n2 p2 q2 o2 a2 => ⟨t2, fun f2 fo2 c2 H3 x3 t3 n3 p3 q3 o3 a3 => ⟨t3, fun f3 fo3 c3 H4 x4 t4 n4 p4 q4 o4 a4 => ⟨t4, fun f4 fo4 c4 H5 x5 t5 n5 p5 q5 o5 a5 => ⟨t5, fun f5 fo5 c5 H6 x6 t6 n6 p6 q6 o6 a6 => ⟨t6, fun f6 fo6 c6 H7 x7 t7 n7 p7 q7 o7 a7 => ?_⟩⟩⟩⟩⟩⟩
  refine ⟨by show 6 ≤ sizeLine; decide, fun p np => ?_⟩
  have x8 : LamX.ExtN H7 (upd H7 p (.lst [.ref f1, .ref f2, .ref f3, .ref f4, .ref f5, .ref f6])) := LamX.ExtN.of (Clo.new_same np)
  have e8 : upd H7 p (.lst [.ref f1, .ref f2, .ref f3, .ref f4, .ref f5, .ref f6]) p = some (.lst [.ref f1, .ref f2, .ref f3, .ref f4, .ref f5, .ref f6]) := upd_same
  generalize upd H7 p (.lst [.ref f1, .ref f2, .ref f3, .ref f4, .ref f5, .ref f6]) = H8 at *
  have bad8 : NoEnds K H8 odd := NoEnds.x (x2.trans (x3.trans (x4.trans (x5.trans (x6.trans (x7.trans x8)))))) bad
  obtain ⟨σ0, eσ⟩ : ∃ σ0 : L2.St, σ0 = (L2.start N_law_refuses [.ref d, .ref a]).set 3 (some odd) := ⟨_, rfl⟩
  obtain ⟨X, eX⟩ : ∃ X : Cx, X = (cxOf CX0 P w K mg base N_law_refuses "_law_refuses" (defScope s_law_refuses) f (.ref c) A outer s H E).nox := ⟨_, rfl⟩
  have rdy : ∀ x ∈ [V.ref f1, .ref f2, .ref f3, .ref f4, .ref f5, .ref f6], Rdy X T.B lamQ σ0 H8 x := by
    rw [eX, eσ]
    intro x hx
    simp only [List.mem_cons, List.not_mem_nil, or_false] at hx
    rcases hx with rfl | rfl | rfl | rfl | rfl | rfl
    · exact Rdy.x (x3.trans (x4.trans (x5.trans (x6.trans (x7.trans x8))))) ⟨f1, c1, fo1, _, rfl, o2, p2, q2, a2⟩
    · exact Rdy.x (x4.trans (x5.trans (x6.trans (x7.trans x8)))) ⟨f2, c2, fo2, _, rfl, o3, p3, q3, a3⟩
    · exact Rdy.x (x5.trans (x6.trans (x7.trans x8))) ⟨f3, c3, fo3, _, rfl, o4, p4, q4, a4⟩
    · exact Rdy.x (x6.trans (x7.trans x8)) ⟨f4, c4, fo4, _, rfl, o5, p5, q5, a5⟩
    · exact Rdy.x (x7.trans x8) ⟨f5, c5, fo5, _, rfl, o6, p6, q6, a6⟩
    · exact Rdy.x x8 ⟨f6, c6, fo6, _, rfl, o7, p7, q7, a7⟩
  refine ⟨p, rfl, ⟨_, SqL.of e8⟩, ?_⟩
  refine for_it walk_list (fun i σ H' => LamX.ExtN H8 H' ∧ σ.length = 4 ∧ σ[3]? = some (some odd)) ⟨LamX.ExtN.refl _, rfl, rfl⟩ (fun i σ H' _ pv => SqL.of (pv.1 _ _ e8 fun _ z => nomatch z)) (fun i x σ H9 H9' hi pv y => ?_) (fun σ H' pv => q H')
  obtain ⟨rfl, hx⟩ := y
  obtain ⟨x9, gl, g3⟩ := pv
  refine ⟨x, by rw [List.getElem?_set_self (by omega)], odd, by rw [List.getElem?_set_ne (by omega)]; exact g3, by show 2 ≤ sizeLine; decide, fun tp ntp => ?_⟩
  intro C KC hC
  obtain ⟨fx, cx, fox, out, ex, nx, px, qx, act⟩ := (rdy x (List.mem_of_getElem? hx)).x x9
  subst eX
  have KC0 : Clo.CellsAt (PyProof.Rows.envOfC "_law_refuses" (defScope s_law_refuses) s.heap.objs.size f (.ref c)) N_law_refuses σ0 C := by
    refine cells_mono (fun i y v hn hs hk => ?_) KC
    match i, hn with
    | 0, hn =>
      obtain rfl : ("_law_pen" : Str) = y := Option.some.inj hn
      have hk' : (defScope s_law_refuses).names.lookup ("_law_pen" : Str) = some .cell ∨ (defScope s_law_refuses).names.lookup ("_law_pen" : Str) = some .free := hk
      exact absurd hk' (by decide +kernel)
    | 1, hn =>
      obtain rfl : ("_law_ends" : Str) = y := Option.some.inj hn
      have hk' : (defScope s_law_refuses).names.lookup ("_law_ends" : Str) = some .cell ∨ (defScope s_law_refuses).names.lookup ("_law_ends" : Str) = some .free := hk
      exact absurd hk' (by decide +kernel)
    | 2, hn =>
      obtain rfl : ("_law_deed" : Str) = y := Option.some.inj hn
      have hk' : (defScope s_law_refuses).names.lookup ("_law_deed" : Str) = some .cell ∨ (defScope s_law_refuses).names.lookup ("_law_deed" : Str) = some .free := hk
      exact absurd hk' (by decide +kernel)
    | 3, hn =>
      rw [eσ] at hs
      rw [List.getElem?_set_ne (by omega), g3]
      exact hs
    | k + 4, hn => exact absurd hn (by simp)
  have out_ : ∀ {b : Addr} {o : HO}, upd H9' tp (.tup [.str "value", odd]) b = some o → C b = none := fun {b o} e => Clo.out_of e hC
  have s9 : Same H9' (upd H9' tp (.tup [.str "value", odd])) := same_new ntp _
  have tp9 : upd H9' tp (.tup [.str "value", odd]) tp = some (.tup [.str "value", odd]) := upd_same
  generalize upd H9' tp (.tup [.str "value", odd]) = G0 at *
  refine ⟨x, .ref tp, rfl, fx, fox, _, ex, nx, by rw [Clo.plus_out (out_ (s9 _ _ px))]; exact s9 _ _ px, Clo.Act.mono (act C KC0) (by decide), fun Q' E' i1 i2 => ⟨by rw [Clo.plus_out (out_ (s9 _ _ px))]; exact s9 _ _ px, by rw [Clo.plus_out (out_ (s9 _ _ qx))]; exact s9 _ _ qx, fun c o e => Clo.plus_in e, ?_⟩⟩
  rw [minus_plus hC]
  have bad9 : NoEnds K G0 odd := NoEnds.x (x9.trans (LamX.ExtN.of s9)) bad8
  have fin : badV T.B odd G0 (fun cls d H' => (∀ c o, C c = some o → H' c = none) → E' cls d (Clo.plus C H')) := fun d' H10 s10 nd' non => by
    refine i2 _ _ _ ⟨T.B, d', "value", "value", odd, rfl, rfl, .inl ⟨rfl, rfl, rfl⟩, ?_, fun pp npp => ?_⟩
    · rw [Clo.plus_out (Clo.out_of upd_same non)]
      exact upd_same
    · have sG : Same G0 (Clo.plus C (upd H10 d' (.xd [("value", odd)]))) := fun b o e => by
        have e1 := s10 _ _ e
        rw [Clo.plus_out (out_ e), upd_ne (ne_of_none e1 nd')]
        exact e1
      have s2 : Same G0 (upd (Clo.plus C (upd H10 d' (.xd [("value", odd)]))) pp (.tup [.str "value", odd])) := Same.trans sG (same_new npp _)
      have tw : Tw K (upd (Clo.plus C (upd H10 d' (.xd [("value", odd)]))) pp (.tup [.str "value", odd])) 65 odd odd := by
        rcases bad9 with ⟨D, h1, h2, h3, h4, h5⟩ | ⟨b, kvs, e, h1, h2, h3⟩
        · exact tw_mono (by omega) (tw_dp D odd odd h3 (dp_same s2 _ _ h1) (dp_same s2 _ _ h1))
        · exact .inr (.inl ⟨b, kvs, e, e, s2 _ _ h1, h2, h3⟩)
      refine ⟨.inr (.inr (.inl ⟨pp, tp, [.str "value", odd], [.str "value", odd], rfl, rfl, SqT.of upd_same, SqT.of (s2 _ _ tp9), (by show 2 ≤ 1000; decide), .cons (.inl ⟨rfl, rfl⟩) (.cons tw .nil)⟩)), fun H11 s11 => ⟨fun c o e => ?_, ?_⟩⟩
      · refine s11 _ _ ?_
        have e1 : Clo.plus C (upd H10 d' (.xd [("value", odd)])) c = some (Clo.Pin c o) := Clo.plus_in e
        rw [upd_ne (ne_of_none e1 npp)]
        exact e1
      · refine ⟨true, rfl, ?_⟩
        refine ⟨fun b o e no => ?_, by rw [List.length_set]; exact gl, by rw [List.getElem?_set_ne (by omega)]; exact g3⟩
        have e1 := s9 _ _ (x9 _ _ e no)
        rw [Clo.minus_out (out_ e1)]
        exact s11 _ _ (s2 _ _ e1)
  refine ⟨odd, by rw [eσ]; rfl, odd, rfl, ?_⟩
  rcases bad9 with ⟨D, h1, h2, h3, h4, h5⟩ | ⟨b, kvs, e, h1, h2⟩
  · exact .inl ⟨D, h1, h2, h3, (fun z => by rw [h5] at z; cases z), fun _ => fin⟩
  · exact .inr ⟨⟨b, kvs, e, h1⟩, fin⟩
end
end My

set_option Elab.async false
set_option linter.all false
set_option maxRecDepth 100000
namespace My
open PySem L2
abbrev s_law_no_form : Stmt := top 53
abbrev N_law_no_form : List Str := ["_law_pen", "_law_form", "_law_odd"]
abbrev P_law_no_form : List Str := ["_law_pen", "_law_form"]
theorem sc_law_no_form : FnScope N_law_no_form P_law_no_form (defScope s_law_no_form) := ⟨rfl, rfl, rfl, by decide +kernel, rfl, by decide +kernel, by decide +kernel⟩
def spNoForm (K : PySem.W.Frag) : Sp := fun vs H Q _ => ∃ (d L : Addr) (ns : List Int) (n : Nat) (v : V) (D : PyData), vs = [.ref d, v] ∧ Pen K H d L ns n ∧ n < 2 ^ 37 + 100 ∧ Dp K H v D ∧ isForm 12 D = true ∧
  ∀ v' D' H', Dp K H' v' D' → shortD D' = true → widD D' = true → D'.depth ≤ 20 → isForm 12 D' = false → Keep d H H' → Q v' H'
theorem deep_not {D : PyData} (h : Deep 13 D) : isForm 12 D = false := h.2 12 (by decide)
section
variable {P : Program} {w : World} {K : PySem.W.Frag} {mg : Str → Option Value} {base : Heap} {f : Addr} {fd : FuncData}
theorem ok_law_no_form (T : Txt7 K mg) (F : Fun K "_law_no_form" "_law_no_form" s_law_no_form f fd) (C_law_pick : Cal P w K mg base "_law_pick" 2 P_law_pick (spPick K)) (C_law_bent : Cal P w K mg base "_law_bent" 16 P_law_bent (spBent K 13)) (C_law_is_form : Cal P w K mg base "_law_is_form" 15 P_law_is_form (spFormL K 13))
    (C_law_deeper : Cal P w K mg base "_law_deeper" 14 P_law_deeper (spDeeper K)) : FnOk P w K mg base CX0 17 f fd P_law_no_form (spNoForm K) := by
  refine F.ok sc_law_no_form (fun vs H Q E h => ?_) (fun cdv A outer s H vs Q E hr h => ?_)
  · obtain ⟨d, L, ns, n, v, D, rfl, _⟩ := h
    rfl
  obtain ⟨d, L, ns, n, v, D, rfl, hp, hn, hv, hD, q⟩ := h
  refine ⟨_, (pss_cons (ps_set (i := 2) sc_law_no_form.nd rfl (Or.inl rfl) (pe_callC C_law_bent hr (pa_cons (pv 0) (pa_cons (pv 1) pa_nil))))
  (pss_cons (ps_if (pt_val (pe_callC C_law_is_form hr (pa_cons (pv 2) (pa_cons pe_int pa_nil))))
    (pss_one (ps_set (i := 2) sc_law_no_form.nd rfl (Or.inl rfl) (pe_callC C_law_pick hr (pa_cons (pv 0) (pa_cons (pe_lstN (pa_cons pe_non (pa_cons (pe_callTy call_listN rfl T.list (by decide +kernel) (pa_cons (pv 1) pa_nil)) (pa_cons (pe_tupN (pa_cons pe_str (pa_cons pe_str pa_nil))) (pa_cons (pe_callC C_law_deeper hr (pa_cons (pv 1) (pa_cons pe_int pa_nil))) pa_nil))))) pa_nil)))))
    pss_nil)
  (pss_one (ps_ret (pv 2))))), ?_⟩
  refine ⟨_, rfl, _, rfl, d, L, ns, n, v, D, 12, rfl, by omega, by omega, hp, by omega, hv, hD, fun v1 D1 H1 h1 s1 w1 dp1 k1 p1 => ?_⟩
  refine ⟨_, rfl, v1, 12, D1, rfl, by omega, h1, s1, by omega, fun H2 s2 => ⟨_, rfl, ?_⟩⟩
  have hd1 := p1.isDk
  have k2 := k1.trans (Same.toKeep s2)
  cases c : isForm 12 D1 with
  | false => exact ⟨_, rfl, q v1 D1 H2 (dp_same s2 _ _ h1) s1 w1 (by omega) c k2⟩
  | true =>
    obtain ⟨a, xs, ds, rfl, hT, hA, rfl⟩ : ∃ a xs ds, v = .ref a ∧ SqT K H a xs ∧ DpAll K H xs ds ∧ D = .tuple ds := by
      rcases isForm_inv hD with ⟨y, m, rfl, hy, hm⟩ | ⟨j, y, b, e, _, rfl, hy, hc, hd⟩
      · cases hv with | tup g1 g2 => exact ⟨_, _, _, rfl, g1, g2, rfl⟩
      · cases hv with | tup g1 g2 => exact ⟨_, _, _, rfl, g1, g2, rfl⟩
    have kd := hp.isDk
    refine ⟨_, rfl, _, rfl, a, xs, rfl, .inr (seqT_keep kd k2 hT), fun l1 H3 s3 e3 => ?_⟩
    refine ⟨le1k, fun t1 H4 s4 e4 => ?_⟩
    have s24 := Same.trans s3 s4
    have k4 := k2.trans (Same.toKeep s24)
    refine ⟨_, rfl, .ref a, .tuple ds, 13, rfl, by decide, by decide, dp_keep kd k4 _ _ (.tup hT hA), hD, fun v5 D5 H5 h5 d5 s5 => ⟨le1k, fun l6 H6 s6 e6 => ?_⟩⟩
    have s26 := Same.trans s24 (Same.trans s5 s6)
    have p6 := p1.same (Same.trans s2 s26)
    refine ⟨d, L, ns, _, .ref l6, rfl, p6, by omega, .inl ⟨l6, _, rfl, SqL.of e6, by simp, le1k, fun x H7 hx k7 p7 => ⟨_, rfl, ?_⟩⟩⟩
    have kd6 := p6.isDk
    have k07 := (k2.trans (Same.toKeep s26)).trans k7
    have dsl : ds.length ≤ 3 := by
      rcases isForm_inv hD with ⟨y, m, e, _⟩ | ⟨j, y, b, e, _, e2, _⟩
      · cases e
        show 2 ≤ 3
        decide
      · cases e2
        show 3 ≤ 3
        decide
    simp only [List.mem_cons, List.not_mem_nil, or_false] at hx
    rcases hx with rfl | rfl | rfl | rfl
    · exact q .non .none H7 .non rfl rfl (by simp [PyData.depth]) rfl k07
    · refine q (.ref l1) (.list ds) H7 (.lst (seqL_keep kd6 k7 ((Same.trans s4 (Same.trans s5 s6)).seq (SqL.of e3))) (dpAll_keep kd k07 _ _ hA)) (show shortD (.tuple ds) = true from short_form hD) (show widD (.tuple ds) = true from wid_form hD) ?_ (isForm_not_tup 12 _ rfl) k07
      have := depth_form hD
      simp only [PyData.depth] at this ⊢
      omega
    · exact q (.ref t1) (.tuple [.str "good", .str "A"]) H7 (.tup (seqT_keep kd6 k7 (seqT_same (Same.trans s5 s6) e4)) (.cons (.str _) (.cons (.str _) .nil))) (by decide +kernel) rfl (by simp [PyData.depth, PyData.depthAll]) (by decide +kernel) k07
    · rcases d5 with d5 | ⟨z, _⟩
      · have dd := depth_form d5.1
        exact q x D5 H7 (dp_keep kd6 k7 _ _ (dp_same s6 _ _ h5)) (short_form d5.1) (wid_form d5.1) (by omega) (deep_not d5) k07
      · exact absurd z (by decide)
end
end My

set_option Elab.async false
set_option linter.all false
set_option maxRecDepth 100000
namespace My
open PySem L2
abbrev s_law_leaf_many : Stmt := top 39
abbrev N_law_leaf_many : List Str := ["_law_ends", "_law_form"]
abbrev P_law_leaf_many : List Str := ["_law_ends"]
theorem sc_law_leaf_many : FnScope N_law_leaf_many P_law_leaf_many (defScope s_law_leaf_many) := ⟨rfl, rfl, rfl, by decide +kernel, rfl, by decide +kernel, by decide +kernel⟩
def spLeafMany (K : PySem.W.Frag) : Sp := fun vs H Q _ => ∃ (a : Addr) (xs : List V) (ds : List PyData), vs = [.ref a] ∧ SqL K H a xs ∧ DpAll K H xs ds ∧ ds.all (isForm 12) = true ∧ ds.length ≤ 1000 ∧ (ds.flatMap lvs).length ≤ 1000 ∧ ∀ H', Same H H' → Q (.int ((ds.flatMap lvs).length : Nat)) H'
theorem sum_lvs : ∀ ds : List PyData, (ds.map fun d => ((lvs d).length : Int)).sum = (((ds.flatMap lvs).length : Nat) : Int)
  | [] => rfl
  | d :: ds => by
    rw [List.map_cons, List.sum_cons, sum_lvs ds, List.flatMap_cons, List.length_append]
    omega
section
variable {P : Program} {w : World} {K : PySem.W.Frag} {mg : Str → Option Value} {base : Heap} {f : Addr} {fd : FuncData}
theorem ok_law_leaf_many (T : Txt7 K mg) (hsum : mg "sum" = none) (F : Fun K "_law_leaf_many" "_law_leaf_many" s_law_leaf_many f fd) (C_law_leaves : Cal P w K mg base "_law_leaves" 13 P_law_leaves (spLvs K 13)) : FnOk P w K mg base CX0 14 f fd P_law_leaf_many (spLeafMany K) := by
  refine F.ok sc_law_leaf_many (fun vs H Q E h => ?_) (fun cdv A outer s H vs Q E hr h => ?_)
  · obtain ⟨a, xs, ds, rfl, _⟩ := h
    rfl
  obtain ⟨a, xs, ds, rfl, hS, hA, hF, hN, hL, q⟩ := h
  refine ⟨_, (pss_one (ps_ret (pe_callB (cr_sum rfl) rfl hsum (by decide +kernel) (pa_cons (pe_lc (own := [("_law_form", 1)]) (g := (gName 1)) (te := tCB (fun xs H Q => ∃ x n, xs = [x] ∧ LenV K x H n ∧ Q (.int n) H) (tCons (tCall (spLvs K 13) [] E0 (tCons (tVar 1) tNil)) tNil)) rfl sc_law_leaf_many.nd (pi_list (pv 0)) (blkOk_by (own := [("_law_form", 1)]) (N := N_law_leaf_many) (sc := defScope s_law_leaf_many) (by decide +kernel)) (fun _ _ _ _ _ => (pg_name (i := 1) sc_law_leaf_many.nd rfl (Or.inl rfl))) (fun _ _ _ _ _ => pts_nil) (fun _ _ _ _ _ => (pe_callB call_len rfl T.len (by decide +kernel) (pa_cons (pe_callC C_law_leaves hr (pa_cons (pv 1) pa_nil)) pa_nil)))) pa_nil)))), ?_⟩
  have hl := dpAll_len hA
  refine ⟨_, rfl, a, rfl, ⟨xs, hS⟩, fun D nD => ?_⟩
  refine lc_it (walk_list (xs := xs)) (fun i H' => Same H H' ∧ H' D = some (.lst (((ds.take i).map fun d => ((lvs d).length : Int)).map V.int))) ⟨same_new nD _, upd_same⟩ (fun i H' _ p => p.1.seq hS) (fun i y H3 H4 hi p yy => ?_) (fun H3 p => ?_)
  · obtain ⟨rfl, hy⟩ := yy
    obtain ⟨s3, eD⟩ := p
    obtain ⟨d, hd, hyd⟩ := dpAll_at hA hy
    have fd : isForm 12 d = true := List.all_eq_true.mp hF d (List.mem_of_getElem? hd)
    have ln := flat_len lvs ds (i + 1)
    rw [flat_snoc lvs hd, List.length_append] at ln
    refine ⟨rfl, y, rfl, y, 12, d, rfl, by omega, dp_same s3 _ _ hyd, fd, by omega, fun H5 p5 us s5 e5 d5 => ⟨_, _, rfl, .inl ⟨us, SqL.of e5, rfl⟩, _, s5 _ _ eD, small1000 ?_, same_at (Same.trans s3 s5) nD, ?_⟩⟩
    · rw [List.length_map, List.length_map, List.length_take]
      omega
    · rw [upd_same, take_next hd, List.map_append, List.map_append, dpAll_len d5]
      rfl
  · obtain ⟨s3, eD⟩ := p
    rw [List.take_of_length_le (by omega)] at eD
    refine ⟨D, _, rfl, SqL.of eD, ?_⟩
    rw [sum_lvs]
    exact q H3 s3
end
end My

set_option Elab.async false
set_option linter.all false
set_option maxRecDepth 100000
namespace My
open PySem L2
theorem shortAll_of : ∀ {ds : List PyData}, (∀ d ∈ ds, shortD d = true) → shortAll ds = true
  | [], _ => rfl
  | d :: ds, h => by
    show (shortD d && shortAll ds) = true
    rw [h d List.mem_cons_self, shortAll_of fun x hx => h x (List.mem_cons_of_mem _ hx)]
    rfl
theorem widAll_of : ∀ {ds : List PyData}, (∀ d ∈ ds, widD d = true) → widAll ds = true
  | [], _ => rfl
  | d :: ds, h => by
    show (widD d && widAll ds) = true
    rw [h d List.mem_cons_self, widAll_of fun x hx => h x (List.mem_cons_of_mem _ hx)]
    rfl
theorem depthAll_of {n : Nat} : ∀ {ds : List PyData}, (∀ d ∈ ds, d.depth ≤ n) → PyData.depthAll ds ≤ n
  | [], _ => by simp [PyData.depthAll]
  | d :: ds, h => by
    have a := h d List.mem_cons_self
    have b := depthAll_of (n := n) (ds := ds) fun x hx => h x (List.mem_cons_of_mem _ hx)
    simp only [PyData.depthAll]
    omega
theorem dpAll_drop {K : PySem.W.Frag} {H : Hp} : ∀ {xs : List V} {ds : List PyData} (n : Nat), DpAll K H xs ds → DpAll K H (xs.drop n) (ds.drop n)
  | _, _, 0, h => h
  | _, _, _ + 1, .nil => .nil
  | _, _, n + 1, .cons _ h => dpAll_drop n h
theorem dpAll_take {K : PySem.W.Frag} {H : Hp} : ∀ {xs : List V} {ds : List PyData} (n : Nat), DpAll K H xs ds → DpAll K H (xs.take n) (ds.take n)
  | _, _, 0, _ => .nil
  | _, _, _ + 1, .nil => .nil
  | _, _, n + 1, .cons a h => .cons a (dpAll_take n h)
/-- a slice's data are among the list's -/
theorem dpAll_cut {K : PySem.W.Frag} {H : Hp} {xs : List V} {ds : List PyData} (lo hi : Option Int) (h : DpAll K H xs ds) : ∃ es, DpAll K H (cutV xs lo hi) es ∧ ∀ d ∈ es, d ∈ ds :=
  ⟨_, dpAll_take _ (dpAll_drop _ h), fun d hd => List.mem_of_mem_drop (List.mem_of_mem_take hd)⟩
theorem dpAll_mem {K : PySem.W.Frag} {H : Hp} : ∀ {xs : List V} {ds : List PyData} {x : V}, DpAll K H xs ds → x ∈ xs → ∃ d ∈ ds, Dp K H x d
  | _, _, x, .nil, hx => by simp at hx
  | _, _, x, .cons a h, hx => by
    rcases List.mem_cons.mp hx with rfl | hx
    · exact ⟨_, List.mem_cons_self, a⟩
    · obtain ⟨d, h1, h2⟩ := dpAll_mem h hx
      exact ⟨d, List.mem_cons_of_mem _ h1, h2⟩
/-- lists that are no ends, as data -/
theorem noEnds_list {K : PySem.W.Frag} {H : Hp} {a : Addr} {xs : List V} {ds : List PyData} (ha : SqL K H a xs) (hd : DpAll K H xs ds) (hs : ∀ d ∈ ds, shortD d = true ∧ widD d = true ∧ d.depth ≤ 30) (hl : ds.length ≤ 1000) (no : isEnds (.list ds) = false) : NoEnds K H (.ref a) := by
  refine .inl ⟨.list ds, .lst ha hd, shortAll_of fun d h => (hs d h).1, ?_, ?_, no⟩
  · show (decide (ds.length ≤ 1000) && widAll ds) = true
    rw [decide_eq_true hl, widAll_of fun d h => (hs d h).2.1]
    rfl
  · have := depthAll_of (n := 30) fun d h => (hs d h).2.2
    simp only [PyData.depth]
    omega
theorem form_ok {k : Nat} {D : PyData} (h : isForm k D = true) (hk : k ≤ 20) : shortD D = true ∧ widD D = true ∧ D.depth ≤ 30 := ⟨short_form h, wid_form h, by have := depth_form h; omega⟩
theorem rep_flat (v : V) : ∀ m : Nat, (List.replicate m [v]).flatten = List.replicate m v
  | 0 => rfl
  | m + 1 => by
    rw [List.replicate_succ, List.flatten_cons, rep_flat v m, List.replicate_succ]
    rfl
theorem dpAll_rep {K : PySem.W.Frag} {H : Hp} {v : V} {D : PyData} (h : Dp K H v D) : ∀ m : Nat, DpAll K H (List.replicate m v) (List.replicate m D)
  | 0 => .nil
  | m + 1 => .cons h (dpAll_rep h m)
theorem rep_lvs (a b : PyData) : ∀ m : Nat, ((List.replicate m (PyData.tuple [a, b])).flatMap lvs).length = m
  | 0 => rfl
  | m + 1 => by
    rw [List.replicate_succ, List.flatMap_cons, List.length_append, rep_lvs a b m, lvs2]
    simp
    omega
theorem noEnds_form {K : PySem.W.Frag} {H : Hp} {v : V} {D : PyData} (h : Dp K H v D) (hD : isForm 12 D = true) : NoEnds K H v := by
  have no : isEnds D = false := by
    rcases isForm_inv hD with ⟨y, m, rfl, hy, hm⟩ | ⟨j, y, b, e, _, rfl, hy, hc, hd⟩
    · exact isEnds_bad (ds := [.str y, .str m]) (.inr rfl) (.inr (.inl ⟨.str y, by simp, rfl⟩))
    · exact isEnds_bad (ds := [.str y, b, e]) (.inr rfl) (.inr (.inl ⟨.str y, by simp, rfl⟩))
  have f := form_ok hD (by decide)
  exact .inl ⟨D, h, f.1, f.2.1, by omega, no⟩
abbrev s_law_no_ends : Stmt := top 54
abbrev N_law_no_ends : List Str := ["_law_pen", "_law_ends", "_law_way", "_law_at"]
abbrev P_law_no_ends : List Str := ["_law_pen", "_law_ends"]
theorem sc_law_no_ends : FnScope N_law_no_ends P_law_no_ends (defScope s_law_no_ends) := ⟨rfl, rfl, rfl, by decide +kernel, rfl, by decide +kernel, by decide +kernel⟩
section
variable {P : Program} {w : World} {K : PySem.W.Frag} {mg : Str → Option Value} {base : Heap} {f : Addr} {fd : FuncData}
theorem ok_law_no_ends (T : Txt7 K mg) (F : Fun K "_law_no_ends" "_law_no_ends" s_law_no_ends f fd) (C_law_draw : Cal P w K mg base "_law_draw" 1 P_law_draw (spDraw K)) (C_law_no_form : Cal P w K mg base "_law_no_form" 17 P_law_no_form (spNoForm K)) (C_law_leaf_many : Cal P w K mg base "_law_leaf_many" 14 P_law_leaf_many (spLeafMany K)) : FnOk P w K mg base CX0 18 f fd P_law_no_ends (spNoEnds K) := by
  refine F.ok sc_law_no_ends (fun vs H Q E h => ?_) (fun cdv A outer s H vs Q E hr h => ?_)
  · obtain ⟨d, L, a, ns, n, xs, ds, rfl, _⟩ := h
    rfl
  obtain ⟨d, L, a, ns, n, xs, ds, rfl, hp, hn, ha, hA, hE, q⟩ := h
  refine ⟨_, (pss_cons (ps_par (i := 2) (j := 3) (by rfl) sc_law_no_ends.nd rfl rfl (by decide) rfl rfl (pa_cons (pe_callC C_law_draw hr (pa_cons (pv 0) (pa_cons pe_int pa_nil))) (pa_cons (pe_callC C_law_draw hr (pa_cons (pv 0) (pa_cons (pe_callB call_len rfl T.len (by decide +kernel) (pa_cons (pv 1) pa_nil)) pa_nil))) pa_nil)) (by rfl))
  (pss_cons (ps_if (pt_cmpR op_lt (pv 2) pe_int (nomark _))
    (pss_one (ps_ret (pe_op op_catLN (pe_op op_catLN (pe_slice sl_list (pv 1) po_none (po_some (pv 3))) (pe_lstN (pa_cons (pe_callC C_law_no_form hr (pa_cons (pv 0) (pa_cons (pe_ix ix_list (pv 1) (pv 3) (fun _ _ => rfl)) pa_nil))) pa_nil))) (pe_slice sl_list (pv 1) (po_some (pe_op op_add (pv 3) pe_int)) po_none))))
    pss_nil)
  (pss_cons (ps_if (pt_cmpR op_eq (pv 2) pe_int (nomark _))
    (pss_one (ps_ret (pe_op op_catLN (pv 1) (pe_op op_rep (pe_lstN (pa_cons (pe_tupN (pa_cons pe_str (pa_cons pe_str pa_nil))) pa_nil)) (pe_op op_sub pe_int (pe_callC C_law_leaf_many hr (pa_cons (pv 1) pa_nil)))))))
    pss_nil)
  (pss_one (ps_ret (pe_ix ix_list (pe_lstN (pa_cons (pe_lstN pa_nil) (pa_cons (pe_tupN pa_nil) (pa_cons pe_non (pa_cons pe_str (pa_cons pe_int (pa_cons (pe_disp (pps_cons pe_str pe_int pps_nil) (by rfl) (by rfl) (fun z => by cases z) (by decide)) (pa_cons (pe_ix ix_list (pv 1) pe_int (fun _ _ => rfl)) pa_nil)))))))) (pe_callC C_law_draw hr (pa_cons (pv 0) (pa_cons pe_int pa_nil))) (fun _ _ => rfl))))))), ?_⟩
  obtain ⟨es, eD, hN, hF, hL, h1⟩ := isEnds_inv hE
  obtain rfl : ds = es := by
    rcases eD with eD | eD
    · injection eD
    · cases eD
  have hl := dpAll_len hA
  have kd := hp.isDk
  have nad : a ≠ d := by
    obtain ⟨kvs, hd⟩ := kd
    intro z
    rw [z, hd] at ha
    cases ha
  have fits : ∀ D ∈ ds, shortD D = true ∧ widD D = true ∧ D.depth ≤ 30 := fun D hD => form_ok (List.all_eq_true.mp hF D hD) (by decide)
  refine ⟨_, rfl, d, L, ns, n, 5, rfl, hp, by omega, by decide, by decide, fun way H1 w0 w1 k1 p1 => ?_⟩
  refine ⟨_, rfl, _, rfl, _, _, rfl, .inl ⟨xs, SqL.of (k1 _ _ nad ha), rfl⟩, d, L, ns, n + 1, _, rfl, p1, by omega, by omega, by omega, fun at_ H2 a0 a1 k2 p2 => ⟨_, _, rfl, ?_⟩⟩
  have k12 := k1.trans k2
  have ha2 := k12 _ _ nad ha
  refine ⟨_, rfl, _, _, rfl, rfl, _, rfl, ?_⟩
  refine ite2 (fun c1 => ?_) (fun c1 => ?_)
  · refine ⟨_, rfl, _, rfl, _, rfl, a, xs, rfl, SqL.of ha2, fun b1 nb1 => ?_⟩
    have s3 := same_new nb1 (.lst (cutV xs none (some at_)))
    have eb1 : upd H2 b1 (.lst (cutV xs none (some at_))) b1 = some (.lst (cutV xs none (some at_))) := upd_same
    generalize upd H2 b1 (.lst (cutV xs none (some at_))) = H3 at *
    have p3 := p2.same s3
    have k3 := k12.trans (Same.toKeep s3)
    obtain ⟨x, hx, hm⟩ := atI_int (xs := xs) a0 (by simpa using a1)
    obtain ⟨D, hDm, hDx⟩ := dpAll_mem hA hm
    refine ⟨_, rfl, _, rfl, _, rfl, a, xs, at_, x, rfl, rfl, SqL.of (s3 _ _ ha2), hx, d, L, ns, _, x, D, rfl, p3, by omega, dp_keep kd k3 _ _ hDx, List.all_eq_true.mp hF D hDm, fun v' D' H4 hd' sh' wd' dp' nf' k4 => ⟨le1k, fun l2 H5 s5 e5 => ?_⟩⟩
    have nb1d : b1 ≠ d := fun z => by
      obtain ⟨kvs, hd⟩ := p3.isDk
      rw [z, hd] at eb1
      cases eb1
    have k5 := (k3.trans k4).trans (Same.toKeep s5)
    have c1l := cutV_length xs none (some at_)
    refine ⟨b1, l2, _, _, rfl, rfl, s5 _ _ (k4 _ _ nb1d eb1), e5, by simp only [List.length_cons, List.length_nil]; omega, fun l3 H6 s6 e6 => ?_⟩
    have k6 := k5.trans (Same.toKeep s6)
    refine ⟨_, rfl, _, rfl, _, _, rfl, rfl, _, rfl, a, xs, rfl, SqL.of (k6 _ _ nad ha), fun b2 nb2 => ?_⟩
    have s7 := same_new nb2 (.lst (cutV xs (some (at_ + 1)) none))
    have c2l := cutV_length xs (some (at_ + 1)) none
    refine ⟨l3, b2, _, _, rfl, rfl, s7 _ _ e6, upd_same, by simp only [List.length_append, List.length_cons, List.length_nil]; omega, fun l4 H8 s8 e8 => ?_⟩
    have s68 := Same.trans s7 s8
    have k8 := k6.trans (Same.toKeep s68)
    have hA8 := dpAll_keep kd k8 _ _ hA
    obtain ⟨es1, ds1, m1⟩ := dpAll_cut none (some at_) hA8
    obtain ⟨es2, ds2, m2⟩ := dpAll_cut (some (at_ + 1)) none hA8
    have lE1 := dpAll_len ds1
    have lE2 := dpAll_len ds2
    refine q (.ref l4) H8 k8 (noEnds_list (ds := (es1 ++ [D']) ++ es2) (SqL.of e8) (dpAll_app (dpAll_app ds1 (.cons (dp_same (Same.trans s5 (Same.trans s6 s68)) _ _ hd') .nil)) ds2) (fun y hy => ?_) ?_ (isEnds_bad (ds := (es1 ++ [D']) ++ es2) (.inl rfl) (.inr (.inl ⟨D', by simp, nf'⟩))))
    · simp only [List.mem_append, List.mem_cons, List.not_mem_nil, or_false] at hy
      rcases hy with (hy | rfl) | hy
      · exact fits y (m1 y hy)
      · exact ⟨sh', wd', by omega⟩
      · exact fits y (m2 y hy)
    · simp only [List.length_append, List.length_cons, List.length_nil]
      omega
  · refine ⟨_, rfl, rfl, _, rfl, ?_⟩
    by_cases c2 : way = 2
    · rw [decide_eq_true (show V.int way = V.int 2 by rw [c2])]
      refine iteT ⟨_, rfl, le1k, fun t3 H3 s3 e3 => ⟨le1k, fun l3 H4 s4 e4 => ?_⟩⟩
      have s34 := Same.trans s3 s4
      have k4 := k12.trans (Same.toKeep s34)
      refine ⟨_, rfl, a, xs, ds, rfl, SqL.of (k4 _ _ nad ha), dpAll_keep kd k4 _ _ hA, hF, by omega, by omega, fun H5 s5 => ⟨_, _, rfl, rfl, ?_⟩⟩
      have k5 := k4.trans (Same.toKeep s5)
      have em : ((41 : Int) - ((ds.flatMap lvs).length : Nat)).toNat = 41 - (ds.flatMap lvs).length := by omega
      refine ⟨l3, _, _, rfl, rfl, s5 _ _ e4, by omega, by omega, ?_, fun p6 np6 => ?_⟩
      · rw [em]
        refine fit1000 ?_
        simp only [List.length_cons, List.length_nil]
        omega
      rw [em, rep_flat]
      have s6 := same_new np6 (.lst (List.replicate (41 - (ds.flatMap lvs).length) (V.ref t3)))
      refine ⟨a, p6, xs, _, rfl, rfl, s6 _ _ (k5 _ _ nad ha), upd_same, by rw [List.length_replicate]; omega, fun l7 H7 s7 e7 => ?_⟩
      have s67 := Same.trans s6 s7
      have k7 := k5.trans (Same.toKeep s67)
      have dg : Dp K H7 (.ref t3) (.tuple [.str "good", .str "a"]) := .tup (seqT_same (Same.trans s4 (Same.trans s5 s67)) e3) (.cons (.str _) (.cons (.str _) .nil))
      refine q (.ref l7) H7 k7 (noEnds_list (ds := ds ++ List.replicate (41 - (ds.flatMap lvs).length) (.tuple [.str "good", .str "a"])) (SqL.of e7) (dpAll_app (dpAll_keep kd k7 _ _ hA) (dpAll_rep dg _)) (fun y hy => ?_) ?_ (isEnds_bad (ds := ds ++ List.replicate (41 - (ds.flatMap lvs).length) (.tuple [.str "good", .str "a"])) (.inl rfl) (.inr (.inr ⟨(ds ++ List.replicate (41 - (ds.flatMap lvs).length) (PyData.tuple [.str "good", .str "a"])).length, ?_⟩))))
      · rcases List.mem_append.mp hy with hy | hy
        · exact fits y hy
        · rw [List.eq_of_mem_replicate hy]
          exact ⟨by decide +kernel, rfl, by simp [PyData.depth, PyData.depthAll]⟩
      · rw [List.length_append, List.length_replicate]
        omega
      · rw [List.take_length, List.flatMap_append, List.length_append, rep_lvs]
        omega
    · rw [decide_eq_false (show ¬ V.int way = V.int 2 from fun z => c2 (by injection z))]
      refine iteF ⟨Nat.zero_le _, fun b3 H3 s3 e3 => ⟨Nat.zero_le _, fun b4 H4 s4 e4 => ?_⟩⟩
      intro p5 np5
      refine ⟨upd_same, [(.inr "a", .int 1)], rfl, by decide, ?_⟩
      have s5 : Same H4 (upd (upd H4 p5 (.dK [])) p5 (.dK (mergeK [] [(.inr "a", .int 1)]))) := fun b o e => by
        rw [upd_ne (ne_of_none e np5), upd_ne (ne_of_none e np5)]
        exact e
      have e5 : upd (upd H4 p5 (.dK [])) p5 (.dK (mergeK [] [(.inr "a", .int 1)])) p5 = some (.dK [(.inr "a", .int 1)]) := upd_same
      generalize upd (upd H4 p5 (.dK [])) p5 (.dK (mergeK [] [(.inr "a", .int 1)])) = H5 at *
      have s35 := Same.trans s3 (Same.trans s4 s5)
      have k5 := k12.trans (Same.toKeep s35)
      have p5' := p2.same s35
      obtain ⟨x, hx, hm⟩ := atI_int (xs := xs) (r := 0) (by decide) (by omega)
      obtain ⟨D, hDm, hDx⟩ := dpAll_mem hA hm
      refine ⟨_, rfl, a, xs, 0, x, rfl, rfl, SqL.of (k5 _ _ nad ha), hx, le1k, fun l6 H6 s6 e6 => ?_⟩
      refine ⟨_, rfl, d, L, ns, _, 7, rfl, p5'.same s6, by omega, by decide, by decide, fun r H7 r0 r1 k7 p7 => ?_⟩
      have kd6 := (p5'.same s6).isDk
      have k67 := k5.trans ((Same.toKeep s6).trans k7)
      have nl6 : l6 ≠ d := fun z => by
        obtain ⟨kvs, hd⟩ := kd6
        rw [z, hd] at e6
        cases e6
      obtain ⟨y, hy, hym⟩ := atI_int (xs := [V.ref b3, .ref b4, .non, .str "a", .int 7, .ref p5, x]) r0 (by show r < 7; exact r1)
      refine ⟨l6, _, r, y, rfl, rfl, SqL.of (k7 _ _ nl6 e6), hy, q y H7 k67 ?_⟩
      simp only [List.mem_cons, List.not_mem_nil, or_false] at hym
      have s36 := Same.trans s4 (Same.trans s5 s6)
      rcases hym with rfl | rfl | rfl | rfl | rfl | rfl | rfl
      · exact noEnds_list (ds := []) (seqL_keep kd6 k7 (s36.seq (SqL.of e3))) .nil (fun y hy => by simp at hy) (by decide) rfl
      · exact .inl ⟨.tuple [], .tup (seqT_keep kd6 k7 (seqT_same (Same.trans s5 s6) e4)) .nil, rfl, rfl, by simp [PyData.depth, PyData.depthAll], rfl⟩
      · exact .inl ⟨.none, .non, rfl, rfl, by simp [PyData.depth], rfl⟩
      · exact .inl ⟨.str "a", .str _, by decide +kernel, rfl, by simp [PyData.depth], rfl⟩
      · exact .inl ⟨.int 7, .int _, rfl, rfl, by simp [PyData.depth], rfl⟩
      · refine .inr ⟨p5, [(.inr "a", .int 1)], rfl, k7 _ _ (fun z => ?_) (s6 _ _ e5), by simp, fun p hp => by
          simp only [List.mem_singleton] at hp
          rw [hp]
          rfl⟩
        obtain ⟨kvs, hd⟩ := (p2.same (Same.trans s3 s4)).isDk
        rw [z, hd] at np5
        cases np5
      · exact noEnds_form (dp_keep kd k67 _ _ hDx) (List.all_eq_true.mp hF D hDm)
end
end My

set_option Elab.async false
set_option linter.all false
set_option maxRecDepth 100000
namespace My
open PySem L2
abbrev s_law_unforked : Stmt := top 46
abbrev N_law_unforked : List Str := ["_law_form", "_law_branches", "_law_word", "_law_one", "_law_other"]
abbrev P_law_unforked : List Str := ["_law_form", "_law_branches"]
theorem sc_law_unforked : FnScope N_law_unforked P_law_unforked (defScope s_law_unforked) := ⟨rfl, rfl, rfl, by decide +kernel, rfl, by decide +kernel, by decide +kernel⟩
def spUnforked (K : PySem.W.Frag) (n : Nat) : Sp := fun vs H Q _ => ∃ (v : V) (D : PyData) (k : Nat) (m : Int), vs = [v, .int m] ∧ k < n ∧ Dp K H v D ∧ isForm k D = true ∧ 0 ≤ m ∧ m ≤ 100 ∧
  ∀ (H' : Hp) (p : Addr) (u : V) (D' : PyData) (m' : Int), Same H H' → SqT K H' p [u, .int m'] → Dp K H' u D' → isForm k D' = true → (lvs D').length = (lvs D).length → 0 ≤ m' → m' ≤ 100 → Q (.ref p) H'
theorem fork_half : ∀ w ∈ forkW, w ∈ halfW := by decide +kernel
section
variable {P : Program} {w : World} {K : PySem.W.Frag} {mg : Str → Option Value} {base : Heap} {f : Addr} {fd : FuncData}
theorem ok_law_unforked {n : Nat} (T : Txt7 K mg) (F : Fun K "_law_unforked" "_law_unforked" s_law_unforked f fd) (C_law_unforked : Cal P w K mg base "_law_unforked" n P_law_unforked (spUnforked K n)) : FnOk P w K mg base CX0 (n + 1) f fd P_law_unforked (spUnforked K (n + 1)) := by
  refine F.ok sc_law_unforked (fun vs H Q E h => ?_) (fun cdv A outer s H vs Q E hr h => ?_)
  · obtain ⟨v, D, k, m, rfl, _⟩ := h
    rfl
  obtain ⟨v, D, k, m, rfl, hk, hv, hD, m0, m1, q⟩ := h
  refine ⟨_, (pss_cons (ps_if (pt_cmpR op_eq (pe_callB call_len rfl T.len (by decide +kernel) (pa_cons (pv 0) pa_nil)) pe_int (nomark _))
    (pss_one (ps_ret (pe_tupN (pa_cons (pv 0) (pa_cons (pv 1) pa_nil)))))
    pss_nil)
  (pss_cons (ps_set (i := 2) sc_law_unforked.nd rfl (Or.inl rfl) (pe_ix ix_tup (pv 0) pe_int (fun _ _ => rfl)))
  (pss_cons (ps_if (pt_cmpR op_in_seq (pv 2) (pe_lstN (pa_cons pe_str (pa_cons pe_str pa_nil))) rfl)
    (pss_cons (ps_set (i := 2) sc_law_unforked.nd rfl (Or.inl rfl) (pe_ifExp (pt_cmpR op_gt (pv 1) pe_int (nomark _)) (pv 2) (pe_dget (hu_of hr) (pe_disp (pps_cons pe_str pe_str (pps_cons pe_str pe_str pps_nil)) (by rfl) (by rfl) (fun z => by cases z) (by decide)) (pv 2) (fun _ _ => rfl))))
    (pss_one (ps_set (i := 1) sc_law_unforked.nd rfl (Or.inl rfl) (pe_callB (call_max2 rfl) rfl T.max (by decide +kernel) (pa_cons pe_int (pa_cons (pe_op op_sub (pv 1) pe_int) pa_nil))))))
    pss_nil)
  (pss_cons (ps_asg (pe_callC C_law_unforked hr (pa_cons (pe_ix ix_tup (pv 0) pe_int (fun _ _ => rfl)) (pa_cons (pv 1) pa_nil))) (pg_tup rfl (pgs_cons (pg_name (i := 3) sc_law_unforked.nd rfl (Or.inl rfl)) (pgs_cons (pg_name (i := 1) sc_law_unforked.nd rfl (Or.inl rfl)) pgs_nil))))
  (pss_cons (ps_asg (pe_callC C_law_unforked hr (pa_cons (pe_ix ix_tup (pv 0) pe_int (fun _ _ => rfl)) (pa_cons (pv 1) pa_nil))) (pg_tup rfl (pgs_cons (pg_name (i := 4) sc_law_unforked.nd rfl (Or.inl rfl)) (pgs_cons (pg_name (i := 1) sc_law_unforked.nd rfl (Or.inl rfl)) pgs_nil))))
  (pss_one (ps_ret (pe_tupN (pa_cons (pe_tupN (pa_cons (pv 2) (pa_cons (pv 3) (pa_cons (pv 4) pa_nil)))) (pa_cons (pv 1) pa_nil)))))))))), ?_⟩
  rcases isForm_inv hD with ⟨x, mm, rfl, hx, hn⟩ | ⟨j, x, a, b, rfl, rfl, hx, ha, hb⟩
  · cases hv with | @tup p xs _ hT hA => cases hA with | cons h1 hA => cases hA with | cons h2 hN =>
    cases hN
    refine ⟨_, rfl, _, _, rfl, .inr ⟨_, hT, rfl⟩, rfl, true, rfl, ?_⟩
    exact ⟨_, rfl, _, rfl, le1k, fun t H1 s1 e1 => q H1 t _ _ m s1 e1 (dp_same s1 _ _ (.tup hT (.cons h1 (.cons h2 .nil)))) hD rfl m0 m1⟩
  · cases hv with | @tup p xs _ hT hA => cases hA with | cons h1 hA => cases hA with | cons h2 hA => cases hA with | cons h3 hN =>
    cases hN
    cases h1
    rename_i v1 v2
    have rest : True := trivial
    refine ⟨_, rfl, _, _, rfl, .inr ⟨_, hT, rfl⟩, rfl, false, rfl, ?_⟩
    refine ⟨_, rfl, p, _, _, _, rfl, rfl, hT, rfl, ?_⟩
    refine ⟨_, rfl, le1k, fun o H1 s1 e1 => ⟨o, _, rfl, .inl (SqL.of e1), rfl, rfl, _, rfl, ?_⟩⟩
    show (if inV (.str x) (forkW.map V.str) = true then _ else _)
    rw [inV_str]
    by_cases hy2 : x ∈ forkW
    · rw [decide_eq_true hy2]
      have max0 : ∀ i : Int, (if i - 1 > 0 then i - 1 else 0) ≤ 100 ∨ i > 101 := fun i => by
        by_cases c : i - 1 > 0
        · rw [if_pos c]; omega
        · rw [if_neg c]; omega
      refine iteT ⟨_, rfl, _, _, rfl, rfl, _, rfl, ?_⟩
      by_cases cm : (0 : Int) < m
      · rw [decide_eq_true cm]
        refine iteT ⟨_, rfl, ?_⟩
        obtain ⟨M, eM⟩ : ∃ M : Int, M = (if m - 1 > 0 then m - 1 else 0) := ⟨_, rfl⟩
        have M0 : 0 ≤ M := by
          rw [eM]
          by_cases c : m - 1 > 0
          · rw [if_pos c]; omega
          · rw [if_neg c]; omega
        have M1 : M ≤ 100 := by
          rw [eM]
          by_cases c : m - 1 > 0
          · rw [if_pos c]; omega
          · rw [if_neg c]; omega
        refine ⟨_, rfl, _, _, rfl, rfl, 0, m - 1, rfl, ?_⟩
        rw [← eM]
        refine ⟨_, rfl, p, _, _, _, rfl, rfl, seqT_same s1 hT, rfl, _, rfl, v1, a, j, M, rfl, by omega, dp_same s1 _ _ h2, ha, M0, M1, fun H2 t2 u2 D2 m2 s2 e2 d2 f2 l2 m20 m21 => ?_⟩
        have s12 := Same.trans s1 s2
        refine ⟨t2, _, rfl, e2, rfl, _, _, rfl, _, _, rfl, rfl, ?_⟩
        refine ⟨_, rfl, p, _, _, _, rfl, rfl, seqT_same s12 hT, rfl, _, rfl, v2, b, j, m2, rfl, by omega, dp_same s12 _ _ h3, hb, m20, m21, fun H3 t3 u3 D3 m3 s3 e3 d3 f3 l3 m30 m31 => ?_⟩
        refine ⟨t3, _, rfl, e3, rfl, _, _, rfl, _, _, rfl, rfl, ?_⟩
        refine ⟨_, rfl, _, rfl, _, rfl, le1k, fun t4 H4 s4 e4 => ⟨_, rfl, le1k, fun t5 H5 s5 e5 => ?_⟩⟩
        have s35 := Same.trans s4 s5
        refine q H5 t5 (.ref t4) (.tuple [.str x, D2, D3]) m3 (Same.trans s12 (Same.trans s3 s35)) e5 (.tup (seqT_same s5 e4) (.cons (.str _) (.cons (dp_same (Same.trans s3 s35) _ _ d2) (.cons (dp_same s35 _ _ d3) .nil)))) (isForm_node hx f2 f3) ?_ m30 m31
        rw [lvs3, lvs3, List.length_append, List.length_append, l2, l3]
      · rw [decide_eq_false cm]
        refine iteF ?_
        have hz : ∃ z : Str, z ∈ halfW ∧ valV (mergeK [] [(Sum.inr (Str.ofString "offered"), V.str "between"), (Sum.inr (Str.ofString "chosen"), V.str "both")]) (Sum.inr x) = some (.str z) := by
          simp only [forkW, List.mem_cons, List.not_mem_nil, or_false] at hy2
          rcases hy2 with rfl | rfl
          · exact ⟨"between", by decide +kernel, by rfl⟩
          · exact ⟨"both", by decide +kernel, by rfl⟩
        obtain ⟨z, hz1, hz2⟩ := hz
        intro p5 np5
        refine ⟨upd_same, [(.inr "offered", .str "between"), (.inr "chosen", .str "both")], rfl, by decide, ?_⟩
        have s5' : Same H1 (upd (upd H1 p5 (.dK [])) p5 (.dK (mergeK [] [(.inr "offered", .str "between"), (.inr "chosen", .str "both")]))) := fun b o e => by
          rw [upd_ne (ne_of_none e np5), upd_ne (ne_of_none e np5)]
          exact e
        have sq := Same.trans s1 s5'
        refine ⟨_, rfl, p5, .str z, rfl, .inl ⟨_, .inr x, .inl upd_same, rfl, hz2.symm⟩, ?_⟩
        obtain ⟨M, eM⟩ : ∃ M : Int, M = (if m - 1 > 0 then m - 1 else 0) := ⟨_, rfl⟩
        have M0 : 0 ≤ M := by
          rw [eM]
          by_cases c : m - 1 > 0
          · rw [if_pos c]; omega
          · rw [if_neg c]; omega
        have M1 : M ≤ 100 := by
          rw [eM]
          by_cases c : m - 1 > 0
          · rw [if_pos c]; omega
          · rw [if_neg c]; omega
        refine ⟨_, rfl, _, _, rfl, rfl, 0, m - 1, rfl, ?_⟩
        rw [← eM]
        refine ⟨_, rfl, p, _, _, _, rfl, rfl, seqT_same sq hT, rfl, _, rfl, v1, a, j, M, rfl, by omega, dp_same sq _ _ h2, ha, M0, M1, fun H2 t2 u2 D2 m2 s2 e2 d2 f2 l2 m20 m21 => ?_⟩
        have sq2 := Same.trans sq s2
        refine ⟨t2, _, rfl, e2, rfl, _, _, rfl, _, _, rfl, rfl, ?_⟩
        refine ⟨_, rfl, p, _, _, _, rfl, rfl, seqT_same sq2 hT, rfl, _, rfl, v2, b, j, m2, rfl, by omega, dp_same sq2 _ _ h3, hb, m20, m21, fun H3 t3 u3 D3 m3 s3 e3 d3 f3 l3 m30 m31 => ?_⟩
        refine ⟨t3, _, rfl, e3, rfl, _, _, rfl, _, _, rfl, rfl, ?_⟩
        refine ⟨_, rfl, _, rfl, _, rfl, le1k, fun t4 H4 s4 e4 => ⟨_, rfl, le1k, fun t5 H5 s5 e5 => ?_⟩⟩
        have s35 := Same.trans s4 s5
        refine q H5 t5 (.ref t4) (.tuple [.str z, D2, D3]) m3 (Same.trans sq2 (Same.trans s3 s35)) e5 (.tup (seqT_same s5 e4) (.cons (.str _) (.cons (dp_same (Same.trans s3 s35) _ _ d2) (.cons (dp_same s35 _ _ d3) .nil)))) (isForm_node hz1 f2 f3) ?_ m30 m31
        rw [lvs3, lvs3, List.length_append, List.length_append, l2, l3]
    · rw [decide_eq_false hy2]
      refine iteF ?_
      refine ⟨_, rfl, p, _, _, _, rfl, rfl, seqT_same s1 hT, rfl, _, rfl, v1, a, j, m, rfl, by omega, dp_same s1 _ _ h2, ha, m0, m1, fun H2 t2 u2 D2 m2 s2 e2 d2 f2 l2 m20 m21 => ?_⟩
      have s12 := Same.trans s1 s2
      refine ⟨t2, _, rfl, e2, rfl, _, _, rfl, _, _, rfl, rfl, ?_⟩
      refine ⟨_, rfl, p, _, _, _, rfl, rfl, seqT_same s12 hT, rfl, _, rfl, v2, b, j, m2, rfl, by omega, dp_same s12 _ _ h3, hb, m20, m21, fun H3 t3 u3 D3 m3 s3 e3 d3 f3 l3 m30 m31 => ?_⟩
      refine ⟨t3, _, rfl, e3, rfl, _, _, rfl, _, _, rfl, rfl, ?_⟩
      refine ⟨_, rfl, _, rfl, _, rfl, le1k, fun t4 H4 s4 e4 => ⟨_, rfl, le1k, fun t5 H5 s5 e5 => ?_⟩⟩
      have s35 := Same.trans s4 s5
      refine q H5 t5 (.ref t4) (.tuple [.str x, D2, D3]) m3 (Same.trans s12 (Same.trans s3 s35)) e5 (.tup (seqT_same s5 e4) (.cons (.str _) (.cons (dp_same (Same.trans s3 s35) _ _ d2) (.cons (dp_same s35 _ _ d3) .nil)))) (isForm_node hx f2 f3) ?_ m30 m31
      rw [lvs3, lvs3, List.length_append, List.length_append, l2, l3]
end
end My

set_option Elab.async false
set_option linter.all false
set_option maxRecDepth 100000
namespace My
open PySem L2
abbrev s_law_some_ends : Stmt := top 47
abbrev N_law_some_ends : List Str := ["_law_pen", "_law_most", "_law_branches", "_law_names_here", "_law_left", "_law_ends", "_law_tall", "_law_each", "_law_k", "_law_many", "_law_form"]
abbrev P_law_some_ends : List Str := ["_law_pen", "_law_most", "_law_branches"]
theorem sc_law_some_ends : FnScope N_law_some_ends P_law_some_ends (defScope s_law_some_ends) := ⟨rfl, rfl, rfl, by decide +kernel, rfl, by decide +kernel, by decide +kernel⟩
def spSomeEnds (K : PySem.W.Frag) : Sp := fun vs H Q _ => ∃ (d L : Addr) (ns : List Int) (n most : Nat) (br : Int), vs = [.ref d, .int (most : Nat), .int br] ∧ Pen K H d L ns n ∧ n < 2 ^ 36 ∧ 1 ≤ most ∧ most ≤ 40 ∧ 0 ≤ br ∧ br ≤ 100 ∧
  ∀ (p : Addr) (us : List V) (ds : List PyData) H', Keep d H H' → Pen K H' d L ns (n + 20000) → H' p = some (.lst us) → DpAll K H' us ds → isEnds (.list ds) = true → Q (.ref p) H'
section
variable {P : Program} {w : World} {K : PySem.W.Frag} {mg : Str → Option Value} {base : Heap} {f : Addr} {fd : FuncData}
theorem ok_law_some_ends (T : Txt7 K mg) (F : Fun K "_law_some_ends" "_law_some_ends" s_law_some_ends f fd) (C_law_draw : Cal P w K mg base "_law_draw" 1 P_law_draw (spDraw K)) (C_law_pick : Cal P w K mg base "_law_pick" 2 P_law_pick (spPick K)) (C_law_names : Cal P w K mg base "_law_names" 4 P_law_names (spNames K))
    (C_law_shape : Cal P w K mg base "_law_shape" 15 P_law_shape (spShape K 13)) (C_law_unforked : Cal P w K mg base "_law_unforked" 13 P_law_unforked (spUnforked K 13)) : FnOk P w K mg base CX0 16 f fd P_law_some_ends (spSomeEnds K) := by
  refine F.ok sc_law_some_ends (fun vs H Q E h => ?_) (fun cdv A outer s H vs Q E hr h => ?_)
  · obtain ⟨d, L, ns, n, most, br, rfl, _⟩ := h
    rfl
  obtain ⟨d, L, ns, n, most, br, rfl, hp, hn, o1, o2, br0, br1, q⟩ := h
  refine ⟨_, (pss_cons (ps_par3 (i := 3) (j := 4) (l := 5) (by rfl) sc_law_some_ends.nd rfl rfl rfl (by decide) (by decide) (by decide) rfl rfl rfl (pa_cons (pe_callC C_law_names hr (pa_cons (pv 0) (pa_cons pe_int pa_nil))) (pa_cons (pe_op op_add pe_int (pe_callC C_law_draw hr (pa_cons (pv 0) (pa_cons (pv 1) pa_nil)))) (pa_cons (pe_lst pa_nil) pa_nil))) (by rfl))
  (pss_cons (ps_par (i := 6) (j := 7) (by rfl) sc_law_some_ends.nd rfl rfl (by decide) rfl rfl (pa_cons (pe_callC C_law_pick hr (pa_cons (pv 0) (pa_cons (pe_lstN (pa_cons pe_int (pa_cons pe_int (pa_cons pe_int pa_nil)))) pa_nil))) (pa_cons (pe_callC C_law_pick hr (pa_cons (pv 0) (pa_cons (pe_lstN (pa_cons pe_int (pa_cons pe_int (pa_cons (pv 1) pa_nil)))) pa_nil))) pa_nil)) (by rfl))
  (pss_cons (ps_for PassesOwn.never rfl (pi_range1 rfl T.range (pa_cons (pv 1) pa_nil)) (pg_name (i := 8) sc_law_some_ends.nd rfl (Or.inl rfl))
    (pss_one (ps_if (pt_cmpR op_gt (pv 4) pe_int (nomark _))
      (pss_cons (ps_set (i := 9) sc_law_some_ends.nd rfl (Or.inl rfl) (pe_op op_add pe_int (pe_callC C_law_draw hr (pa_cons (pv 0) (pa_cons (pe_callB (cr_min rfl) rfl T.min (by decide +kernel) (pa_cons (pe_lstN (pa_cons (pv 4) (pa_cons (pv 7) (pa_cons (pe_op op_shl pe_int (pv 6)) pa_nil)))) pa_nil)) pa_nil)))))
      (pss_cons (ps_asg (pe_callC C_law_unforked hr (pa_cons (pe_callC C_law_shape hr (pa_cons (pv 0) (pa_cons (pv 3) (pa_cons (pv 9) (pa_cons (pv 6) pa_nil))))) (pa_cons (pv 2) pa_nil))) (pg_tup rfl (pgs_cons (pg_name (i := 10) sc_law_some_ends.nd rfl (Or.inl rfl)) (pgs_cons (pg_name (i := 2) sc_law_some_ends.nd rfl (Or.inl rfl)) pgs_nil))))
      (pss_cons (ps_expr (pe_bm PySem.F.plainAttrs_list PySem.F.slot_list_append PySem.F.type_list_append mt_append (pv 5) (pa_cons (pv 10) pa_nil)))
      (pss_one (ps_set (i := 4) sc_law_some_ends.nd rfl (Or.inl rfl) (pe_op op_sub (pv 4) (pv 9)))))))
      pss_nil)))
  (pss_one (ps_ret (pv 5)))))), ?_⟩
  refine ⟨_, rfl, d, L, ns, n, 4, rfl, hp, by omega, by decide, by decide, fun na zs H1 z1 z2 z3 sz k1 p1 => ?_⟩
  refine ⟨_, rfl, _, rfl, d, L, ns, _, (most : Int), rfl, p1, by omega, by omega, by omega, fun r H2 r0 r1 k2 p2 => ⟨_, _, rfl, rfl, Nat.zero_le _, fun e ne => ⟨_, _, _, rfl, ?_⟩⟩⟩
  have sz2 := seqL_keep p1.isDk k2 sz
  have k12 := k1.trans k2
  have pe_ := p2.fresh (o := .lst []) (Keep.refl d H2) p2.cells p2.isDk ne
  have ke : Keep d H2 (upd H2 e (.lst [])) := Same.toKeep (same_new ne _)
  have ee : upd H2 e (.lst []) e = some (.lst []) := upd_same
  generalize upd H2 e (.lst []) = H3 at *
  refine ⟨_, rfl, le1k, fun l1 H4 s4 e4 => ⟨d, L, ns, _, .ref l1, rfl, pe_.same s4, by omega, .inl ⟨l1, _, rfl, SqL.of e4, by simp, le1k, fun x H5 hx k5 p5 => ?_⟩⟩⟩
  refine ⟨_, rfl, _, rfl, le1k, fun l2 H6 s6 e6 => ⟨d, L, ns, _, .ref l2, rfl, p5.same s6, by omega, .inl ⟨l2, _, rfl, SqL.of e6, by simp, le1k, fun y H7 hy k7 p7 => ⟨_, _, rfl, ?_⟩⟩⟩⟩
  have hnd : e ≠ d := by
    obtain ⟨kvs, ed⟩ := p2.isDk
    exact (ne_of_none ed ne).symm
  obtain ⟨tall, rfl, t0, t1⟩ : ∃ m : Nat, x = V.int m ∧ 1 ≤ m ∧ m ≤ 12 := by
    simp only [List.mem_cons, List.not_mem_nil, or_false] at hx
    rcases hx with rfl | rfl | rfl <;>
      first | exact ⟨1, rfl, by decide, by decide⟩ | exact ⟨3, rfl, by decide, by decide⟩ | exact ⟨12, rfl, by decide, by decide⟩
  obtain ⟨each, rfl, c0⟩ : ∃ m : Nat, y = V.int m ∧ 1 ≤ m := by
    simp only [List.mem_cons, List.not_mem_nil, or_false] at hy
    rcases hy with rfl | rfl | rfl
    · exact ⟨1, rfl, by decide⟩
    · exact ⟨4, rfl, by decide⟩
    · exact ⟨most, rfl, o1⟩
  have ka : Keep d H2 H7 := ((((ke.trans (Same.toKeep s4)).trans k5).trans (Same.toKeep s6)).trans k7)
  have e7 : H7 e = some (.lst []) := (((((Same.toKeep s4)).trans k5).trans (Same.toKeep s6)).trans k7) _ _ hnd ee
  obtain ⟨tot, htot⟩ : ∃ tot : Nat, (tot : Int) = 1 + r := ⟨(1 + r).toNat, by omega⟩
  refine ⟨_, rfl, (most : Int), rfl, by omega, by omega, ?_⟩
  refine for_range (lo := 0) (n := ((most : Int)).toNat) (fun i σ H' => Keep d H2 H' ∧ ∃ (us : List V) (ds : List PyData) (T : Nat) (b : Int) (x8 x9 x10 : Option V),
    σ = [some (.ref d), some (.int (most : Nat)), some (.int b), some (.ref na), some (.int ((tot : Int) - (T : Int))), some (.ref e), some (.int (tall : Nat)), some (.int (each : Nat)), x8, x9, x10] ∧
    0 ≤ b ∧ b ≤ 100 ∧ Pen K H' d L ns (n + 60 + 5 * T) ∧ H' e = some (.lst us) ∧ DpAll K H' us ds ∧ (ds.flatMap lvs).length = T ∧ ds.length ≤ T ∧ ds.all (isForm 12) = true ∧ T ≤ tot ∧ (1 ≤ i → 1 ≤ ds.length))
    ⟨ka, [], [], 0, br, none, none, none, by show _ = [_, _, _, _, some (V.int ((tot : Int) - 0)), _, _, _, _, _, _]; rw [htot, Int.sub_zero]; rfl, br0, br1, p7.mono (by omega), e7, .nil, rfl, Nat.le_refl _, rfl, Nat.zero_le _, fun z => absurd z (by decide)⟩
    (fun i σ H8 hi ⟨k8, us, ds, T, b, x8, x9, x10, eσ, b0, b1, p8, e8, d8, l8, n8, f8, t8, z8⟩ => ?_) (fun σ H8 ⟨k8, us, ds, T, b, x8, x9, x10, eσ, b0, b1, p8, e8, d8, l8, n8, f8, t8, z8⟩ => ?_)
  · subst eσ
    have sz8 := seqL_keep p2.isDk k8 sz2
    refine ⟨_, rfl, _, _, rfl, rfl, _, rfl, ?_⟩
    refine ite2 (fun c => ?_) (fun c => ?_)
    · have c' : (0 : Int) < (tot : Int) - (T : Int) := of_decide_eq_true c
      refine ⟨_, rfl, _, rfl, _, rfl, _, rfl, _, _, rfl, rfl, ⟨by omega, by omega, by decide⟩, ?_⟩
      refine ⟨le1k, fun l9 H9 s9 e9 => ⟨_, [(tot : Int) - (T : Int), (each : Int), 1 * 2 ^ (tall : Int).toNat], rfl, SqL.of e9, Nat.succ_pos _, fun m hm hle => ?_⟩⟩
      have m1 := hle ((tot : Int) - (T : Int)) (by simp)
      have m2 := hle (1 * 2 ^ (tall : Int).toNat) (by simp)
      have m0 : 1 ≤ m := by
        simp only [List.mem_cons, List.not_mem_nil, or_false] at hm
        rcases hm with rfl | rfl | rfl
        · omega
        · omega
        · have : 0 < (2 : Int) ^ (tall : Int).toNat := Int.pow_pos (by decide)
          omega
      refine ⟨d, L, ns, _, m, rfl, p8.same s9, by omega, by omega, by omega, fun r' H10 r0' r1' k10 p10 => ?_⟩
      have m3 : m ≤ 2 ^ tall := by
        have e2 : (tall : Int).toNat = tall := Int.toNat_natCast tall
        rw [e2] at m2
        omega
      obtain ⟨M, hM⟩ : ∃ M : Nat, 1 + r' = (M : Int) := ⟨(1 + r').toNat, by omega⟩
      have hM2 : M ≤ 2 ^ tall := by
        have : ((2 ^ tall : Nat) : Int) = 2 ^ tall := by push_cast; rfl
        omega
      have k810 : Keep d H8 H10 := (Same.toKeep s9).trans k10
      have sz10 := seqL_keep p8.isDk k810 sz8
      refine ⟨_, _, rfl, rfl, _, rfl, _, rfl, _, rfl, _, rfl, d, L, ns, _, na, zs, M, tall, by show [V.ref d, V.ref na, V.int (1 + r'), V.int (tall : Nat)] = _; rw [hM], by omega, p10, by omega, sz10, z2, by omega, z1, by omega, by omega, hM2, by omega, fun v D H11 dv fv lv k11 p11 => ?_⟩
      refine ⟨_, rfl, v, D, tall, b, rfl, by omega, dv, fv, b0, b1, fun H12 p u D' m' s12 q12 du fu lu m0' m1' => ?_⟩
      have k812 : Keep d H8 H12 := (k810.trans k11).trans (Same.toKeep s12)
      have e12 : H12 e = some (.lst us) := k812 _ _ hnd e8
      refine ⟨_, _, rfl, q12, rfl, ?_⟩
      have kt := keepT_lst (o := .lst (us ++ [u])) e12
      have lus : us.length ≤ 40 := by
        have := dpAll_len d8
        omega
      refine ⟨_, _, rfl, _, _, rfl, rfl, ?_⟩
      refine ⟨_, rfl, .inl ⟨rfl, us, SqL.of e12⟩, _, rfl, e, us, _, rfl, rfl, e12, small1000 (by omega), ?_⟩
      refine ⟨_, rfl, _, rfl, _, _, rfl, rfl, ?_⟩
      refine ⟨keep_fresh (k8.trans k812) ne, us ++ [u], ds ++ [D'], T + M, m', some (V.int (0 + (i : Int))), some (V.int (1 + r')), some u, ?_, m0', m1', ((p11.same s12).fresh (k8.trans k812) p2.cells p2.isDk ne).mono (by omega), upd_same, ?_, ?_, ?_, ?_, by omega, fun _ => by simp⟩
      · show [_, _, _, _, some (V.int ((tot : Int) - (T : Int) - (1 + r'))), _, _, _, _, _, _] = _
        have : (tot : Int) - (T : Int) - (1 + r') = (tot : Int) - ((T + M : Nat) : Int) := by omega
        rw [this]
      · refine dpAll_snoc (dp_n kt _ _ (noL_form fu) du) (dpAll_n kt _ _ ?_ (dpAll_keep p8.isDk k812 _ _ d8))
        have := noLs_map_in (f := fun x : PyData => x) ds (fun a ha => noL_form (List.all_eq_true.mp f8 a ha))
        rwa [List.map_id'] at this
      · rw [List.flatMap_append, List.length_append, l8]
        show T + ([D'].flatMap lvs).length = _
        rw [List.flatMap_cons, List.flatMap_nil, List.append_nil, lu, lv]
      · rw [List.length_append]
        show ds.length + 1 ≤ _
        omega
      · rw [List.all_append, f8]
        show (isForm 12 D' && true) = true
        rw [isForm_le fu (by omega)]
        rfl
    · have c' : ¬ (0 : Int) < (tot : Int) - (T : Int) := of_decide_eq_false (by simpa using c)
      refine ⟨k8, us, ds, T, b, _, x9, x10, rfl, b0, b1, p8, e8, d8, l8, n8, f8, t8, fun _ => ?_⟩
      have : T ≠ 0 := by omega
      by_cases dz : ds = []
      · subst dz
        exact absurd l8.symm this
      · exact List.length_pos_iff.mpr dz
  · subst eσ
    have hne : 1 ≤ ds.length := z8 (by omega)
    refine ⟨_, rfl, q e us ds H8 (k12.trans k8) (p8.mono (by omega)) e8 d8 ?_⟩
    show (decide _ && decide _ && _ && decide _) = true
    rw [f8, l8, decide_eq_true hne, decide_eq_true (show ds.length ≤ 40 by omega), decide_eq_true (show T ≤ 40 by omega)]
    rfl
end
end My

set_option Elab.async false
set_option linter.all false
set_option maxRecDepth 100000
namespace My
open PySem L2
namespace Told
variable {X : Cx} {k j : Nat} {ps : List Str} {sp : Sp} {x : Str} {p pos : Pos} {e : Expr} {es : List Expr} {t : TA}
/-- a call of a def that may raise, where it does not -/
theorem pe_callV (C : CalX X.prog X.w X.K X.mg X.base x k ps sp) (hr : Room j X.A) (ha : PA X (e :: es) t) (hk : k ≤ j := by omega) (hg : Gl X x := by rfl) (hdb : (x == ("__debug__" : Str)) = false := by decide)
    (he : starEach (e :: es) X.env = (false, eval e X.env) :: starEach es X.env := by rfl) (hpl : (backTo pos (starEach es X.env)).any (·.1) = false := by rfl) :
    PE X (.Call (.Name x p) (e :: es) [] pos) (tCall sp [] E0 t) := pe_call C.ok (hr.mono hk) hg C.m C.kp C.b .nil passL ha hdb he hpl
end Told
abbrev s_law_all_told : Stmt := top 57
abbrev N_law_all_told : List Str := ["_law_ends", "_law_kept", "_law_at_leaves", "_law_at_forks", "_law_at", "_law_form", "_law_over_leaves", "_law_over_forks"]
abbrev P_law_all_told : List Str := ["_law_ends"]
theorem sc_law_all_told : FnScope N_law_all_told P_law_all_told (defScope s_law_all_told) := ⟨rfl, rfl, rfl, by decide +kernel, rfl, by decide +kernel, by decide +kernel⟩
def spAllTold (K : PySem.W.Frag) : Sp := fun vs H Q _ => ∃ (a : Addr) (xs : List V) (ds : List PyData), vs = [.ref a] ∧ (SqL K H a xs ∨ SqT K H a xs) ∧ DpAll K H xs ds ∧ isEnds (.list ds) = true ∧ ∀ H', Same H H' → Q (.bl true) H'
section
variable {P : Program} {w : World} {K : PySem.W.Frag} {mg : Str → Option Value} {base : Heap} {f : Addr} {fd : FuncData}
theorem ends_short : ∀ {ds : List PyData}, ds.all (isForm 12) = true → shortAll ds = true ∧ widAll ds = true
  | [], _ => ⟨rfl, rfl⟩
  | D :: ds, h => by
    rw [List.all_cons, Bool.and_eq_true] at h
    obtain ⟨a, b⟩ := ends_short h.2
    exact ⟨by rw [shortAll, short_form h.1, a]; rfl, by rw [widAll, wid_form h.1, b]; rfl⟩
theorem lvs_are : ∀ {k : Nat} {D : PyData}, isForm k D = true → ∀ x ∈ lvs D, isForm 12 x = true := by
  intro k
  induction k with
  | zero =>
    intro D h x hx
    rcases isForm_inv h with ⟨w, n, rfl, hw, hn⟩ | ⟨j, w, a, b, e, rfl, hw, ha, hb⟩
    · rw [lvs2, List.mem_singleton] at hx
      subst hx
      exact isForm_leaf _ hw hn
    · cases e
  | succ k ih =>
    intro D h x hx
    rcases isForm_inv h with ⟨w, n, rfl, hw, hn⟩ | ⟨j, w, a, b, e, rfl, hw, ha, hb⟩
    · rw [lvs2, List.mem_singleton] at hx
      subst hx
      exact isForm_leaf _ hw hn
    · cases e
      rw [lvs3, List.mem_append] at hx
      exact hx.elim (ih ha x) (ih hb x)
theorem all_lvs_are {ds : List PyData} (h : ds.all (isForm 12) = true) : ∀ x ∈ ds.flatMap lvs, isForm 12 x = true := fun x hx => by
  obtain ⟨d, hd, hx⟩ := List.mem_flatMap.mp hx
  exact lvs_are (List.all_eq_true.mp h d hd) x hx
/-- the look at good ends: nothing is raised -/
theorem view_ok {CB : Addr} {out : List PyData → List PyData} {H : Hp} {a : Addr} {xs : List V} {ds : List PyData} {Q : VK} {E : XK} (hq : SqL K H a xs ∨ SqT K H a xs) (hd : DpAll K H xs ds) (he : isEnds (.list ds) = true)
    (h : ∀ H' u, Same H H' → Dp K H' u (.tuple (out ds)) → Q u H') : spView K CB out [.ref a] H Q E := by
  obtain ⟨ds', e, l40, f12, v40, l1⟩ := isEnds_inv he
  have ed : ds' = ds := by
    rcases e with e | e
    · cases e; rfl
    · cases e
  subst ed
  obtain ⟨sh, wi⟩ := ends_short f12
  rcases hq with hq | hq
  · refine ⟨_, rfl, .inl ⟨.list ds', .lst hq hd, by rw [shortD]; exact sh, by rw [widD, wi, decide_eq_true (show ds'.length ≤ 1000 by omega)]; rfl, fun _ ds2 e2 H' u s' du => ?_, fun z => by rw [he] at z; cases z⟩⟩
    have : ds2 = ds' := by
      rcases e2 with e2 | e2
      · cases e2; rfl
      · cases e2
    subst this
    exact h H' u s' du
  · refine ⟨_, rfl, .inl ⟨.tuple ds', .tup hq hd, by rw [shortD]; exact sh, by rw [widD, wi, decide_eq_true (show ds'.length ≤ 1000 by omega)]; rfl, fun _ ds2 e2 H' u s' du => ?_, fun z => by rw [show isEnds (.tuple ds') = isEnds (.list ds') from rfl, he] at z; cases z⟩⟩
    have : ds2 = ds' := by
      rcases e2 with e2 | e2
      · cases e2
      · cases e2; rfl
    subst this
    exact h H' u s' du
theorem layE_words : ∀ (ds : List PyData) (f e : Nat), ds.all (isForm 12) = true → (layE f e ds).2.map (fun r => r.2.1) = ds.flatMap wds
  | [], _, _, _ => rfl
  | D :: ds, f, e, h => by
    have h' : (isForm 12 D && ds.all (isForm 12)) = true := h
    obtain ⟨h1, h2⟩ := Bool.and_eq_true_iff.mp h'
    simp only [layE, List.map_append, List.map_map, List.flatMap_cons]
    rw [layE_words ds _ _ h2, ← lay_words (f := f) (ab := []) h1]
    rfl
theorem outforks_eq {ds : List PyData} (h : ds.all (isForm 12) = true) : outforks ds = (ds.flatMap wds).map PyData.str := by
  rw [outforks, ← layE_words ds 0 0 h, List.map_map]
  rfl
theorem dpAll_nums {α : Type} {H : Hp} (g : α → Nat) : ∀ rs : List α, DpAll K H (rs.map fun r => V.int (g r)) (rs.map fun r => PyData.int (g r))
  | [] => .nil
  | r :: rs => .cons (.int _) (dpAll_nums g rs)
theorem tw_tup {H : Hp} {Ds : List PyData} {u v : V} (hl : Ds.length ≤ 1000) (hw : ∀ D ∈ Ds, widD D = true ∧ D.depth ≤ 20) (du : Dp K H u (.tuple Ds)) (dv : Dp K H v (.tuple Ds)) : Tw K H 66 u v := by
  have wt : widD (.tuple Ds) = true := by
    rw [widD, widAll_of (fun x hx => (hw x hx).1), decide_eq_true hl]
    rfl
  have ht : (PyData.tuple Ds).depth ≤ 40 := by
    have := depthAll_of (n := 20) (fun x hx => (hw x hx).2)
    rw [PyData.depth]
    omega
  exact tw_mono (by omega) (tw_dp _ _ _ wt du dv)
theorem nums_snoc {α : Type} (i : Nat) (xs : List α) : (xs.map fun r => (i, r)).map (fun r => V.int (r.1 : Nat)) = List.replicate xs.length (V.int (i : Nat)) := by
  rw [List.map_map]
  induction xs with
  | nil => rfl
  | cons x xs ih =>
    rw [List.map_cons, ih]
    rfl
theorem lay_short : ∀ {k : Nat} {D : PyData} {f : Nat} {ab : Ab}, isForm k D = true → (∀ r ∈ (lay f ab D).1, r.2.length ≤ ab.length + k) ∧ (∀ r ∈ (lay f ab D).2, r.2.length ≤ ab.length + k) := by
  intro k
  induction k with
  | zero =>
    intro D f ab h
    rcases isForm_inv h with ⟨w, n, rfl, hw, hn⟩ | ⟨j, w, a, b, e, _⟩
    · rw [lay2]
      refine ⟨fun r hr => ?_, fun r hr => (nomatch hr)⟩
      rw [List.mem_singleton.mp hr]
      exact Nat.le_refl _
    · cases e
  | succ k ih =>
    intro D f ab h
    rcases isForm_inv h with ⟨w, n, rfl, hw, hn⟩ | ⟨j, w, a, b, e, rfl, hw, ha, hb⟩
    · rw [lay2]
      refine ⟨fun r hr => ?_, fun r hr => (nomatch hr)⟩
      rw [List.mem_singleton.mp hr]
      exact Nat.le_add_right _ _
    · obtain rfl : k = j := by omega
      by_cases c : w ∈ forkW
      · rw [lay3f _ _ _ _ _ c]
        have h1 := ih (f := f + 1) (ab := ab ++ [(f, 0)]) ha
        have h2 := ih (f := f + 1 + (lay (f + 1) (ab ++ [(f, 0)]) a).2.length) (ab := ab ++ [(f, 1)]) hb
        simp only [List.length_append, List.length_singleton] at h1 h2
        refine ⟨fun r hr => ?_, fun r hr => ?_⟩
        · rcases List.mem_append.mp hr with hr | hr
          · have := h1.1 r hr
            omega
          · have := h2.1 r hr
            omega
        · rcases List.mem_cons.mp hr with rfl | hr
          · exact Nat.le_add_right _ _
          rcases List.mem_append.mp hr with hr | hr
          · have := h1.2 r hr
            omega
          · have := h2.2 r hr
            omega
      · rw [lay3n _ _ _ _ _ c]
        have h1 := ih (f := f) (ab := ab) ha
        have h2 := ih (f := f + (lay f ab a).2.length) (ab := ab) hb
        refine ⟨fun r hr => ?_, fun r hr => ?_⟩
        · rcases List.mem_append.mp hr with hr | hr
          · have := h1.1 r hr
            omega
          · have := h2.1 r hr
            omega
        · rcases List.mem_append.mp hr with hr | hr
          · have := h1.2 r hr
            omega
          · have := h2.2 r hr
            omega
theorem layE_short : ∀ (ds : List PyData) (f e : Nat), ds.all (isForm 12) = true → (∀ r ∈ (layE f e ds).1, r.2.2.length ≤ 12) ∧ (∀ r ∈ (layE f e ds).2, r.2.2.length ≤ 12)
  | [], _, _, _ => ⟨fun r hr => (nomatch hr), fun r hr => (nomatch hr)⟩
  | D :: ds, f, e, h => by
    have h' : (isForm 12 D && ds.all (isForm 12)) = true := h
    obtain ⟨h1, h2⟩ := Bool.and_eq_true_iff.mp h'
    have a := lay_short (f := f) (ab := []) h1
    have b := layE_short ds (f + (lay f [] D).2.length) (e + 1) h2
    simp only [layE]
    refine ⟨fun r hr => ?_, fun r hr => ?_⟩
    · rcases List.mem_append.mp hr with hr | hr
      · obtain ⟨y, hy, rfl⟩ := List.mem_map.mp hr
        have := a.1 y hy
        simpa using this
      · exact b.1 r hr
    · rcases List.mem_append.mp hr with hr | hr
      · obtain ⟨y, hy, rfl⟩ := List.mem_map.mp hr
        have := a.2 y hy
        simpa using this
      · exact b.2 r hr
theorem ab_wid {ab : Ab} (h : ab.length ≤ 12) : widD (abD ab) = true ∧ (abD ab).depth ≤ 20 := by
  unfold abD
  constructor
  · rw [widD, widAll_of, decide_eq_true (by rw [List.length_map]; omega)]
    · rfl
    · intro d hd
      obtain ⟨x, _, rfl⟩ := List.mem_map.mp hd
      rfl
  · have := depthAll_of (n := 3) (ds := ab.map fun p => PyData.tuple [.int p.1, .int p.2]) (fun d hd => by
      obtain ⟨x, _, rfl⟩ := List.mem_map.mp hd
      simp [PyData.depth, PyData.depthAll])
    rw [PyData.depth]
    omega
theorem ok_law_all_told {CB : Addr} (T : Txt7 K mg) (F : Fun K "_law_all_told" "_law_all_told" s_law_all_told f fd) (C_law_same : Cal P w K mg base "_law_same" 67 P_law_same (spSame K 66)) (C_law_all_leaves : Cal P w K mg base "_law_all_leaves" 14 P_law_all_leaves (spAllLvs K)) (C_law_all_forks : Cal P w K mg base "_law_all_forks" 14 P_law_all_forks (spAllWds K))
    (C_law_leaves : Cal P w K mg base "_law_leaves" 13 P_law_leaves (spLvs K 13)) (C_law_forks : Cal P w K mg base "_law_forks" 13 P_law_forks (spWds K 13)) (C_law_all_above : Cal P w K mg base "_law_all_above" 14 P_law_all_above (spAllAbove K))
    (Cleaves : CalX P w K mg base "leaves" 18 Pleaves (spView K CB outleaves)) (Cforks : CalX P w K mg base "forks" 18 Pforks (spView K CB outforks)) (Cleaf_ends : CalX P w K mg base "leaf_ends" 18 Pleaf_ends (spView K CB outleaf_ends)) (Cfork_ends : CalX P w K mg base "fork_ends" 18 Pfork_ends (spView K CB outfork_ends)) (Cabove_leaves : CalX P w K mg base "above_leaves" 18 Pabove_leaves (spView K CB outabove_leaves)) (Cabove_forks : CalX P w K mg base "above_forks" 18 Pabove_forks (spView K CB outabove_forks)) : FnOk P w K mg base CX0 68 f fd P_law_all_told (spAllTold K) := by
  refine F.ok sc_law_all_told (fun vs H Q E h => ?_) (fun cdv A outer s H vs Q E hr h => ?_)
  · obtain ⟨a, xs, ds, rfl, _⟩ := h
    rfl
  obtain ⟨a, xs, ds, rfl, hq, hd, he, q⟩ := h
  refine ⟨_, (pss_cons (ps_set (i := 1) sc_law_all_told.nd rfl (Or.inl rfl) (pe_callTy call_list_of rfl T.list (by decide +kernel) (pa_cons (pv 0) pa_nil)))
  (pss_cons (ps_if (pt_not (pt_val (pe_callC C_law_same hr (pa_cons (Told.pe_callV Cleaves hr (pa_cons (pv 0) pa_nil)) (pa_cons (pe_callTy call_tuple_of rfl T.tuple (by decide +kernel) (pa_cons (pe_callC C_law_all_leaves hr (pa_cons (pv 0) pa_nil)) pa_nil)) pa_nil)))))
    (pss_one (ps_ret pe_bl))
    pss_nil)
  (pss_cons (ps_if (pt_not (pt_val (pe_callC C_law_same hr (pa_cons (Told.pe_callV Cforks hr (pa_cons (pv 0) pa_nil)) (pa_cons (pe_callTy call_tuple_of rfl T.tuple (by decide +kernel) (pa_cons (pe_callC C_law_all_forks hr (pa_cons (pv 0) pa_nil)) pa_nil)) pa_nil)))))
    (pss_one (ps_ret pe_bl))
    pss_nil)
  (pss_cons (ps_par (i := 2) (j := 3) (by rfl) sc_law_all_told.nd rfl rfl (by decide) rfl rfl (pa_cons (pe_lst pa_nil) (pa_cons (pe_lst pa_nil) pa_nil)) (by rfl))
  (pss_cons (ps_for PassesOwn.never rfl (pi_orR (pi_enum rfl T.enumerate (pa_cons (pv 0) pa_nil)) (Enu.pi_enumT rfl T.enumerate (pa_cons (pv 0) pa_nil))) (pg_tup rfl (pgs_cons (pg_name (i := 4) sc_law_all_told.nd rfl (Or.inl rfl)) (pgs_cons (pg_name (i := 5) sc_law_all_told.nd rfl (Or.inl rfl)) pgs_nil)))
    (pss_cons (ps_set (i := 2) sc_law_all_told.nd rfl (Or.inl rfl) (pe_op op_catLN (pv 2) (pe_op op_rep (pe_lstN (pa_cons (pv 4) pa_nil)) (pe_callB call_len rfl T.len (by decide +kernel) (pa_cons (pe_callC C_law_leaves hr (pa_cons (pv 5) pa_nil)) pa_nil)))))
    (pss_one (ps_set (i := 3) sc_law_all_told.nd rfl (Or.inl rfl) (pe_op op_catLN (pv 3) (pe_op op_rep (pe_lstN (pa_cons (pv 4) pa_nil)) (pe_callB call_len rfl T.len (by decide +kernel) (pa_cons (pe_callC C_law_forks hr (pa_cons (pv 5) pa_nil)) pa_nil))))))))
  (pss_cons (ps_if (PW.pt (pw_or (pt_not (pt_val (pe_callC C_law_same hr (pa_cons (Told.pe_callV Cleaf_ends hr (pa_cons (pv 0) pa_nil)) (pa_cons (pe_callTy call_tuple_of rfl T.tuple (by decide +kernel) (pa_cons (pv 2) pa_nil)) pa_nil))))) (pw_or1 (pt_not (pt_val (pe_callC C_law_same hr (pa_cons (Told.pe_callV Cfork_ends hr (pa_cons (pv 0) pa_nil)) (pa_cons (pe_callTy call_tuple_of rfl T.tuple (by decide +kernel) (pa_cons (pv 3) pa_nil)) pa_nil))))))))
    (pss_one (ps_ret pe_bl))
    pss_nil)
  (pss_cons (ps_asg (pe_callC C_law_all_above hr (pa_cons (pv 0) pa_nil)) (pg_tup rfl (pgs_cons (pg_name (i := 6) sc_law_all_told.nd rfl (Or.inl rfl)) (pgs_cons (pg_name (i := 7) sc_law_all_told.nd rfl (Or.inl rfl)) pgs_nil))))
  (pss_cons (ps_if (PW.pt (pw_or (pt_not (pt_val (pe_callC C_law_same hr (pa_cons (Told.pe_callV Cabove_leaves hr (pa_cons (pv 0) pa_nil)) (pa_cons (pe_callTy call_tuple_of rfl T.tuple (by decide +kernel) (pa_cons (pv 6) pa_nil)) pa_nil))))) (pw_or1 (pt_not (pt_val (pe_callC C_law_same hr (pa_cons (Told.pe_callV Cabove_forks hr (pa_cons (pv 0) pa_nil)) (pa_cons (pe_callTy call_tuple_of rfl T.tuple (by decide +kernel) (pa_cons (pv 7) pa_nil)) pa_nil))))))))
    (pss_one (ps_ret pe_bl))
    pss_nil)
  (pss_one (ps_ret (pe_cmpR (op_eqD hr.units) (pe_callTy call_list_of rfl T.list (by decide +kernel) (pa_cons (pv 0) pa_nil)) (pv 1) (nomark _)))))))))))), ?_⟩
  obtain ⟨ds', ee, l40, f12, v40, l1⟩ := isEnds_inv he
  have ed : ds' = ds := by
    rcases ee with ee | ee
    · cases ee; rfl
    · cases ee
  subst ed
  refine ⟨_, rfl, a, xs, rfl, hq, fun kp np => ?_⟩
  have s1 := same_new np (.lst xs)
  have ek : upd H kp (.lst xs) kp = some (.lst xs) := upd_same
  generalize upd H kp (.lst xs) = H1 at *
  have seq1 : ∀ {H' : Hp}, Same H H' → (SqL K H' a xs ∨ SqT K H' a xs) := fun s => hq.imp s.seq (fun t => seqT_same s t)
  have dp1 : ∀ {H' : Hp}, Same H H' → DpAll K H' xs ds' := fun s => dpAll_same s _ _ hd
  refine ⟨_, rfl, ?_⟩
  refine view_ok (seq1 s1) (dp1 s1) he fun H2 u2 s2 du2 => ?_
  have s12 := s1.trans s2
  refine ⟨_, rfl, a, xs, ds', rfl, seq1 s12, dp1 s12, f12, by omega, fun H3 p3 s3 ⟨us3, e3, d3⟩ => ?_⟩
  refine ⟨p3, us3, rfl, .inl ⟨SqL.of e3, fun l4 n4 => ?_⟩⟩
  have s4 := same_new n4 (.tup us3)
  have du4 := dp_same s4 _ _ (dp_same s3 _ _ du2)
  rw [outleaves, layE_leaves _ _ _ f12] at du4
  have dv4 : Dp K (upd H3 l4 (.tup us3)) (.ref l4) (.tuple (ds'.flatMap lvs)) := .tup (SqT.of upd_same) (dpAll_same s4 _ _ d3)
  have w4 : widD (.tuple (ds'.flatMap lvs)) = true := by
    rw [widD, widAll_of (fun x hx => wid_form (all_lvs_are f12 x hx)), decide_eq_true (show (ds'.flatMap lvs).length ≤ 1000 by omega)]
    rfl
  have h4 : (PyData.tuple (ds'.flatMap lvs)).depth ≤ 40 := by
    have := depthAll_of (n := 13) (fun x hx => depth_form (all_lvs_are f12 x hx))
    rw [PyData.depth]
    omega
  have t4 := tw_dp _ _ _ w4 du4 dv4
  refine ⟨_, _, rfl, ?_, fun H5 s5 => ?_⟩
  · exact tw_mono (by omega) t4
  refine ⟨_, rfl, iteF ?_⟩
  have fW : (ds'.flatMap wds).length ≤ 40 := by
    have e := congrArg List.length (layE_words ds' 0 0 f12)
    have := (layE_len ds' f12 v40).2
    rw [List.length_map] at e
    omega
  have s15 := (s12.trans s3).trans (s4.trans s5)
  refine ⟨_, rfl, ?_⟩
  refine view_ok (seq1 s15) (dp1 s15) he fun H6 u6 s6 du6 => ?_
  have s16 := s15.trans s6
  refine ⟨_, rfl, a, xs, ds', rfl, seq1 s16, dp1 s16, f12, by omega, fun H7 p7 s7 e7 => ?_⟩
  refine ⟨p7, _, rfl, .inl ⟨SqL.of e7, fun l8 n8 => ?_⟩⟩
  have s8 := same_new n8 (.tup ((ds'.flatMap wds).map V.str))
  have du8 := dp_same s8 _ _ (dp_same s7 _ _ du6)
  rw [outforks_eq f12] at du8
  have dv8 : Dp K (upd H7 l8 (.tup ((ds'.flatMap wds).map V.str))) (.ref l8) (.tuple ((ds'.flatMap wds).map PyData.str)) := .tup (SqT.of upd_same) (dpAll_strs _)
  refine ⟨_, _, rfl, tw_tup (by rw [List.length_map]; omega) (fun D hD => ?_) du8 dv8, fun H9 s9 => ?_⟩
  · obtain ⟨x, _, rfl⟩ := List.mem_map.mp hD
    exact ⟨rfl, by simp [PyData.depth]⟩
  refine ⟨_, rfl, iteF ?_⟩
  have s19 := (s16.trans s7).trans (s8.trans s9)
  have sK9 : Same H1 H9 := (s2.trans (s3.trans (s4.trans s5))).trans ((s6.trans s7).trans (s8.trans s9))
  have ek9 := sK9 _ _ ek
  refine ⟨Nat.zero_le _, fun l nl => ⟨Nat.zero_le _, fun g ng => ?_⟩⟩
  have ngl : g ≠ l := fun z => by
    rw [z, upd_same] at ng
    cases ng
  have ng0 : H9 g = none := by
    rw [upd_ne ngl] at ng
    exact ng
  have s10 : Same H9 (upd (upd H9 l (.lst [])) g (.lst [])) := fun b o e => by
    rw [upd_ne (ne_of_none e ng0), upd_ne (ne_of_none e nl)]
    exact e
  refine ⟨_, _, rfl, ?_⟩
  rcases hq with hq | hq
  · refine .inl ⟨_, rfl, a, xs, rfl, s10.seq (s19.seq hq), ?_⟩
    refine for_it walk_enum (fun i σ H' => Same H9 H' ∧ σ.length = 8 ∧ σ[0]? = some (some (.ref a)) ∧ σ[1]? = some (some (.ref kp)) ∧ ∃ p q, σ[2]? = some (some (.ref p)) ∧ σ[3]? = some (some (.ref q)) ∧ H' p = some (.lst ((layE 0 0 (ds'.take i)).1.map fun r => V.int (r.1 : Nat))) ∧ H' q = some (.lst ((layE 0 0 (ds'.take i)).2.map fun r => V.int (r.1 : Nat))))
      ⟨s10, rfl, rfl, rfl, l, g, rfl, rfl, by rw [upd_ne ngl.symm, upd_same]; rfl, upd_same⟩ (fun i σ H' _ pv => by obtain ⟨s, _⟩ := pv; exact s.seq (s19.seq hq)) (fun i x σ H11 H12 hi pv y => ?_) (fun σ H' pv => ?_)
    · obtain ⟨tt, x1, z, rfl, nt, rfl, e1, e2⟩ := y
      have ex1 : x1 = .int (i : Nat) := (Option.some.inj e1).symm
      subst ex1
      obtain ⟨d, hdd, hzd⟩ := dpAll_at hd e2
      obtain ⟨s11, gl, g0, g1, p, pq, g2, g3, ep, eq⟩ := pv
      have fd : isForm 12 d = true := List.all_eq_true.mp f12 d (List.mem_of_getElem? hdd)
      have s12' : Same H11 (upd H11 tt (.tup [.int (i : Nat), z])) := same_new nt _
      have tup12 : upd H11 tt (.tup [.int (i : Nat), z]) tt = some (.tup [.int (i : Nat), z]) := upd_same
      generalize upd H11 tt (.tup [.int (i : Nat), z]) = H12 at *
      have etk : ds'.take (i + 1) = ds'.take i ++ [d] := take_next hdd
      have snoc := layE_snoc d (ds'.take i) 0 0
      have lti : (ds'.take i).length = i := by
        rw [List.length_take]
        have := dpAll_len hd
        omega
      rw [lti] at snoc
      simp only [Nat.zero_add] at snoc
      have allT : (ds'.take (i + 1)).all (isForm 12) = true := by
        rw [List.all_eq_true]
        intro y hy
        exact List.all_eq_true.mp f12 y (List.mem_of_mem_take hy)
      have many := layE_len (ds'.take (i + 1)) allT (Nat.le_trans (flat_len lvs ds' (i + 1)) v40)
      rw [etk, snoc] at many
      simp only [List.length_append, List.length_map] at many
      have n1 : (lvs d).length = (lay (layE 0 0 (ds'.take i)).2.length [] d).1.length := by rw [← lay_leaves (f := (layE 0 0 (ds'.take i)).2.length) (ab := []) fd, List.length_map]
      have n2 : (wds d).length = (lay (layE 0 0 (ds'.take i)).2.length [] d).2.length := by rw [← lay_words (f := (layE 0 0 (ds'.take i)).2.length) (ab := []) fd, List.length_map]
      refine ⟨tt, [.int (i : Nat), z], rfl, SqT.of tup12, rfl, _, [z], rfl, z, [], rfl, rfl, ?_⟩
      have Q : ∀ (m : Nat) (v : V), m ≠ 4 → m ≠ 5 → σ[m]? = some (some v) → ((σ.set 4 (some (.int (i : Nat)))).set 5 (some z))[m]? = some (some v) := fun m v m4 m5 e => by
        rw [List.getElem?_set_ne (by omega), List.getElem?_set_ne (by omega)]
        exact e
      have q4 : ((σ.set 4 (some (.int (i : Nat)))).set 5 (some z))[4]? = some (some (.int (i : Nat))) := by
        rw [List.getElem?_set_ne (by omega), List.getElem?_set_self (by omega)]
      have q5 : ((σ.set 4 (some (.int (i : Nat)))).set 5 (some z))[5]? = some (some z) := by
        rw [List.getElem?_set_self (by rw [List.length_set]; omega)]
      have dz : Dp K H z d := hzd
      have sH11 : Same H H11 := s19.trans s11
      refine ⟨_, Q 2 _ (by decide) (by decide) g2, _, q4, le1k, fun n3 H13 s13 e13 => ⟨_, q5, z, 12, d, rfl, by omega, dp_same (sH11.trans (s12'.trans s13)) _ _ dz, fd, by omega, fun H14 p14 us14 s14 e14 d14 => ⟨_, _, rfl, .inl ⟨us14, SqL.of e14, rfl⟩, ?_⟩⟩⟩
      have l14 := dpAll_len d14
      refine ⟨n3, _, _, rfl, rfl, s14 _ _ e13, by omega, by omega, ?_, fun p15 np15 => ?_⟩
      · refine fit1000 ?_
        simp only [List.length_cons, List.length_nil]
        omega
      rw [Int.toNat_natCast, rep_flat]
      have s15' := same_new np15 (.lst (List.replicate us14.length (V.int (i : Nat))))
      have e15 : upd H14 p15 (.lst (List.replicate us14.length (V.int (i : Nat)))) p15 = some (.lst (List.replicate us14.length (V.int (i : Nat)))) := upd_same
      generalize upd H14 p15 (.lst (List.replicate us14.length (V.int (i : Nat)))) = H15 at *
      have s1115 : Same H11 H15 := s12'.trans (s13.trans (s14.trans s15'))
      refine ⟨p, p15, _, _, rfl, rfl, s1115 _ _ ep, e15, by rw [List.length_map, List.length_replicate]; omega, fun l16 H16 s16' e16 => ?_⟩
      have s1116 := s1115.trans s16'
      have l2 : (((σ.set 4 (some (V.int (i : Nat)))).set 5 (some z)).set 2 (some (.ref l16))).length = 8 := by rw [List.length_set, List.length_set, List.length_set]; exact gl
      have Q2 : ∀ (m : Nat) (v : V), m ≠ 2 → ((σ.set 4 (some (.int (i : Nat)))).set 5 (some z))[m]? = some (some v) → (((σ.set 4 (some (V.int (i : Nat)))).set 5 (some z)).set 2 (some (.ref l16)))[m]? = some (some v) := fun m v m2 e => by
        rw [List.getElem?_set_ne (by omega)]
        exact e
      refine ⟨_, Q2 3 _ (by decide) (Q 3 _ (by decide) (by decide) g3), _, Q2 4 _ (by decide) q4, le1k, fun n17 H17 s17 e17 => ⟨_, Q2 5 _ (by decide) q5, z, 12, d, rfl, by omega, dp_same (sH11.trans (s1116.trans s17)) _ _ dz, fd, by omega, fun H18 p18 s18 e18 => ⟨_, _, rfl, .inl ⟨_, SqL.of e18, rfl⟩, ?_⟩⟩⟩
      rw [List.length_map]
      refine ⟨n17, _, _, rfl, rfl, s18 _ _ e17, by omega, by omega, ?_, fun p19 np19 => ?_⟩
      · refine fit1000 ?_
        simp only [List.length_cons, List.length_nil]
        omega
      rw [Int.toNat_natCast, rep_flat]
      have s19' := same_new np19 (.lst (List.replicate (wds d).length (V.int (i : Nat))))
      have e19 : upd H18 p19 (.lst (List.replicate (wds d).length (V.int (i : Nat)))) p19 = some (.lst (List.replicate (wds d).length (V.int (i : Nat)))) := upd_same
      generalize upd H18 p19 (.lst (List.replicate (wds d).length (V.int (i : Nat)))) = H19 at *
      have s1619 : Same H16 H19 := s17.trans (s18.trans s19')
      refine ⟨pq, p19, _, _, rfl, rfl, (s1116.trans s1619) _ _ eq, e19, by rw [List.length_map, List.length_replicate]; omega, fun l20 H20 s20 e20 => ?_⟩
      have s1120 := s1116.trans (s1619.trans s20)
      refine ⟨s11.trans s1120, by rw [List.length_set]; exact l2, ?_, ?_, l16, l20, ?_, ?_, ?_, ?_⟩
      · rw [List.getElem?_set_ne (by omega)]
        exact Q2 0 _ (by decide) (Q 0 _ (by decide) (by decide) g0)
      · rw [List.getElem?_set_ne (by omega)]
        exact Q2 1 _ (by decide) (Q 1 _ (by decide) (by decide) g1)
      · rw [List.getElem?_set_ne (by omega), List.getElem?_set_self (by rw [List.length_set, List.length_set]; omega)]
      · rw [List.getElem?_set_self (by omega)]
      · rw [(s1619.trans s20) _ _ e16, etk, snoc, List.map_append, nums_snoc, ← n1, l14]
      · rw [e20, etk, snoc, List.map_append, nums_snoc, ← n2]
    · obtain ⟨s11, gl, g0, g1, p, pq, g2, g3, ep, eq⟩ := pv
      have ltk : ds'.take xs.length = ds' := List.take_of_length_le (by have := dpAll_len hd; omega)
      rw [ltk] at ep eq
      have s21 := s19.trans s11
      have len40 := layE_len ds' f12 v40
      refine ⟨_, g0, ?_⟩
      refine view_ok (seq1 s21) (dp1 s21) he fun H22 u22 s22 du22 => ?_
      refine ⟨_, g2, p, _, rfl, .inl ⟨SqL.of (s22 _ _ ep), fun l23 n23 => ?_⟩⟩
      have s23 := same_new n23 (.tup ((layE 0 0 ds').1.map fun r => V.int (r.1 : Nat)))
      have du23 := dp_same s23 _ _ du22
      have dv23 : Dp K (upd H22 l23 (.tup ((layE 0 0 ds').1.map fun r => V.int (r.1 : Nat)))) (.ref l23) (.tuple (outleaf_ends ds')) := .tup (SqT.of upd_same) (dpAll_nums (fun r : Nat × (PyData × Ab) => r.1) _)
      refine ⟨_, _, rfl, tw_tup (by rw [outleaf_ends, List.length_map]; omega) (fun D hD => ?_) du23 dv23, fun H24 s24 => ?_⟩
      · obtain ⟨x, _, rfl⟩ := List.mem_map.mp hD
        exact ⟨rfl, by simp [PyData.depth]⟩
      refine ⟨_, rfl, iteF ⟨_, g0, ?_⟩⟩
      have s29 := s21.trans (s22.trans (s23.trans s24))
      refine view_ok (seq1 s29) (dp1 s29) he fun H25 u25 s25 du25 => ?_
      refine ⟨_, g3, pq, _, rfl, .inl ⟨SqL.of ((s22.trans (s23.trans (s24.trans s25))) _ _ eq), fun l26 n26 => ?_⟩⟩
      have s26 := same_new n26 (.tup ((layE 0 0 ds').2.map fun r => V.int (r.1 : Nat)))
      have du26 := dp_same s26 _ _ du25
      have dv26 : Dp K (upd H25 l26 (.tup ((layE 0 0 ds').2.map fun r => V.int (r.1 : Nat)))) (.ref l26) (.tuple (outfork_ends ds')) := .tup (SqT.of upd_same) (dpAll_nums (fun r : Nat × (Str × Ab) => r.1) _)
      refine ⟨_, _, rfl, tw_tup (by rw [outfork_ends, List.length_map]; omega) (fun D hD => ?_) du26 dv26, fun H27 s27 => ?_⟩
      · obtain ⟨x, _, rfl⟩ := List.mem_map.mp hD
        exact ⟨rfl, by simp [PyData.depth]⟩
      have s30 := s29.trans (s25.trans (s26.trans s27))
      have sF := s11.trans ((s22.trans (s23.trans s24)).trans (s25.trans (s26.trans s27)))
      refine ⟨_, rfl, iteF ?_⟩
      refine ⟨_, g0, a, xs, ds', rfl, seq1 s30, dp1 s30, f12, v40, fun H31 t31 l31 g31 us ws s31 tt31 el31 eg31 du31 dw31 => ?_⟩
      refine ⟨t31, [.ref l31, .ref g31], rfl, tt31, rfl, _, [.ref g31], rfl, .ref g31, [], rfl, rfl, ?_⟩
      have Q : ∀ (m : Nat) (v : V), m ≠ 6 → m ≠ 7 → σ[m]? = some (some v) → ((σ.set 6 (some (.ref l31))).set 7 (some (.ref g31)))[m]? = some (some v) := fun m v m4 m5 e => by
        rw [List.getElem?_set_ne (by omega), List.getElem?_set_ne (by omega)]
        exact e
      have q6 : ((σ.set 6 (some (.ref l31))).set 7 (some (.ref g31)))[6]? = some (some (.ref l31)) := by
        rw [List.getElem?_set_ne (by omega), List.getElem?_set_self (by omega)]
      have q7 : ((σ.set 6 (some (.ref l31))).set 7 (some (.ref g31)))[7]? = some (some (.ref g31)) := by
        rw [List.getElem?_set_self (by rw [List.length_set]; omega)]
      have q0 := Q 0 _ (by decide) (by decide) g0
      have q1 := Q 1 _ (by decide) (by decide) g1
      have lus := dpAll_len du31
      have lws := dpAll_len dw31
      rw [List.length_map] at lus lws
      have sh := layE_short ds' 0 0 f12
      have s32 := s30.trans s31
      refine ⟨_, q0, ?_⟩
      refine view_ok (seq1 s32) (dp1 s32) he fun H33 u33 s33 du33 => ?_
      refine ⟨_, q6, l31, us, rfl, .inl ⟨SqL.of (s33 _ _ el31), fun l34 n34 => ?_⟩⟩
      have s34 := same_new n34 (.tup us)
      have du34 := dp_same s34 _ _ du33
      have dv34 : Dp K (upd H33 l34 (.tup us)) (.ref l34) (.tuple (outabove_leaves ds')) := .tup (SqT.of upd_same) (dpAll_same (s33.trans s34) _ _ du31)
      refine ⟨_, _, rfl, tw_tup (by rw [outabove_leaves, List.length_map]; omega) (fun D hD => ?_) du34 dv34, fun H35 s35 => ?_⟩
      · obtain ⟨x, hx, rfl⟩ := List.mem_map.mp hD
        exact ab_wid (sh.1 x hx)
      have s36 := s32.trans (s33.trans (s34.trans s35))
      refine ⟨_, rfl, iteF ⟨_, q0, ?_⟩⟩
      refine view_ok (seq1 s36) (dp1 s36) he fun H37 u37 s37 du37 => ?_
      refine ⟨_, q7, g31, ws, rfl, .inl ⟨SqL.of ((s33.trans (s34.trans (s35.trans s37))) _ _ eg31), fun l38 n38 => ?_⟩⟩
      have s38 := same_new n38 (.tup ws)
      have du38 := dp_same s38 _ _ du37
      have dv38 : Dp K (upd H37 l38 (.tup ws)) (.ref l38) (.tuple (outabove_forks ds')) := .tup (SqT.of upd_same) (dpAll_same (s33.trans (s34.trans (s35.trans (s37.trans s38)))) _ _ dw31)
      refine ⟨_, _, rfl, tw_tup (by rw [outabove_forks, List.length_map]; omega) (fun D hD => ?_) du38 dv38, fun H39 s39 => ?_⟩
      · obtain ⟨x, hx, rfl⟩ := List.mem_map.mp hD
        exact ab_wid (sh.2 x hx)
      have s40 := s36.trans (s37.trans (s38.trans s39))
      have sG : Same H9 H39 := sF.trans (s31.trans ((s33.trans (s34.trans s35)).trans (s37.trans (s38.trans s39))))
      refine ⟨_, rfl, iteF ?_⟩
      refine ⟨_, q0, a, xs, rfl, seq1 s40, fun l41 n41 => ⟨_, q1, ?_⟩⟩
      have s41 := same_new n41 (.lst xs)
      have da : Dp K (upd H39 l41 (.lst xs)) (.ref l41) (.list ds') := .lst (SqL.of upd_same) (dp1 (s40.trans s41))
      have db : Dp K (upd H39 l41 (.lst xs)) (.ref kp) (.list ds') := .lst (SqL.of (s41 _ _ (sG _ _ ek9))) (dp1 (s40.trans s41))
      have sd : shortD (.list ds') = true := by
        rw [shortD]
        exact (ends_short f12).1
      have dd : (PyData.list ds').depth ≤ 64 := by
        have := depthAll_of (n := 13) (fun x hx => depth_form (List.all_eq_true.mp f12 x hx))
        rw [PyData.depth]
        omega
      refine ⟨_, _, da, db, shaped_of sd dd, shaped_of sd dd, ?_⟩
      rw [SeqAt.eqv_refl _ (canLay_of _ sd)]
      exact q _ (s40.trans s41)
  · refine .inr ⟨_, rfl, a, xs, rfl, seqT_same s10 (seqT_same s19 hq), ?_⟩
    refine for_it Enu.walk_enumT (fun i σ H' => Same H9 H' ∧ σ.length = 8 ∧ σ[0]? = some (some (.ref a)) ∧ σ[1]? = some (some (.ref kp)) ∧ ∃ p q, σ[2]? = some (some (.ref p)) ∧ σ[3]? = some (some (.ref q)) ∧ H' p = some (.lst ((layE 0 0 (ds'.take i)).1.map fun r => V.int (r.1 : Nat))) ∧ H' q = some (.lst ((layE 0 0 (ds'.take i)).2.map fun r => V.int (r.1 : Nat))))
      ⟨s10, rfl, rfl, rfl, l, g, rfl, rfl, by rw [upd_ne ngl.symm, upd_same]; rfl, upd_same⟩ (fun i σ H' _ pv => by obtain ⟨s, _⟩ := pv; exact seqT_same s (seqT_same s19 hq)) (fun i x σ H11 H12 hi pv y => ?_) (fun σ H' pv => ?_)
    · obtain ⟨tt, x1, z, rfl, nt, rfl, e1, e2⟩ := y
      have ex1 : x1 = .int (i : Nat) := (Option.some.inj e1).symm
      subst ex1
      obtain ⟨d, hdd, hzd⟩ := dpAll_at hd e2
      obtain ⟨s11, gl, g0, g1, p, pq, g2, g3, ep, eq⟩ := pv
      have fd : isForm 12 d = true := List.all_eq_true.mp f12 d (List.mem_of_getElem? hdd)
      have s12' : Same H11 (upd H11 tt (.tup [.int (i : Nat), z])) := same_new nt _
      have tup12 : upd H11 tt (.tup [.int (i : Nat), z]) tt = some (.tup [.int (i : Nat), z]) := upd_same
      generalize upd H11 tt (.tup [.int (i : Nat), z]) = H12 at *
      have etk : ds'.take (i + 1) = ds'.take i ++ [d] := take_next hdd
      have snoc := layE_snoc d (ds'.take i) 0 0
      have lti : (ds'.take i).length = i := by
        rw [List.length_take]
        have := dpAll_len hd
        omega
      rw [lti] at snoc
      simp only [Nat.zero_add] at snoc
      have allT : (ds'.take (i + 1)).all (isForm 12) = true := by
        rw [List.all_eq_true]
        intro y hy
        exact List.all_eq_true.mp f12 y (List.mem_of_mem_take hy)
      have many := layE_len (ds'.take (i + 1)) allT (Nat.le_trans (flat_len lvs ds' (i + 1)) v40)
      rw [etk, snoc] at many
      simp only [List.length_append, List.length_map] at many
      have n1 : (lvs d).length = (lay (layE 0 0 (ds'.take i)).2.length [] d).1.length := by rw [← lay_leaves (f := (layE 0 0 (ds'.take i)).2.length) (ab := []) fd, List.length_map]
      have n2 : (wds d).length = (lay (layE 0 0 (ds'.take i)).2.length [] d).2.length := by rw [← lay_words (f := (layE 0 0 (ds'.take i)).2.length) (ab := []) fd, List.length_map]
      refine ⟨tt, [.int (i : Nat), z], rfl, SqT.of tup12, rfl, _, [z], rfl, z, [], rfl, rfl, ?_⟩
      have Q : ∀ (m : Nat) (v : V), m ≠ 4 → m ≠ 5 → σ[m]? = some (some v) → ((σ.set 4 (some (.int (i : Nat)))).set 5 (some z))[m]? = some (some v) := fun m v m4 m5 e => by
        rw [List.getElem?_set_ne (by omega), List.getElem?_set_ne (by omega)]
        exact e
      have q4 : ((σ.set 4 (some (.int (i : Nat)))).set 5 (some z))[4]? = some (some (.int (i : Nat))) := by
        rw [List.getElem?_set_ne (by omega), List.getElem?_set_self (by omega)]
      have q5 : ((σ.set 4 (some (.int (i : Nat)))).set 5 (some z))[5]? = some (some z) := by
        rw [List.getElem?_set_self (by rw [List.length_set]; omega)]
      have dz : Dp K H z d := hzd
      have sH11 : Same H H11 := s19.trans s11
      refine ⟨_, Q 2 _ (by decide) (by decide) g2, _, q4, le1k, fun n3 H13 s13 e13 => ⟨_, q5, z, 12, d, rfl, by omega, dp_same (sH11.trans (s12'.trans s13)) _ _ dz, fd, by omega, fun H14 p14 us14 s14 e14 d14 => ⟨_, _, rfl, .inl ⟨us14, SqL.of e14, rfl⟩, ?_⟩⟩⟩
      have l14 := dpAll_len d14
      refine ⟨n3, _, _, rfl, rfl, s14 _ _ e13, by omega, by omega, ?_, fun p15 np15 => ?_⟩
      · refine fit1000 ?_
        simp only [List.length_cons, List.length_nil]
        omega
      rw [Int.toNat_natCast, rep_flat]
      have s15' := same_new np15 (.lst (List.replicate us14.length (V.int (i : Nat))))
      have e15 : upd H14 p15 (.lst (List.replicate us14.length (V.int (i : Nat)))) p15 = some (.lst (List.replicate us14.length (V.int (i : Nat)))) := upd_same
      generalize upd H14 p15 (.lst (List.replicate us14.length (V.int (i : Nat)))) = H15 at *
      have s1115 : Same H11 H15 := s12'.trans (s13.trans (s14.trans s15'))
      refine ⟨p, p15, _, _, rfl, rfl, s1115 _ _ ep, e15, by rw [List.length_map, List.length_replicate]; omega, fun l16 H16 s16' e16 => ?_⟩
      have s1116 := s1115.trans s16'
      have l2 : (((σ.set 4 (some (V.int (i : Nat)))).set 5 (some z)).set 2 (some (.ref l16))).length = 8 := by rw [List.length_set, List.length_set, List.length_set]; exact gl
      have Q2 : ∀ (m : Nat) (v : V), m ≠ 2 → ((σ.set 4 (some (.int (i : Nat)))).set 5 (some z))[m]? = some (some v) → (((σ.set 4 (some (V.int (i : Nat)))).set 5 (some z)).set 2 (some (.ref l16)))[m]? = some (some v) := fun m v m2 e => by
        rw [List.getElem?_set_ne (by omega)]
        exact e
      refine ⟨_, Q2 3 _ (by decide) (Q 3 _ (by decide) (by decide) g3), _, Q2 4 _ (by decide) q4, le1k, fun n17 H17 s17 e17 => ⟨_, Q2 5 _ (by decide) q5, z, 12, d, rfl, by omega, dp_same (sH11.trans (s1116.trans s17)) _ _ dz, fd, by omega, fun H18 p18 s18 e18 => ⟨_, _, rfl, .inl ⟨_, SqL.of e18, rfl⟩, ?_⟩⟩⟩
      rw [List.length_map]
      refine ⟨n17, _, _, rfl, rfl, s18 _ _ e17, by omega, by omega, ?_, fun p19 np19 => ?_⟩
      · refine fit1000 ?_
        simp only [List.length_cons, List.length_nil]
        omega
      rw [Int.toNat_natCast, rep_flat]
      have s19' := same_new np19 (.lst (List.replicate (wds d).length (V.int (i : Nat))))
      have e19 : upd H18 p19 (.lst (List.replicate (wds d).length (V.int (i : Nat)))) p19 = some (.lst (List.replicate (wds d).length (V.int (i : Nat)))) := upd_same
      generalize upd H18 p19 (.lst (List.replicate (wds d).length (V.int (i : Nat)))) = H19 at *
      have s1619 : Same H16 H19 := s17.trans (s18.trans s19')
      refine ⟨pq, p19, _, _, rfl, rfl, (s1116.trans s1619) _ _ eq, e19, by rw [List.length_map, List.length_replicate]; omega, fun l20 H20 s20 e20 => ?_⟩
      have s1120 := s1116.trans (s1619.trans s20)
      refine ⟨s11.trans s1120, by rw [List.length_set]; exact l2, ?_, ?_, l16, l20, ?_, ?_, ?_, ?_⟩
      · rw [List.getElem?_set_ne (by omega)]
        exact Q2 0 _ (by decide) (Q 0 _ (by decide) (by decide) g0)
      · rw [List.getElem?_set_ne (by omega)]
        exact Q2 1 _ (by decide) (Q 1 _ (by decide) (by decide) g1)
      · rw [List.getElem?_set_ne (by omega), List.getElem?_set_self (by rw [List.length_set, List.length_set]; omega)]
      · rw [List.getElem?_set_self (by omega)]
      · rw [(s1619.trans s20) _ _ e16, etk, snoc, List.map_append, nums_snoc, ← n1, l14]
      · rw [e20, etk, snoc, List.map_append, nums_snoc, ← n2]
    · obtain ⟨s11, gl, g0, g1, p, pq, g2, g3, ep, eq⟩ := pv
      have ltk : ds'.take xs.length = ds' := List.take_of_length_le (by have := dpAll_len hd; omega)
      rw [ltk] at ep eq
      have s21 := s19.trans s11
      have len40 := layE_len ds' f12 v40
      refine ⟨_, g0, ?_⟩
      refine view_ok (seq1 s21) (dp1 s21) he fun H22 u22 s22 du22 => ?_
      refine ⟨_, g2, p, _, rfl, .inl ⟨SqL.of (s22 _ _ ep), fun l23 n23 => ?_⟩⟩
      have s23 := same_new n23 (.tup ((layE 0 0 ds').1.map fun r => V.int (r.1 : Nat)))
      have du23 := dp_same s23 _ _ du22
      have dv23 : Dp K (upd H22 l23 (.tup ((layE 0 0 ds').1.map fun r => V.int (r.1 : Nat)))) (.ref l23) (.tuple (outleaf_ends ds')) := .tup (SqT.of upd_same) (dpAll_nums (fun r : Nat × (PyData × Ab) => r.1) _)
      refine ⟨_, _, rfl, tw_tup (by rw [outleaf_ends, List.length_map]; omega) (fun D hD => ?_) du23 dv23, fun H24 s24 => ?_⟩
      · obtain ⟨x, _, rfl⟩ := List.mem_map.mp hD
        exact ⟨rfl, by simp [PyData.depth]⟩
      refine ⟨_, rfl, iteF ⟨_, g0, ?_⟩⟩
      have s29 := s21.trans (s22.trans (s23.trans s24))
      refine view_ok (seq1 s29) (dp1 s29) he fun H25 u25 s25 du25 => ?_
      refine ⟨_, g3, pq, _, rfl, .inl ⟨SqL.of ((s22.trans (s23.trans (s24.trans s25))) _ _ eq), fun l26 n26 => ?_⟩⟩
      have s26 := same_new n26 (.tup ((layE 0 0 ds').2.map fun r => V.int (r.1 : Nat)))
      have du26 := dp_same s26 _ _ du25
      have dv26 : Dp K (upd H25 l26 (.tup ((layE 0 0 ds').2.map fun r => V.int (r.1 : Nat)))) (.ref l26) (.tuple (outfork_ends ds')) := .tup (SqT.of upd_same) (dpAll_nums (fun r : Nat × (Str × Ab) => r.1) _)
      refine ⟨_, _, rfl, tw_tup (by rw [outfork_ends, List.length_map]; omega) (fun D hD => ?_) du26 dv26, fun H27 s27 => ?_⟩
      · obtain ⟨x, _, rfl⟩ := List.mem_map.mp hD
        exact ⟨rfl, by simp [PyData.depth]⟩
      have s30 := s29.trans (s25.trans (s26.trans s27))
      have sF := s11.trans ((s22.trans (s23.trans s24)).trans (s25.trans (s26.trans s27)))
      refine ⟨_, rfl, iteF ?_⟩
      refine ⟨_, g0, a, xs, ds', rfl, seq1 s30, dp1 s30, f12, v40, fun H31 t31 l31 g31 us ws s31 tt31 el31 eg31 du31 dw31 => ?_⟩
      refine ⟨t31, [.ref l31, .ref g31], rfl, tt31, rfl, _, [.ref g31], rfl, .ref g31, [], rfl, rfl, ?_⟩
      have Q : ∀ (m : Nat) (v : V), m ≠ 6 → m ≠ 7 → σ[m]? = some (some v) → ((σ.set 6 (some (.ref l31))).set 7 (some (.ref g31)))[m]? = some (some v) := fun m v m4 m5 e => by
        rw [List.getElem?_set_ne (by omega), List.getElem?_set_ne (by omega)]
        exact e
      have q6 : ((σ.set 6 (some (.ref l31))).set 7 (some (.ref g31)))[6]? = some (some (.ref l31)) := by
        rw [List.getElem?_set_ne (by omega), List.getElem?_set_self (by omega)]
      have q7 : ((σ.set 6 (some (.ref l31))).set 7 (some (.ref g31)))[7]? = some (some (.ref g31)) := by
        rw [List.getElem?_set_self (by rw [List.length_set]; omega)]
      have q0 := Q 0 _ (by decide) (by decide) g0
      have q1 := Q 1 _ (by decide) (by decide) g1
      have lus := dpAll_len du31
      have lws := dpAll_len dw31
      rw [List.length_map] at lus lws
      have sh := layE_short ds' 0 0 f12
      have s32 := s30.trans s31
      refine ⟨_, q0, ?_⟩
      refine view_ok (seq1 s32) (dp1 s32) he fun H33 u33 s33 du33 => ?_
      refine ⟨_, q6, l31, us, rfl, .inl ⟨SqL.of (s33 _ _ el31), fun l34 n34 => ?_⟩⟩
      have s34 := same_new n34 (.tup us)
      have du34 := dp_same s34 _ _ du33
      have dv34 : Dp K (upd H33 l34 (.tup us)) (.ref l34) (.tuple (outabove_leaves ds')) := .tup (SqT.of upd_same) (dpAll_same (s33.trans s34) _ _ du31)
      refine ⟨_, _, rfl, tw_tup (by rw [outabove_leaves, List.length_map]; omega) (fun D hD => ?_) du34 dv34, fun H35 s35 => ?_⟩
      · obtain ⟨x, hx, rfl⟩ := List.mem_map.mp hD
        exact ab_wid (sh.1 x hx)
      have s36 := s32.trans (s33.trans (s34.trans s35))
      refine ⟨_, rfl, iteF ⟨_, q0, ?_⟩⟩
      refine view_ok (seq1 s36) (dp1 s36) he fun H37 u37 s37 du37 => ?_
      refine ⟨_, q7, g31, ws, rfl, .inl ⟨SqL.of ((s33.trans (s34.trans (s35.trans s37))) _ _ eg31), fun l38 n38 => ?_⟩⟩
      have s38 := same_new n38 (.tup ws)
      have du38 := dp_same s38 _ _ du37
      have dv38 : Dp K (upd H37 l38 (.tup ws)) (.ref l38) (.tuple (outabove_forks ds')) := .tup (SqT.of upd_same) (dpAll_same (s33.trans (s34.trans (s35.trans (s37.trans s38)))) _ _ dw31)
      refine ⟨_, _, rfl, tw_tup (by rw [outabove_forks, List.length_map]; omega) (fun D hD => ?_) du38 dv38, fun H39 s39 => ?_⟩
      · obtain ⟨x, hx, rfl⟩ := List.mem_map.mp hD
        exact ab_wid (sh.2 x hx)
      have s40 := s36.trans (s37.trans (s38.trans s39))
      have sG : Same H9 H39 := sF.trans (s31.trans ((s33.trans (s34.trans s35)).trans (s37.trans (s38.trans s39))))
      refine ⟨_, rfl, iteF ?_⟩
      refine ⟨_, q0, a, xs, rfl, seq1 s40, fun l41 n41 => ⟨_, q1, ?_⟩⟩
      have s41 := same_new n41 (.lst xs)
      have da : Dp K (upd H39 l41 (.lst xs)) (.ref l41) (.list ds') := .lst (SqL.of upd_same) (dp1 (s40.trans s41))
      have db : Dp K (upd H39 l41 (.lst xs)) (.ref kp) (.list ds') := .lst (SqL.of (s41 _ _ (sG _ _ ek9))) (dp1 (s40.trans s41))
      have sd : shortD (.list ds') = true := by
        rw [shortD]
        exact (ends_short f12).1
      have dd : (PyData.list ds').depth ≤ 64 := by
        have := depthAll_of (n := 13) (fun x hx => depth_form (List.all_eq_true.mp f12 x hx))
        rw [PyData.depth]
        omega
      refine ⟨_, _, da, db, shaped_of sd dd, shaped_of sd dd, ?_⟩
      rw [SeqAt.eqv_refl _ (canLay_of _ sd)]
      exact q _ (s40.trans s41)
end
end My

set_option Elab.async false
set_option linter.all false
set_option maxRecDepth 100000
namespace My
open PySem L2
/-- just 12 deep, and how many leaves there are -/
def spDeepL (K : PySem.W.Frag) : Sp := fun vs H Q _ => ∃ (v : V) (D : PyData) (t : Nat), vs = [v, .int t] ∧ 12 ≤ t ∧ t ≤ 2000 ∧ Dp K H v D ∧ isForm 12 D = true ∧ ∀ v' D' H', Dp K H' v' D' → Deep t D' → (lvs D').length ≤ (lvs D).length + t → Same H H' → Q v' H'
section
variable {P : Program} {w : World} {K : PySem.W.Frag} {mg : Str → Option Value} {base : Heap} {f : Addr} {fd : FuncData}
theorem ok_law_deepL (T : Txt K mg) (F : Fun K "_law_deeper" "_law_deeper" s_law_deeper f fd) (C_law_depth : Cal P w K mg base "_law_depth" 13 ["_law_form"] (spDepth K 13)) : FnOk P w K mg base CX0 14 f fd P_law_deeper (spDeepL K) := by
  refine F.ok sc_law_deeper (fun vs H Q E h => ?_) (fun cdv A outer s H vs Q E hr h => ?_)
  · obtain ⟨v, D, t, rfl, _⟩ := h
    rfl
  obtain ⟨v, D, t, rfl, h12, ht, hv, hD, q⟩ := h
  refine ⟨_, (pss_cons (ps_for PassesOwn.never rfl (pi_range1 rfl T.range (pa_cons (pe_op op_sub (pv 1) (pe_callC C_law_depth hr (pa_cons (pv 0) pa_nil))) pa_nil)) (pg_name (i := 2) sc_law_deeper.nd rfl (Or.inl rfl))
    (pss_one (ps_set (i := 0) sc_law_deeper.nd rfl (Or.inl rfl) (pe_ifExp (pt_cmpR op_eq (pe_op op_mod (pe_callTy call_int1 rfl T.int (by decide +kernel) (pa_cons (pv 2) pa_nil)) pe_int) pe_int (nomark _)) (pe_tup (pa_cons pe_str (pa_cons (pv 0) (pa_cons (pe_tup (pa_cons pe_str (pa_cons pe_str pa_nil))) pa_nil)))) (pe_tup (pa_cons pe_str (pa_cons (pe_tup (pa_cons pe_str (pa_cons pe_str pa_nil))) (pa_cons (pv 0) pa_nil))))))))
  (pss_one (ps_ret (pv 0)))), ?_⟩
  refine ⟨_, rfl, _, rfl, v, D, 12, rfl, by omega, hv, hD, fun j H1 hj dj S1 => ?_⟩
  refine ⟨_, _, rfl, rfl, (t : Int) - (j : Int), rfl, by omega, by omega, ?_⟩
  refine for_range (lo := 0) (n := ((t : Int) - (j : Int)).toNat) (fun i σ H' => Same H H' ∧ ∃ v' x D', σ = [some v', some (.int t), x] ∧ Dp K H' v' D' ∧ Deep (j + i) D' ∧ (lvs D').length ≤ (lvs D).length + i) ⟨S1, v, none, D, rfl, dp_same S1 _ _ hv, dj, Nat.le_refl _⟩
    (fun i σ H2 hi ⟨S2, v', x, D', eσ, hv', dv, lv⟩ => ?_) (fun σ H2 ⟨S2, v', x, D', eσ, hv', dv, lv⟩ => ?_)
  · subst eσ
    refine ⟨_, rfl, .inl ⟨_, rfl, _, _, rfl, rfl, (by show (0 : Int) < 2; decide), rfl, _, rfl, ?_⟩⟩
    have hn : isName (Str.ofString "a") = true := by decide +kernel
    have hn2 : isName (Str.ofString "b") = true := by decide +kernel
    refine ite2 (fun c => ?_) (fun c => ?_)
    · refine ⟨_, rfl, by show 2 ≤ sizeLine; decide, fun p1 n1 => ⟨by show 3 ≤ sizeLine; decide, fun p2 n2 => ?_⟩⟩
      have S3 := same_new n1 (.tup [.str (Str.ofString "good"), .str (Str.ofString "a")])
      have S4 := S3.trans (same_new n2 (.tup [.str (Str.ofString "both"), v', .ref p1]))
      refine ⟨S2.trans S4, .ref p2, _, .tuple [.str (Str.ofString "both"), D', .tuple [.str (Str.ofString "good"), .str (Str.ofString "a")]], rfl, .tup (SqT.of upd_same) (.cons (.str _) (.cons (dp_same S4 _ _ hv') (.cons (.tup (SqT.of (same_new n2 _ _ _ upd_same)) (.cons (.str _) (.cons (.str _) .nil))) .nil))), ?_, ?_⟩
      · exact deep_node (x := j + i) (y := 0) (m := j + i) (by decide +kernel) dv (deep_leaf (by decide +kernel) hn) (.inl rfl) (by omega) (by omega)
      · rw [lvs3, lvs2, List.length_append, List.length_singleton]
        omega
    · refine ⟨by show 2 ≤ sizeLine; decide, fun p1 n1 => ⟨_, rfl, by show 3 ≤ sizeLine; decide, fun p2 n2 => ?_⟩⟩
      have S3 := same_new n1 (.tup [.str (Str.ofString "counter"), .str (Str.ofString "b")])
      have S4 := S3.trans (same_new n2 (.tup [.str (Str.ofString "chosen"), .ref p1, v']))
      refine ⟨S2.trans S4, .ref p2, _, .tuple [.str (Str.ofString "chosen"), .tuple [.str (Str.ofString "counter"), .str (Str.ofString "b")], D'], rfl, .tup (SqT.of upd_same) (.cons (.str _) (.cons (.tup (SqT.of (same_new n2 _ _ _ upd_same)) (.cons (.str _) (.cons (.str _) .nil))) (.cons (dp_same S4 _ _ hv') .nil))), ?_, ?_⟩
      · exact deep_node (x := 0) (y := j + i) (m := j + i) (by decide +kernel) (deep_leaf (by decide +kernel) hn2) dv (.inr rfl) (by omega) (by omega)
      · rw [lvs3, lvs2, List.length_append, List.length_singleton]
        omega
  · subst eσ
    have e : j + ((t : Int) - (j : Int)).toNat = t := by omega
    rw [e] at dv
    exact ⟨_, rfl, q v' D' H2 hv' dv (by omega) S2⟩
end
abbrev slaw : Stmt := top 61
abbrev Nlaw : List Str := ["_law_script", "_law_pen", "_law_ends", "_law_some"]
abbrev Plaw : List Str := ["_law_script"]
theorem sclaw : FnScope Nlaw Plaw (defScope slaw) := ⟨rfl, rfl, rfl, by decide +kernel, rfl, by decide +kernel, by decide +kernel⟩
def spLaw (K : PySem.W.Frag) (Pt : Addr) : Sp := fun vs H Q _ => ∃ (a : Addr) (ns : List Int), vs = [.ref a] ∧ SqL K H a (ns.map V.int) ∧ ns.length ≤ 63 ∧ LamX.Tabs [(Pt, lamQ)] H ∧ ∀ H', Q (.bl true) H'
section
variable {P : Program} {w : World} {K : PySem.W.Frag} {mg : Str → Option Value} {base : Heap} {f : Addr} {fd : FuncData}
theorem ok_law {Pt : Addr} (T : Txt7 K mg) (F : Fun K "law" "law" slaw f fd) (C_law_begin : Cal P w K mg base "_law_begin" 1 P_law_begin (spBegin K)) (C_law_some_ends : Cal P w K mg base "_law_some_ends" 16 P_law_some_ends (spSomeEnds K)) (C_law_deeper : Cal P w K mg base "_law_deeper" 14 P_law_deeper (spDeepL K))
    (C_law_all_told : Cal P w K mg base "_law_all_told" 68 P_law_all_told (spAllTold K)) (C_law_refuses : Cal P w K mg base "_law_refuses" 92 P_law_refuses (spRefuses K Pt)) : FnOk P w K mg base CX0 93 f fd Plaw (spLaw K Pt) := by
  refine F.ok sclaw (fun vs H Q E h => ?_) (fun cdv A outer s H vs Q E hr h => ?_)
  · obtain ⟨a, ns, rfl, _⟩ := h
    rfl
  obtain ⟨a, ns, rfl, hS, h63, tabs, q⟩ := h
  refine ⟨_, (pss_cons (ps_set (i := 1) sclaw.nd rfl (Or.inl rfl) (pe_callC C_law_begin hr (pa_cons (pv 0) pa_nil)))
  (pss_cons (ps_set (i := 2) sclaw.nd rfl (Or.inl rfl) (pe_callC C_law_some_ends hr (pa_cons (pv 1) (pa_cons pe_int (pa_cons pe_int pa_nil)))))
  (pss_cons (ps_for PassesOwn.never rfl (pi_list (pe_lst (pa_cons (pv 2) (pa_cons (pe_callTy call_tuple_of rfl T.tuple (by decide +kernel) (pa_cons (pv 2) pa_nil)) (pa_cons (pe_callC C_law_some_ends hr (pa_cons (pv 1) (pa_cons pe_int (pa_cons pe_int pa_nil)))) (pa_cons (pe_lst (pa_cons (pe_callC C_law_deeper hr (pa_cons (pe_tup (pa_cons pe_str (pa_cons pe_str pa_nil))) (pa_cons pe_int pa_nil))) pa_nil)) pa_nil)))))) (pg_name (i := 3) sclaw.nd rfl (Or.inl rfl))
    (pss_one (ps_if (pt_not (pt_val (pe_callC C_law_all_told hr (pa_cons (pv 3) pa_nil))))
      (pss_one (ps_ret pe_bl))
      pss_nil)))
  (pss_one (ps_ret (pe_callC C_law_refuses hr (pa_cons (pv 1) (pa_cons (pv 2) pa_nil)))))))), ?_⟩
  refine ⟨_, rfl, a, ns, rfl, hS, h63, fun d L H1 S1 p1 => ?_⟩
  refine ⟨_, rfl, d, L, ns, 0, 40, 8, rfl, p1, by decide, by decide, by decide, by decide, by decide, fun e us ds H2 k2 p2 e2 d2 ie => ?_⟩
  have kd1 := p1.isDk
  have kd2 := p2.isDk
  have tabs2 : LamX.Tabs [(Pt, lamQ)] H2 := tabs_keep kd1 k2 (tabs.ext S1)
  refine ⟨_, rfl, _, rfl, e, us, rfl, .inl ⟨SqL.of e2, fun t3 n3 => ?_⟩⟩
  have s3 := same_new n3 (.tup us)
  have e3 : upd H2 t3 (.tup us) t3 = some (.tup us) := upd_same
  generalize upd H2 t3 (.tup us) = H3 at *
  have p3 := p2.same s3
  refine ⟨_, rfl, d, L, ns, _, 9, 8, rfl, p3, by decide, by decide, by decide, by decide, by decide, fun e4 us4 ds4 H4 k4 p4 ee4 d4 ie4 => ?_⟩
  have kd3 := p3.isDk
  have kd4 := p4.isDk
  have nad : ∀ {b : Addr} {xs : List V}, H3 b = some (.lst xs) → b ≠ d := fun h z => by
    obtain ⟨kvs, hd⟩ := kd3
    rw [z, hd] at h
    cases h
  refine ⟨by show 2 ≤ sizeLine; decide, fun t5 n5 => ?_⟩
  have s5 := same_new n5 (.tup [.str (Str.ofString "good"), .str (Str.ofString "c")])
  have e5 : upd H4 t5 (.tup [.str (Str.ofString "good"), .str (Str.ofString "c")]) t5 = some (.tup [.str (Str.ofString "good"), .str (Str.ofString "c")]) := upd_same
  generalize upd H4 t5 (.tup [.str (Str.ofString "good"), .str (Str.ofString "c")]) = H5 at *
  refine ⟨.ref t5, .tuple [.str (Str.ofString "good"), .str (Str.ofString "c")], 12, rfl, by decide, by decide, .tup (SqT.of e5) (.cons (.str _) (.cons (.str _) .nil)), isForm_leaf _ (by decide +kernel) (by decide +kernel), fun v6 D6 H6 dp6 deep6 lv6 s6 => ?_⟩
  rw [lvs2] at lv6
  refine ⟨by show 1 ≤ sizeLine; decide, fun l7 n7 => ⟨by show 4 ≤ sizeLine; decide, fun l8 n8 => ?_⟩⟩
  have s7 := same_new n7 (.lst [v6])
  have e7 : upd H6 l7 (.lst [v6]) l7 = some (.lst [v6]) := upd_same
  generalize upd H6 l7 (.lst [v6]) = H7 at *
  have s8 := same_new n8 (.lst [.ref e, .ref t3, .ref e4, .ref l7])
  have e8 : upd H7 l8 (.lst [.ref e, .ref t3, .ref e4, .ref l7]) l8 = some (.lst [.ref e, .ref t3, .ref e4, .ref l7]) := upd_same
  generalize upd H7 l8 (.lst [.ref e, .ref t3, .ref e4, .ref l7]) = H8 at *
  have s48 : Same H4 H8 := s5.trans (s6.trans (s7.trans s8))
  have s68 : Same H6 H8 := s7.trans s8
  have k38 : Keep d H3 H8 := k4.trans (Same.toKeep s48)
  have he : H8 e = some (.lst us) := s48 _ _ (k4 _ _ (nad (s3 _ _ e2)) (s3 _ _ e2))
  have hd : DpAll K H8 us ds := dpAll_keep kd3 k38 _ _ (dpAll_same s3 _ _ d2)
  have all : ∀ v ∈ [V.ref e, .ref t3, .ref e4, .ref l7], ∃ (a : Addr) (xs : List V) (Ds : List PyData), v = .ref a ∧ (SqL K H8 a xs ∨ SqT K H8 a xs) ∧ DpAll K H8 xs Ds ∧ isEnds (.list Ds) = true := by
    intro v hv
    simp only [List.mem_cons, List.not_mem_nil, or_false] at hv
    rcases hv with rfl | rfl | rfl | rfl
    · exact ⟨_, us, ds, rfl, .inl (SqL.of he), hd, ie⟩
    · refine ⟨_, us, ds, rfl, .inr (SqT.of ?_), hd, ie⟩
      refine k38 _ _ (fun z => ?_) e3
      obtain ⟨kvs, hd⟩ := kd3
      rw [z, hd] at e3
      cases e3
    · exact ⟨_, us4, ds4, rfl, .inl (SqL.of (s48 _ _ ee4)), dpAll_same s48 _ _ d4, ie4⟩
    · refine ⟨_, [v6], [D6], rfl, .inl (SqL.of (s8 _ _ e7)), .cons (dp_same s68 _ _ dp6) .nil, ?_⟩
      show (decide (1 ≤ 1) && decide (1 ≤ 40) && (isForm 12 D6 && true) && decide _) = true
      rw [deep6.1, decide_eq_true (show ([D6].flatMap lvs).length ≤ 40 by simp only [List.flatMap_cons, List.flatMap_nil, List.append_nil]; simp only [List.length_singleton] at lv6; omega)]
      rfl
  refine ⟨l8, rfl, ⟨_, SqL.of e8⟩, ?_⟩
  refine for_it walk_list (fun i σ H' => Same H8 H' ∧ σ.length = 4 ∧ σ[1]? = some (some (.ref d)) ∧ σ[2]? = some (some (.ref e))) ⟨fun _ _ z => z, rfl, rfl, rfl⟩ (fun i σ H' _ pv => SqL.of (pv.1 _ _ e8)) (fun i x σ H9 H10 hi pv y => ?_) (fun σ H' pv => ?_)
  · obtain ⟨rfl, hx⟩ := y
    obtain ⟨s9, gl, g1, g2⟩ := pv
    obtain ⟨b, xs, Ds, rfl, hq, hD, hE⟩ := all x (List.mem_of_getElem? hx)
    refine ⟨_, by rw [List.getElem?_set_self (by omega)], b, xs, Ds, rfl, hq.imp s9.seq (fun t => seqT_same s9 t), dpAll_same s9 _ _ hD, hE, fun H11 s11 => ⟨_, rfl, iteF ?_⟩⟩
    exact ⟨s9.trans s11, by rw [List.length_set]; exact gl, by rw [List.getElem?_set_ne (by omega)]; exact g1, by rw [List.getElem?_set_ne (by omega)]; exact g2⟩
  · obtain ⟨s9, gl, g1, g2⟩ := pv
    refine ⟨_, g1, _, g2, d, L, e, ns, _, us, ds, rfl, (p4.same s48).same s9, by decide, s9 _ _ he, dpAll_same s9 _ _ hd, ie, (tabs_keep kd3 k38 (tabs2.ext s3)).ext s9, fun H11 => q H11⟩
end
end My

set_option Elab.async false
set_option linter.all false
set_option maxRecDepth 100000
namespace My
open PySem L2
section
variable {P : Program} {w : World} {K : PySem.W.Frag} {mg : Str → Option Value} {base : Heap} {f : Addr} {fd : FuncData}
theorem vac {C : CXT} {k : Nat} {ps : List Str} {sp : Sp} (no : ∀ vs H Q E, ¬ sp vs H Q E) : FnOk P w K mg base C k f fd ps sp :=
  ⟨fun vs H Q E h => absurd h (no vs H Q E), fun A outer s H args us vs Q E _ _ _ _ h => absurd h (no vs H Q E)⟩
theorem all_fits_form (T : Txt K mg) (F : Fun K "fits_form" "fits_form" sfits_form f fd) (b : Binds K fd Pfits_form []) (m : mg "fits_form" = some (.ref f)) (C : Cal P w K mg base "fits_name" 2 ["value"] (spName K)) : ∀ n : Nat, FnOk P w K mg base CX0 (2 + n) f fd Pfits_form (spForm K n)
  | 0 => vac fun vs H Q E ⟨_, k, _, h, _⟩ => Nat.not_lt_zero k h
  | n + 1 => ok_fits_form T F C ⟨f, fd, all_fits_form T F b m C n, m, F.kp, b⟩
theorem all_leaf_count (F : Fun K "leaf_count" "leaf_count" sleaf_count f fd) (b : Binds K fd Pleaf_count []) (m : mg "leaf_count" = some (.ref f)) (C : Cal P w K mg base "is_leaf" 1 Pis_leaf (spIsLeaf K)) : ∀ n : Nat, FnOk P w K mg base CX0 (1 + n) f fd Pleaf_count (spLeafCount K n)
  | 0 => vac fun vs H Q E ⟨_, k, _, _, h, _⟩ => Nat.not_lt_zero k h
  | n + 1 => okleaf_count F C ⟨f, fd, all_leaf_count F b m C n, m, F.kp, b⟩
theorem all_laid {CP CL fI : Addr} {fdI : FuncData} (T : Txt7 K mg) (L : LaTxt K mg CP CL fI f) (F : Fun K "laid" "Layout.laid" slaid f fd) (GI : FnOk P w K mg base CX0 1 fI fdI NPlaceI (spPlaceI K CP)) (bI : Binds K fdI NPlaceI []) (C : Cal P w K mg base "is_leaf" 1 Pis_leaf (spIsLeaf K)) (bL : Binds K fd Plaid []) : ∀ n : Nat, FnOk P w K mg base CX0 (2 + n) f fd Plaid (spLaid K CP CL n)
  | 0 => vac fun vs H Q E ⟨_, _, _, _, _, _, _, _, _, _, _, _, k, _, _, _, _, _, h, _⟩ => Nat.not_lt_zero k h
  | n + 1 => oklaid T L F GI bI C (all_laid T L F GI bI C bL n) bL
theorem all_law_leaves (T : Txt7 K mg) (F : Fun K "_law_leaves" "_law_leaves" s_law_leaves f fd) (b : Binds K fd P_law_leaves []) (m : mg "_law_leaves" = some (.ref f)) : ∀ n : Nat, FnOk P w K mg base CX0 n f fd P_law_leaves (spLvs K n)
  | 0 => vac fun vs H Q E ⟨_, k, _, _, h, _⟩ => Nat.not_lt_zero k h
  | n + 1 => ok_law_leaves T F ⟨f, fd, all_law_leaves T F b m n, m, F.kp, b⟩
theorem all_law_forks (T : Txt7 K mg) (F : Fun K "_law_forks" "_law_forks" s_law_forks f fd) (b : Binds K fd P_law_forks []) (m : mg "_law_forks" = some (.ref f)) : ∀ n : Nat, FnOk P w K mg base CX0 n f fd P_law_forks (spWds K n)
  | 0 => vac fun vs H Q E ⟨_, k, _, _, h, _⟩ => Nat.not_lt_zero k h
  | n + 1 => ok_law_forks T F ⟨f, fd, all_law_forks T F b m n, m, F.kp, b⟩
theorem all_law_above (T : Txt7 K mg) (F : Fun K "_law_above" "_law_above" s_law_above f fd) (b : Binds K fd P_law_above []) (m : mg "_law_above" = some (.ref f)) : ∀ n : Nat, FnOk P w K mg base CX0 n f fd P_law_above (spAbove K n)
  | 0 => vac fun vs H Q E ⟨_, _, _, _, k, _, _, _, _, _, _, h, _⟩ => Nat.not_lt_zero k h
  | n + 1 => ok_law_above T F ⟨f, fd, all_law_above T F b m n, m, F.kp, b⟩
theorem all_law_unforked (T : Txt7 K mg) (F : Fun K "_law_unforked" "_law_unforked" s_law_unforked f fd) (b : Binds K fd P_law_unforked []) (m : mg "_law_unforked" = some (.ref f)) : ∀ n : Nat, FnOk P w K mg base CX0 n f fd P_law_unforked (spUnforked K n)
  | 0 => vac fun vs H Q E ⟨_, _, k, _, _, h, _⟩ => Nat.not_lt_zero k h
  | n + 1 => ok_law_unforked T F ⟨f, fd, all_law_unforked T F b m n, m, F.kp, b⟩
theorem all_law_same (T : Txt K mg) (zip : mg "zip" = none) (F : Fun K "_law_same" "_law_same" s_law_same f fd) (b : Binds K fd P_law_same []) (m : mg "_law_same" = some (.ref f)) : ∀ n : Nat, FnOk P w K mg base CX0 (1 + n) f fd P_law_same (spSame K n)
  | 0 => vac fun vs H Q E ⟨_, _, _, h, _⟩ => h
  | n + 1 => ok_law_same T zip F ⟨f, fd, all_law_same T zip F b m n, m, F.kp, b⟩
theorem all_law_is_form (T : Txt K mg) (F : Fun K "_law_is_form" "_law_is_form" s_law_is_form f fd) (b : Binds K fd P_law_is_form []) (m : mg "_law_is_form" = some (.ref f)) (C : Cal P w K mg base "_law_is_name" 2 ["_law_value"] (spName K)) : ∀ n : Nat, FnOk P w K mg base CX0 (2 + n) f fd P_law_is_form (spFormL K n)
  | 0 => vac fun vs H Q E ⟨_, k, _, _, h, _⟩ => Nat.not_lt_zero k h
  | n + 1 => ok_law_is_form T F C ⟨f, fd, all_law_is_form T F b m C n, m, F.kp, b⟩
theorem all_law_depth (T : Txt K mg) (F : Fun K "_law_depth" "_law_depth" s_law_depth f fd) (b : Binds K fd P_law_depth []) (m : mg "_law_depth" = some (.ref f)) : ∀ n : Nat, FnOk P w K mg base CX0 n f fd P_law_depth (spDepth K n)
  | 0 => vac fun vs H Q E ⟨_, _, k, _, h, _⟩ => Nat.not_lt_zero k h
  | n + 1 => ok_law_depth T F ⟨f, fd, all_law_depth T F b m n, m, F.kp, b⟩
theorem all_law_shape (T : Txt K mg) (F : Fun K "_law_shape" "_law_shape" s_law_shape f fd) (b : Binds K fd P_law_shape []) (m : mg "_law_shape" = some (.ref f)) (C1 : Cal P w K mg base "_law_draw" 1 P_law_draw (spDraw K)) (C2 : Cal P w K mg base "_law_pick" 2 P_law_pick (spPick K)) : ∀ n : Nat, FnOk P w K mg base CX0 (2 + n) f fd P_law_shape (spShape K n)
  | 0 => vac fun vs H Q E ⟨_, _, _, _, _, _, _, t, _, h, _⟩ => Nat.not_lt_zero t h
  | n + 1 => ok_law_shape T F C1 C2 ⟨f, fd, all_law_shape T F b m C1 C2 n, m, F.kp, b⟩
theorem all_law_bent (T : Txt K mg) (F : Fun K "_law_bent" "_law_bent" s_law_bent f fd) (b : Binds K fd P_law_bent []) (m : mg "_law_bent" = some (.ref f)) (C1 : Cal P w K mg base "_law_draw" 1 P_law_draw (spDraw K)) (C2 : Cal P w K mg base "_law_pick" 2 P_law_pick (spPick K)) (C3 : Cal P w K mg base "_law_bent_name" 3 P_law_bent_name (spBentName K)) : ∀ n : Nat, FnOk P w K mg base CX0 (3 + n) f fd P_law_bent (spBent K n)
  | 0 => vac fun vs H Q E ⟨_, _, _, _, _, _, k, _, h, _⟩ => Nat.not_lt_zero k h
  | n + 1 => ok_law_bent T F C1 C2 C3 ⟨f, fd, all_law_bent T F b m C1 C2 C3 n, m, F.kp, b⟩
end
/-- whether an error of the class at A is what «except B» names -/
theorem exm_two {K : PySem.W.Frag} {A B : Addr} {b : Bool} (h1 : PySem.W.subIn K (.ref B) (.type "BaseException") = some true) (h2 : PySem.W.isClsIn K B = true) (h3 : PySem.W.typeIn K (.ref B) = some (.type "type")) (h4 : PySem.W.subIn K (.ref A) (.ref B) = some b) : PySem.W.exmOne K (.ref A) (.ref B) = some b := by
  have e1 : (PySem.W.subIn K (.ref B) (.type "BaseException") == some true) = true := by rw [h1] <;> rfl
  have e2 : ((PySem.W.clsIn K B).isSome && PySem.W.typeIn K (.ref B) == some (.type "type")) = true := by
    have h2' : (PySem.W.clsIn K B).isSome = true := h2
    rw [h2', h3] <;> rfl
  show (if (PySem.W.subIn K (.ref B) (.type "BaseException") == some true) = true then (if ((PySem.W.clsIn K B).isSome && PySem.W.typeIn K (.ref B) == some (.type "type")) = true then PySem.W.subIn K (.ref A) (.ref B) else none) else none) = some b
  rw [if_pos e1, if_pos e2]
  exact h4
set_option maxHeartbeats 0 in
theorem all_mk {l : PySem.W.OpenLaw} {w : World} {K : PySem.W.Frag} {h : Heap} {mg : Str → Option Value} {fa f1 f2 f3 f4 f5 f6 f7 f8 f9 f10 f11 f12 f13 f14 f15 f16 f17 f18 f19 f20 f21 f22 f23 f24 f25 f26 f27 f28 f29 f30 f31 f32 f33 f34 f35 f36 f37 f38 f39 f40 f41 f42 f43 f44 f45 aL aH aF CP CL EB EN ED EM c Pt : Addr} (X : K.In h) (G : h.Ns mainGlobals mg) (hfa : mg "law" = some (.ref fa))
    {od1 an1 od2 an2 od3 an3 od4 an4 od5 an5 od6 an6 od7 an7 od8 an8 od9 an9 od10 an10 od11 an11 od12 an12 od13 an13 od14 an14 od15 an15 od16 an16 od17 an17 od18 an18 od19 an19 od20 an20 od21 an21 od22 an22 od23 an23 od24 an24 od25 an25 od26 an26 od27 an27 od28 an28 od29 an29 od30 an30 od31 an31 od32 an32 od33 an33 od34 an34 od35 an35 od36 an36 od37 an37 od38 an38 od39 an39 od40 an40 od41 an41 od42 an42 od43 an43 od44 an44 od45 an45 odL odH odF : Option Addr} {sl1 sl2 sl3 sl4 sl5 sl6 sl7 sl8 sl9 sl10 sl11 sl12 sl13 sl14 sl15 sl16 sl17 sl18 sl19 sl20 sl21 sl22 sl23 sl24 sl25 sl26 sl27 sl28 sl29 sl30 sl31 sl32 sl33 sl34 sl35 sl36 sl37 sl38 sl39 sl40 sl41 sl42 sl43 sl44 sl45 slL slH slF : Array (Option Value)} {oc1 kV1 dc1 pm1 cd1 ct1 oc2 kV2 dc2 pm2 cd2 ct2 oc3 kV3 dc3 pm3 cd3 ct3 oc4 kV4 dc4 pm4 cd4 ct4 oc5 kV5 dc5 pm5 cd5 ct5 oc6 kV6 dc6 pm6 cd6 ct6 oc7 kV7 dc7 pm7 cd7 ct7 oc8 kV8 dc8 pm8 cd8 ct8 oc9 kV9 dc9 pm9 cd9 ct9 oc10 kV10 dc10 pm10 cd10 ct10 oc11 kV11 dc11 pm11 cd11 ct11 oc12 kV12 dc12 pm12 cd12 ct12 oc13 kV13 dc13 pm13 cd13 ct13 oc14 kV14 dc14 pm14 cd14 ct14 oc15 kV15 dc15 pm15 cd15 ct15 oc16 kV16 dc16 pm16 cd16 ct16 oc17 kV17 dc17 pm17 cd17 ct17 oc18 kV18 dc18 pm18 cd18 ct18 oc19 kV19 dc19 pm19 cd19 ct19 oc20 kV20 dc20 pm20 cd20 ct20 oc21 kV21 dc21 pm21 cd21 ct21 oc22 kV22 dc22 pm22 cd22 ct22 oc23 kV23 dc23 pm23 cd23 ct23 oc24 kV24 dc24 pm24 cd24 ct24 oc25 kV25 dc25 pm25 cd25 ct25 oc26 kV26 dc26 pm26 cd26 ct26 oc27 kV27 dc27 pm27 cd27 ct27 oc28 kV28 dc28 pm28 cd28 ct28 oc29 kV29 dc29 pm29 cd29 ct29 oc30 kV30 dc30 pm30 cd30 ct30 oc31 kV31 dc31 pm31 cd31 ct31 oc32 kV32 dc32 pm32 cd32 ct32 oc33 kV33 dc33 pm33 cd33 ct33 oc34 kV34 dc34 pm34 cd34 ct34 oc35 kV35 dc35 pm35 cd35 ct35 oc36 kV36 dc36 pm36 cd36 ct36 oc37 kV37 dc37 pm37 cd37 ct37 oc38 kV38 dc38 pm38 cd38 ct38 oc39 kV39 dc39 pm39 cd39 ct39 oc40 kV40 dc40 pm40 ct40 oc41 kV41 dc41 pm41 cd41 ct41 oc42 kV42 dc42 pm42 cd42 ct42 oc43 kV43 dc43 pm43 cd43 ct43 oc44 kV44 dc44 pm44 cd44 ct44 oc45 kV45 dc45 pm45 cd45 ct45 : Value} {tl td tn tp tm u1 u2 u3 u4 u5 u6 u7 u8 : Tok} {nL nH nF : Nat}
    {nm q : Str} {N : Addr} {bs bm : List Value} {sn : List Str} {sub : List Value} {ab : Bool} {col : Option Bool} {dd : Option Addr} {mz0 mz1 mz2 mz3 mz5 : Option Value}
    (tP : h.get? Pt = some { cls := .none, data := .fields #[] })
    (a1 : PySem.W.nsIn K mainGlobals "fits_name" = some (some (.ref f1)))
    (l1 : K.lookup f1 = some ⟨oc1, od1, .func (PySem.W.fnOf "fits_name" "fits_name" (defArgs sfits_name) (defBody sfits_name) (defScope sfits_name) .none kV1 dc1 pm1 an1 cd1 ct1), sl1⟩)
    (c1 : PySem.W.codeIn K cd1 "fits_name" = true)
    (k1 : PySem.W.keepIn K (.ref f1) = true)
    (a2 : PySem.W.nsIn K mainGlobals "fits_form" = some (some (.ref f2)))
    (l2 : K.lookup f2 = some ⟨oc2, od2, .func (PySem.W.fnOf "fits_form" "fits_form" (defArgs sfits_form) (defBody sfits_form) (defScope sfits_form) .none kV2 dc2 pm2 an2 cd2 ct2), sl2⟩)
    (c2 : PySem.W.codeIn K cd2 "fits_form" = true)
    (k2 : PySem.W.keepIn K (.ref f2) = true)
    (a3 : PySem.W.nsIn K mainGlobals "fits_ends" = some (some (.ref f3)))
    (l3 : K.lookup f3 = some ⟨oc3, od3, .func (PySem.W.fnOf "fits_ends" "fits_ends" (defArgs sfits_ends) (defBody sfits_ends) (defScope sfits_ends) .none kV3 dc3 pm3 an3 cd3 ct3), sl3⟩)
    (c3 : PySem.W.codeIn K cd3 "fits_ends" = true)
    (k3 : PySem.W.keepIn K (.ref f3) = true)
    (a4 : PySem.W.nsIn K mainGlobals "is_leaf" = some (some (.ref f4)))
    (l4 : K.lookup f4 = some ⟨oc4, od4, .func (PySem.W.fnOf "is_leaf" "is_leaf" (defArgs sis_leaf) (defBody sis_leaf) (defScope sis_leaf) .none kV4 dc4 pm4 an4 cd4 ct4), sl4⟩)
    (c4 : PySem.W.codeIn K cd4 "is_leaf" = true)
    (k4 : PySem.W.keepIn K (.ref f4) = true)
    (a5 : PySem.W.nsIn K mainGlobals "leaf_count" = some (some (.ref f5)))
    (l5 : K.lookup f5 = some ⟨oc5, od5, .func (PySem.W.fnOf "leaf_count" "leaf_count" (defArgs sleaf_count) (defBody sleaf_count) (defScope sleaf_count) .none kV5 dc5 pm5 an5 cd5 ct5), sl5⟩)
    (c5 : PySem.W.codeIn K cd5 "leaf_count" = true)
    (k5 : PySem.W.keepIn K (.ref f5) = true)
    (a6 : PySem.W.nsIn K mainGlobals "check_ends" = some (some (.ref f6)))
    (l6 : K.lookup f6 = some ⟨oc6, od6, .func (PySem.W.fnOf "check_ends" "check_ends" (defArgs scheck_ends) (defBody scheck_ends) (defScope scheck_ends) .none kV6 dc6 pm6 an6 cd6 ct6), sl6⟩)
    (c6 : PySem.W.codeIn K cd6 "check_ends" = true)
    (k6 : PySem.W.keepIn K (.ref f6) = true)
    (a7 : PySem.W.nsIn K mainGlobals "leaves" = some (some (.ref f7)))
    (l7 : K.lookup f7 = some ⟨oc7, od7, .func (PySem.W.fnOf "leaves" "leaves" (defArgs sleaves) (defBody sleaves) (defScope sleaves) .none kV7 dc7 pm7 an7 cd7 ct7), sl7⟩)
    (c7 : PySem.W.codeIn K cd7 "leaves" = true)
    (k7 : PySem.W.keepIn K (.ref f7) = true)
    (a8 : PySem.W.nsIn K mainGlobals "forks" = some (some (.ref f8)))
    (l8 : K.lookup f8 = some ⟨oc8, od8, .func (PySem.W.fnOf "forks" "forks" (defArgs sforks) (defBody sforks) (defScope sforks) .none kV8 dc8 pm8 an8 cd8 ct8), sl8⟩)
    (c8 : PySem.W.codeIn K cd8 "forks" = true)
    (k8 : PySem.W.keepIn K (.ref f8) = true)
    (a9 : PySem.W.nsIn K mainGlobals "leaf_ends" = some (some (.ref f9)))
    (l9 : K.lookup f9 = some ⟨oc9, od9, .func (PySem.W.fnOf "leaf_ends" "leaf_ends" (defArgs sleaf_ends) (defBody sleaf_ends) (defScope sleaf_ends) .none kV9 dc9 pm9 an9 cd9 ct9), sl9⟩)
    (c9 : PySem.W.codeIn K cd9 "leaf_ends" = true)
    (k9 : PySem.W.keepIn K (.ref f9) = true)
    (a10 : PySem.W.nsIn K mainGlobals "fork_ends" = some (some (.ref f10)))
    (l10 : K.lookup f10 = some ⟨oc10, od10, .func (PySem.W.fnOf "fork_ends" "fork_ends" (defArgs sfork_ends) (defBody sfork_ends) (defScope sfork_ends) .none kV10 dc10 pm10 an10 cd10 ct10), sl10⟩)
    (c10 : PySem.W.codeIn K cd10 "fork_ends" = true)
    (k10 : PySem.W.keepIn K (.ref f10) = true)
    (a11 : PySem.W.nsIn K mainGlobals "above_leaves" = some (some (.ref f11)))
    (l11 : K.lookup f11 = some ⟨oc11, od11, .func (PySem.W.fnOf "above_leaves" "above_leaves" (defArgs sabove_leaves) (defBody sabove_leaves) (defScope sabove_leaves) .none kV11 dc11 pm11 an11 cd11 ct11), sl11⟩)
    (c11 : PySem.W.codeIn K cd11 "above_leaves" = true)
    (k11 : PySem.W.keepIn K (.ref f11) = true)
    (a12 : PySem.W.nsIn K mainGlobals "above_forks" = some (some (.ref f12)))
    (l12 : K.lookup f12 = some ⟨oc12, od12, .func (PySem.W.fnOf "above_forks" "above_forks" (defArgs sabove_forks) (defBody sabove_forks) (defScope sabove_forks) .none kV12 dc12 pm12 an12 cd12 ct12), sl12⟩)
    (c12 : PySem.W.codeIn K cd12 "above_forks" = true)
    (k12 : PySem.W.keepIn K (.ref f12) = true)
    (a13 : PySem.W.nsIn K mainGlobals "_law_begin" = some (some (.ref f13)))
    (l13 : K.lookup f13 = some ⟨oc13, od13, .func (PySem.W.fnOf "_law_begin" "_law_begin" (defArgs s_law_begin) (defBody s_law_begin) (defScope s_law_begin) .none kV13 dc13 pm13 an13 cd13 ct13), sl13⟩)
    (c13 : PySem.W.codeIn K cd13 "_law_begin" = true)
    (k13 : PySem.W.keepIn K (.ref f13) = true)
    (a14 : PySem.W.nsIn K mainGlobals "_law_draw" = some (some (.ref f14)))
    (l14 : K.lookup f14 = some ⟨oc14, od14, .func (PySem.W.fnOf "_law_draw" "_law_draw" (defArgs s_law_draw) (defBody s_law_draw) (defScope s_law_draw) .none kV14 dc14 pm14 an14 cd14 ct14), sl14⟩)
    (c14 : PySem.W.codeIn K cd14 "_law_draw" = true)
    (k14 : PySem.W.keepIn K (.ref f14) = true)
    (a15 : PySem.W.nsIn K mainGlobals "_law_pick" = some (some (.ref f15)))
    (l15 : K.lookup f15 = some ⟨oc15, od15, .func (PySem.W.fnOf "_law_pick" "_law_pick" (defArgs s_law_pick) (defBody s_law_pick) (defScope s_law_pick) .none kV15 dc15 pm15 an15 cd15 ct15), sl15⟩)
    (c15 : PySem.W.codeIn K cd15 "_law_pick" = true)
    (k15 : PySem.W.keepIn K (.ref f15) = true)
    (a16 : PySem.W.nsIn K mainGlobals "_law_leaves" = some (some (.ref f16)))
    (l16 : K.lookup f16 = some ⟨oc16, od16, .func (PySem.W.fnOf "_law_leaves" "_law_leaves" (defArgs s_law_leaves) (defBody s_law_leaves) (defScope s_law_leaves) .none kV16 dc16 pm16 an16 cd16 ct16), sl16⟩)
    (c16 : PySem.W.codeIn K cd16 "_law_leaves" = true)
    (k16 : PySem.W.keepIn K (.ref f16) = true)
    (a17 : PySem.W.nsIn K mainGlobals "_law_forks" = some (some (.ref f17)))
    (l17 : K.lookup f17 = some ⟨oc17, od17, .func (PySem.W.fnOf "_law_forks" "_law_forks" (defArgs s_law_forks) (defBody s_law_forks) (defScope s_law_forks) .none kV17 dc17 pm17 an17 cd17 ct17), sl17⟩)
    (c17 : PySem.W.codeIn K cd17 "_law_forks" = true)
    (k17 : PySem.W.keepIn K (.ref f17) = true)
    (a18 : PySem.W.nsIn K mainGlobals "_law_depth" = some (some (.ref f18)))
    (l18 : K.lookup f18 = some ⟨oc18, od18, .func (PySem.W.fnOf "_law_depth" "_law_depth" (defArgs s_law_depth) (defBody s_law_depth) (defScope s_law_depth) .none kV18 dc18 pm18 an18 cd18 ct18), sl18⟩)
    (c18 : PySem.W.codeIn K cd18 "_law_depth" = true)
    (k18 : PySem.W.keepIn K (.ref f18) = true)
    (a19 : PySem.W.nsIn K mainGlobals "_law_leaf_many" = some (some (.ref f19)))
    (l19 : K.lookup f19 = some ⟨oc19, od19, .func (PySem.W.fnOf "_law_leaf_many" "_law_leaf_many" (defArgs s_law_leaf_many) (defBody s_law_leaf_many) (defScope s_law_leaf_many) .none kV19 dc19 pm19 an19 cd19 ct19), sl19⟩)
    (c19 : PySem.W.codeIn K cd19 "_law_leaf_many" = true)
    (k19 : PySem.W.keepIn K (.ref f19) = true)
    (a20 : PySem.W.nsIn K mainGlobals "_law_same" = some (some (.ref f20)))
    (l20 : K.lookup f20 = some ⟨oc20, od20, .func (PySem.W.fnOf "_law_same" "_law_same" (defArgs s_law_same) (defBody s_law_same) (defScope s_law_same) .none kV20 dc20 pm20 an20 cd20 ct20), sl20⟩)
    (c20 : PySem.W.codeIn K cd20 "_law_same" = true)
    (k20 : PySem.W.keepIn K (.ref f20) = true)
    (a21 : PySem.W.nsIn K mainGlobals "_law_fault" = some (some (.ref f21)))
    (l21 : K.lookup f21 = some ⟨oc21, od21, .func (PySem.W.fnOf "_law_fault" "_law_fault" (defArgs s_law_fault) (defBody s_law_fault) (defScope s_law_fault) .none kV21 dc21 pm21 an21 cd21 ct21), sl21⟩)
    (c21 : PySem.W.codeIn K cd21 "_law_fault" = true)
    (k21 : PySem.W.keepIn K (.ref f21) = true)
    (a22 : PySem.W.nsIn K mainGlobals "_law_faults" = some (some (.ref f22)))
    (l22 : K.lookup f22 = some ⟨oc22, od22, .func (PySem.W.fnOf "_law_faults" "_law_faults" (defArgs s_law_faults) (defBody s_law_faults) (defScope s_law_faults) .none kV22 dc22 pm22 an22 cd22 ct22), sl22⟩)
    (c22 : PySem.W.codeIn K cd22 "_law_faults" = true)
    (k22 : PySem.W.keepIn K (.ref f22) = true)
    (a23 : PySem.W.nsIn K mainGlobals "_law_name" = some (some (.ref f23)))
    (l23 : K.lookup f23 = some ⟨oc23, od23, .func (PySem.W.fnOf "_law_name" "_law_name" (defArgs s_law_name) (defBody s_law_name) (defScope s_law_name) .none kV23 dc23 pm23 an23 cd23 ct23), sl23⟩)
    (c23 : PySem.W.codeIn K cd23 "_law_name" = true)
    (k23 : PySem.W.keepIn K (.ref f23) = true)
    (a24 : PySem.W.nsIn K mainGlobals "_law_names" = some (some (.ref f24)))
    (l24 : K.lookup f24 = some ⟨oc24, od24, .func (PySem.W.fnOf "_law_names" "_law_names" (defArgs s_law_names) (defBody s_law_names) (defScope s_law_names) .none kV24 dc24 pm24 an24 cd24 ct24), sl24⟩)
    (c24 : PySem.W.codeIn K cd24 "_law_names" = true)
    (k24 : PySem.W.keepIn K (.ref f24) = true)
    (a25 : PySem.W.nsIn K mainGlobals "_law_shape" = some (some (.ref f25)))
    (l25 : K.lookup f25 = some ⟨oc25, od25, .func (PySem.W.fnOf "_law_shape" "_law_shape" (defArgs s_law_shape) (defBody s_law_shape) (defScope s_law_shape) .none kV25 dc25 pm25 an25 cd25 ct25), sl25⟩)
    (c25 : PySem.W.codeIn K cd25 "_law_shape" = true)
    (k25 : PySem.W.keepIn K (.ref f25) = true)
    (a26 : PySem.W.nsIn K mainGlobals "_law_unforked" = some (some (.ref f26)))
    (l26 : K.lookup f26 = some ⟨oc26, od26, .func (PySem.W.fnOf "_law_unforked" "_law_unforked" (defArgs s_law_unforked) (defBody s_law_unforked) (defScope s_law_unforked) .none kV26 dc26 pm26 an26 cd26 ct26), sl26⟩)
    (c26 : PySem.W.codeIn K cd26 "_law_unforked" = true)
    (k26 : PySem.W.keepIn K (.ref f26) = true)
    (a27 : PySem.W.nsIn K mainGlobals "_law_some_ends" = some (some (.ref f27)))
    (l27 : K.lookup f27 = some ⟨oc27, od27, .func (PySem.W.fnOf "_law_some_ends" "_law_some_ends" (defArgs s_law_some_ends) (defBody s_law_some_ends) (defScope s_law_some_ends) .none kV27 dc27 pm27 an27 cd27 ct27), sl27⟩)
    (c27 : PySem.W.codeIn K cd27 "_law_some_ends" = true)
    (k27 : PySem.W.keepIn K (.ref f27) = true)
    (a28 : PySem.W.nsIn K mainGlobals "_law_is_name" = some (some (.ref f28)))
    (l28 : K.lookup f28 = some ⟨oc28, od28, .func (PySem.W.fnOf "_law_is_name" "_law_is_name" (defArgs s_law_is_name) (defBody s_law_is_name) (defScope s_law_is_name) .none kV28 dc28 pm28 an28 cd28 ct28), sl28⟩)
    (c28 : PySem.W.codeIn K cd28 "_law_is_name" = true)
    (k28 : PySem.W.keepIn K (.ref f28) = true)
    (a29 : PySem.W.nsIn K mainGlobals "_law_is_form" = some (some (.ref f29)))
    (l29 : K.lookup f29 = some ⟨oc29, od29, .func (PySem.W.fnOf "_law_is_form" "_law_is_form" (defArgs s_law_is_form) (defBody s_law_is_form) (defScope s_law_is_form) .none kV29 dc29 pm29 an29 cd29 ct29), sl29⟩)
    (c29 : PySem.W.codeIn K cd29 "_law_is_form" = true)
    (k29 : PySem.W.keepIn K (.ref f29) = true)
    (a30 : PySem.W.nsIn K mainGlobals "_law_bent_name" = some (some (.ref f30)))
    (l30 : K.lookup f30 = some ⟨oc30, od30, .func (PySem.W.fnOf "_law_bent_name" "_law_bent_name" (defArgs s_law_bent_name) (defBody s_law_bent_name) (defScope s_law_bent_name) .none kV30 dc30 pm30 an30 cd30 ct30), sl30⟩)
    (c30 : PySem.W.codeIn K cd30 "_law_bent_name" = true)
    (k30 : PySem.W.keepIn K (.ref f30) = true)
    (a31 : PySem.W.nsIn K mainGlobals "_law_bent" = some (some (.ref f31)))
    (l31 : K.lookup f31 = some ⟨oc31, od31, .func (PySem.W.fnOf "_law_bent" "_law_bent" (defArgs s_law_bent) (defBody s_law_bent) (defScope s_law_bent) .none kV31 dc31 pm31 an31 cd31 ct31), sl31⟩)
    (c31 : PySem.W.codeIn K cd31 "_law_bent" = true)
    (k31 : PySem.W.keepIn K (.ref f31) = true)
    (a32 : PySem.W.nsIn K mainGlobals "_law_deeper" = some (some (.ref f32)))
    (l32 : K.lookup f32 = some ⟨oc32, od32, .func (PySem.W.fnOf "_law_deeper" "_law_deeper" (defArgs s_law_deeper) (defBody s_law_deeper) (defScope s_law_deeper) .none kV32 dc32 pm32 an32 cd32 ct32), sl32⟩)
    (c32 : PySem.W.codeIn K cd32 "_law_deeper" = true)
    (k32 : PySem.W.keepIn K (.ref f32) = true)
    (a33 : PySem.W.nsIn K mainGlobals "_law_no_form" = some (some (.ref f33)))
    (l33 : K.lookup f33 = some ⟨oc33, od33, .func (PySem.W.fnOf "_law_no_form" "_law_no_form" (defArgs s_law_no_form) (defBody s_law_no_form) (defScope s_law_no_form) .none kV33 dc33 pm33 an33 cd33 ct33), sl33⟩)
    (c33 : PySem.W.codeIn K cd33 "_law_no_form" = true)
    (k33 : PySem.W.keepIn K (.ref f33) = true)
    (a34 : PySem.W.nsIn K mainGlobals "_law_no_ends" = some (some (.ref f34)))
    (l34 : K.lookup f34 = some ⟨oc34, od34, .func (PySem.W.fnOf "_law_no_ends" "_law_no_ends" (defArgs s_law_no_ends) (defBody s_law_no_ends) (defScope s_law_no_ends) .none kV34 dc34 pm34 an34 cd34 ct34), sl34⟩)
    (c34 : PySem.W.codeIn K cd34 "_law_no_ends" = true)
    (k34 : PySem.W.keepIn K (.ref f34) = true)
    (a35 : PySem.W.nsIn K mainGlobals "_law_above" = some (some (.ref f35)))
    (l35 : K.lookup f35 = some ⟨oc35, od35, .func (PySem.W.fnOf "_law_above" "_law_above" (defArgs s_law_above) (defBody s_law_above) (defScope s_law_above) .none kV35 dc35 pm35 an35 cd35 ct35), sl35⟩)
    (c35 : PySem.W.codeIn K cd35 "_law_above" = true)
    (k35 : PySem.W.keepIn K (.ref f35) = true)
    (a36 : PySem.W.nsIn K mainGlobals "_law_all_above" = some (some (.ref f36)))
    (l36 : K.lookup f36 = some ⟨oc36, od36, .func (PySem.W.fnOf "_law_all_above" "_law_all_above" (defArgs s_law_all_above) (defBody s_law_all_above) (defScope s_law_all_above) .none kV36 dc36 pm36 an36 cd36 ct36), sl36⟩)
    (c36 : PySem.W.codeIn K cd36 "_law_all_above" = true)
    (k36 : PySem.W.keepIn K (.ref f36) = true)
    (a37 : PySem.W.nsIn K mainGlobals "_law_all_told" = some (some (.ref f37)))
    (l37 : K.lookup f37 = some ⟨oc37, od37, .func (PySem.W.fnOf "_law_all_told" "_law_all_told" (defArgs s_law_all_told) (defBody s_law_all_told) (defScope s_law_all_told) .none kV37 dc37 pm37 an37 cd37 ct37), sl37⟩)
    (c37 : PySem.W.codeIn K cd37 "_law_all_told" = true)
    (k37 : PySem.W.keepIn K (.ref f37) = true)
    (a38 : PySem.W.nsIn K mainGlobals "_law_all_leaves" = some (some (.ref f38)))
    (l38 : K.lookup f38 = some ⟨oc38, od38, .func (PySem.W.fnOf "_law_all_leaves" "_law_all_leaves" (defArgs s_law_all_leaves) (defBody s_law_all_leaves) (defScope s_law_all_leaves) .none kV38 dc38 pm38 an38 cd38 ct38), sl38⟩)
    (c38 : PySem.W.codeIn K cd38 "_law_all_leaves" = true)
    (k38 : PySem.W.keepIn K (.ref f38) = true)
    (a39 : PySem.W.nsIn K mainGlobals "_law_all_forks" = some (some (.ref f39)))
    (l39 : K.lookup f39 = some ⟨oc39, od39, .func (PySem.W.fnOf "_law_all_forks" "_law_all_forks" (defArgs s_law_all_forks) (defBody s_law_all_forks) (defScope s_law_all_forks) .none kV39 dc39 pm39 an39 cd39 ct39), sl39⟩)
    (c39 : PySem.W.codeIn K cd39 "_law_all_forks" = true)
    (k39 : PySem.W.keepIn K (.ref f39) = true)
    (a40 : PySem.W.nsIn K mainGlobals "_law_refuses" = some (some (.ref f40)))
    (l40 : K.lookup f40 = some ⟨oc40, od40, .func (PySem.W.fnOf "_law_refuses" "_law_refuses" (defArgs s_law_refuses) (defBody s_law_refuses) (defScope s_law_refuses) .none kV40 dc40 pm40 an40 (.ref c) ct40), sl40⟩)
    (c40 : PySem.W.codeIn K (.ref c) "_law_refuses" = true)
    (k40 : PySem.W.keepIn K (.ref f40) = true)
    (a41 : PySem.W.nsIn K mainGlobals "law" = some (some (.ref f41)))
    (l41 : K.lookup f41 = some ⟨oc41, od41, .func (PySem.W.fnOf "law" "law" (defArgs slaw) (defBody slaw) (defScope slaw) .none kV41 dc41 pm41 an41 cd41 ct41), sl41⟩)
    (c41 : PySem.W.codeIn K cd41 "law" = true)
    (k41 : PySem.W.keepIn K (.ref f41) = true)
    (tN : K.lookup Pt = none)
    (tC : PySem.W.codeHdIn K c Pt = true)
    (gCP : PySem.W.nsIn K mainGlobals "Place" = some (some (.ref CP)))
    (pgCP : PySem.W.plainGet K CP Str.empty = true)
    (hdCP : PySem.W.hasDictIn K CP = true)
    (poCP : PySem.W.plainOver K CP = true)
    (saCP : PySem.W.findIn K (.ref CP) "__setattr__" = some (some (.builtin "object.__setattr__")))
    (mkCP : PySem.W.makesIn K CP = true)
    (kpCP : PySem.W.keepIn K (.ref CP) = true)
    (gCL : PySem.W.nsIn K mainGlobals "Layout" = some (some (.ref CL)))
    (pgCL : PySem.W.plainGet K CL Str.empty = true)
    (hdCL : PySem.W.hasDictIn K CL = true)
    (poCL : PySem.W.plainOver K CL = true)
    (saCL : PySem.W.findIn K (.ref CL) "__setattr__" = some (some (.builtin "object.__setattr__")))
    (mkCL : PySem.W.makesIn K CL = true)
    (kpCL : PySem.W.keepIn K (.ref CL) = true)
    (nP0 : PySem.W.findIn K (.ref CP) "form" = some none)
    (nP1 : PySem.W.findIn K (.ref CP) "word" = some none)
    (nP2 : PySem.W.findIn K (.ref CP) "node" = some none)
    (nP3 : PySem.W.findIn K (.ref CP) "above" = some none)
    (nP4 : PySem.W.findIn K (.ref CP) "at" = some none)
    (nP5 : PySem.W.findIn K (.ref CP) "number" = some none)
    (nP6 : PySem.W.findIn K (.ref CP) "halves" = some none)
    (nL0 : PySem.W.findIn K (.ref CL) "leaves" = some none)
    (nL1 : PySem.W.findIn K (.ref CL) "forks" = some none)
    (nL2 : PySem.W.findIn K (.ref CL) "places" = some none)
    (nL3 : PySem.W.findIn K (.ref CL) "roots" = some none)
    (gEB : PySem.W.nsIn K mainGlobals "BadValue" = some (some (.ref EB)))
    (gaEB : PySem.W.findIn K (.ref EB) "__getattribute__" = some (some (.builtin "BaseException.__getattribute__")))
    (ggEB : PySem.W.findIn K (.ref EB) "__getattr__" = some none)
    (exEB : PySem.W.subIn K (.ref EB) (.type "BaseException") = some true)
    (hdEB : PySem.W.hasDictIn K EB = true)
    (noEB : PySem.W.findIn K (.ref EB) "value" = some none)
    (isEB : PySem.W.isClsIn K EB = true)
    (tyEB : PySem.W.typeIn K (.ref EB) = some (.type "type"))
    (gEN : PySem.W.nsIn K mainGlobals "NotAText" = some (some (.ref EN)))
    (gaEN : PySem.W.findIn K (.ref EN) "__getattribute__" = some (some (.builtin "BaseException.__getattribute__")))
    (ggEN : PySem.W.findIn K (.ref EN) "__getattr__" = some none)
    (exEN : PySem.W.subIn K (.ref EN) (.type "BaseException") = some true)
    (hdEN : PySem.W.hasDictIn K EN = true)
    (noEN : PySem.W.findIn K (.ref EN) "at" = some none)
    (isEN : PySem.W.isClsIn K EN = true)
    (tyEN : PySem.W.typeIn K (.ref EN) = some (.type "type"))
    (gED : PySem.W.nsIn K mainGlobals "TooDeep" = some (some (.ref ED)))
    (gaED : PySem.W.findIn K (.ref ED) "__getattribute__" = some (some (.builtin "BaseException.__getattribute__")))
    (ggED : PySem.W.findIn K (.ref ED) "__getattr__" = some none)
    (exED : PySem.W.subIn K (.ref ED) (.type "BaseException") = some true)
    (hdED : PySem.W.hasDictIn K ED = true)
    (noED : PySem.W.findIn K (.ref ED) "most" = some none)
    (isED : PySem.W.isClsIn K ED = true)
    (tyED : PySem.W.typeIn K (.ref ED) = some (.type "type"))
    (gEM : PySem.W.nsIn K mainGlobals "TooMany" = some (some (.ref EM)))
    (gaEM : PySem.W.findIn K (.ref EM) "__getattribute__" = some (some (.builtin "BaseException.__getattribute__")))
    (ggEM : PySem.W.findIn K (.ref EM) "__getattr__" = some none)
    (exEM : PySem.W.subIn K (.ref EM) (.type "BaseException") = some true)
    (hdEM : PySem.W.hasDictIn K EM = true)
    (noEM : PySem.W.findIn K (.ref EM) "most" = some none)
    (isEM : PySem.W.isClsIn K EM = true)
    (tyEM : PySem.W.typeIn K (.ref EM) = some (.type "type"))
    (sBB : PySem.W.subIn K (.ref EB) (.ref EB) = some true)
    (sNB : PySem.W.subIn K (.ref EN) (.ref EB) = some false)
    (sNN : PySem.W.subIn K (.ref EN) (.ref EN) = some true)
    (sDB : PySem.W.subIn K (.ref ED) (.ref EB) = some false)
    (sDN : PySem.W.subIn K (.ref ED) (.ref EN) = some false)
    (sDD : PySem.W.subIn K (.ref ED) (.ref ED) = some true)
    (sMB : PySem.W.subIn K (.ref EM) (.ref EB) = some false)
    (sMN : PySem.W.subIn K (.ref EM) (.ref EN) = some false)
    (sMD : PySem.W.subIn K (.ref EM) (.ref ED) = some false)
    (sMM : PySem.W.subIn K (.ref EM) (.ref EM) = some true)
    (xB : K.lookup EB = some (excClassObj nm q EB N bs bm true sn sub ab col dd mz0 mz1 mz2 mz3 mz5 "ValueError.__new__"))
    (rB : PySem.HandSPX.refsVE bm = true)
    (saB : PySem.W.findIn K (.ref EB) "__setattr__" = some (some (.builtin "object.__setattr__")))
    (kB : PySem.W.keepIn K (.ref EB) = true)
    (a42 : PySem.W.findIn K (.ref CP) "__init__" = some (some (.ref f42)))
    (i42 : PySem.W.isFn K (.ref f42) = true)
    (l42 : K.lookup f42 = some ⟨oc42, od42, .func (PySem.W.fnOf "__init__" "Place.__init__" (defArgs sPlaceI) (defBody sPlaceI) (defScope sPlaceI) .none kV42 dc42 pm42 an42 cd42 ct42), sl42⟩)
    (c42 : PySem.W.codeIn K cd42 "Place.__init__" = true)
    (k42 : PySem.W.keepIn K (.ref f42) = true)
    (a43 : PySem.W.findIn K (.ref CL) "__init__" = some (some (.ref f43)))
    (i43 : PySem.W.isFn K (.ref f43) = true)
    (l43 : K.lookup f43 = some ⟨oc43, od43, .func (PySem.W.fnOf "__init__" "Layout.__init__" (defArgs sLayI) (defBody sLayI) (defScope sLayI) .none kV43 dc43 pm43 an43 cd43 ct43), sl43⟩)
    (c43 : PySem.W.codeIn K cd43 "Layout.__init__" = true)
    (k43 : PySem.W.keepIn K (.ref f43) = true)
    (a44 : PySem.W.findIn K (.ref CL) "laid" = some (some (.ref f44)))
    (i44 : PySem.W.isFn K (.ref f44) = true)
    (l44 : K.lookup f44 = some ⟨oc44, od44, .func (PySem.W.fnOf "laid" "Layout.laid" (defArgs slaid) (defBody slaid) (defScope slaid) .none kV44 dc44 pm44 an44 cd44 ct44), sl44⟩)
    (c44 : PySem.W.codeIn K cd44 "Layout.laid" = true)
    (k44 : PySem.W.keepIn K (.ref f44) = true)
    (a45 : PySem.W.findIn K (.ref EB) "__init__" = some (some (.ref f45)))
    (i45 : PySem.W.typeIn K (.ref f45) = some (.type "function"))
    (l45 : K.lookup f45 = some ⟨oc45, od45, .func (PySem.W.fnOf "__init__" "BadValue.__init__" (defArgs (meth 2 0)) (defBody (meth 2 0)) (defScope (meth 2 0)) .none kV45 dc45 pm45 an45 cd45 ct45), sl45⟩)
    (c45 : PySem.W.codeIn K cd45 "BadValue.__init__" = true)
    (k45 : PySem.W.keepIn K (.ref f45) = true)
    (z1 : PySem.W.nsIn K mainGlobals "isinstance" = some none)
    (z2 : PySem.W.nsIn K mainGlobals "len" = some none)
    (z3 : PySem.W.nsIn K mainGlobals "all" = some none)
    (z4 : PySem.W.nsIn K mainGlobals "str" = some none)
    (z5 : PySem.W.nsIn K mainGlobals "tuple" = some none)
    (z6 : PySem.W.nsIn K mainGlobals "int" = some none)
    (z7 : PySem.W.nsIn K mainGlobals "list" = some none)
    (z8 : PySem.W.nsIn K mainGlobals "abs" = some none)
    (z9 : PySem.W.nsIn K mainGlobals "max" = some none)
    (z10 : PySem.W.nsIn K mainGlobals "min" = some none)
    (z11 : PySem.W.nsIn K mainGlobals "range" = some none)
    (z12 : PySem.W.nsIn K mainGlobals "bool" = some none)
    (z13 : PySem.W.nsIn K mainGlobals "zip" = some none)
    (z14 : PySem.W.nsIn K mainGlobals "enumerate" = some none)
    (z15 : PySem.W.nsIn K mainGlobals "sum" = some none)
    (y1 : PySem.W.nsIn K mainGlobals "LETTERS" = some (some (.str zLetters tl)))
    (y2 : PySem.W.nsIn K mainGlobals "DIGITS" = some (some (.str zDigits td)))
    (y3 : PySem.W.nsIn K mainGlobals "LONGEST_NAME" = some (some (.int 12 tn)))
    (y4 : PySem.W.nsIn K mainGlobals "DEEPEST" = some (some (.int 12 tp)))
    (y5 : PySem.W.nsIn K mainGlobals "LEAF_WORDS" = some (some (.ref aL)))
    (y6 : K.lookup aL = some ⟨.type "tuple", odL, .seq #[.str (Str.ofString "good") u1, .str (Str.ofString "counter") u2] nL, slL⟩)
    (y7 : PySem.W.nsIn K mainGlobals "HALVED_WORDS" = some (some (.ref aH)))
    (y8 : K.lookup aH = some ⟨.type "tuple", odH, .seq #[.str (Str.ofString "both") u3, .str (Str.ofString "between") u4, .str (Str.ofString "offered") u5, .str (Str.ofString "chosen") u6] nH, slH⟩)
    (y9 : PySem.W.nsIn K mainGlobals "FORK_WORDS" = some (some (.ref aF)))
    (y10 : K.lookup aF = some ⟨.type "tuple", odF, .seq #[.str (Str.ofString "offered") u7, .str (Str.ofString "chosen") u8] nF, slF⟩)
    (y11 : PySem.W.nsIn K mainGlobals "MOST_LEAVES" = some (some (.int 40 tm))) :
    LamX.LawAtS l w K CX0 93 63 "_law_script" mg fa h := by
  have e := hfa.symm.trans (PySem.W.mg_of X G a41)
  cases e
  have T : Txt7 K mg := {
    isinstance := PySem.W.mg_none_of X G z1, len := PySem.W.mg_none_of X G z2, all := PySem.W.mg_none_of X G z3, str := PySem.W.mg_none_of X G z4, tuple := PySem.W.mg_none_of X G z5, int := PySem.W.mg_none_of X G z6
    list := PySem.W.mg_none_of X G z7, abs := PySem.W.mg_none_of X G z8, max := PySem.W.mg_none_of X G z9, min := PySem.W.mg_none_of X G z10, range := PySem.W.mg_none_of X G z11, bool := PySem.W.mg_none_of X G z12
    zip := PySem.W.mg_none_of X G z13, enumerate := PySem.W.mg_none_of X G z14
    LETTERS := ⟨_, PySem.W.mg_of X G y1, ⟨_, rfl⟩⟩, DIGITS := ⟨_, PySem.W.mg_of X G y2, ⟨_, rfl⟩⟩, LONGEST_NAME := ⟨_, PySem.W.mg_of X G y3, ⟨_, rfl⟩⟩, DEEPEST := ⟨_, PySem.W.mg_of X G y4, ⟨_, rfl⟩⟩
    aLeaf := aL, LEAF_WORDS := ⟨_, PySem.W.mg_of X G y5, rfl⟩, sLeaf := fun H => .inr ⟨_, _, _, y6, rfl, rfl, (by show 2 ≤ sizeLine; decide), .cons ⟨_, rfl⟩ (.cons ⟨_, rfl⟩ .nil)⟩
    aHalf := aH, HALVED_WORDS := ⟨_, PySem.W.mg_of X G y7, rfl⟩, sHalf := fun H => .inr ⟨_, _, _, y8, rfl, rfl, (by show 4 ≤ sizeLine; decide), .cons ⟨_, rfl⟩ (.cons ⟨_, rfl⟩ (.cons ⟨_, rfl⟩ (.cons ⟨_, rfl⟩ .nil)))⟩
    MOST_LEAVES := ⟨_, PySem.W.mg_of X G y11, ⟨_, rfl⟩⟩
    aFork := aF, FORK_WORDS := ⟨_, PySem.W.mg_of X G y9, rfl⟩, sFork := fun H => .inr ⟨_, _, _, y10, rfl, rfl, (by show 2 ≤ sizeLine; decide), .cons ⟨_, rfl⟩ (.cons ⟨_, rfl⟩ .nil)⟩ }
  let TE : ErrT K mg := {
    B := EB, N := EN, D := ED, M := EM, gB := PySem.W.mg_of X G gEB, gN := PySem.W.mg_of X G gEN, gD := PySem.W.mg_of X G gED, gM := PySem.W.mg_of X G gEM
    xB := ⟨gaEB, ggEB, exEB, hdEB⟩, xN := ⟨gaEN, ggEN, exEN, hdEN⟩, xD := ⟨gaED, ggED, exED, hdED⟩, xM := ⟨gaEM, ggEM, exEM, hdEM⟩
    nB := noEB, nN := noEN, nD := noED, nM := noEM
    BB := exm_two exEB isEB tyEB sBB, NB := exm_two exEB isEB tyEB sNB, NN := exm_two exEN isEN tyEN sNN, DB := exm_two exEB isEB tyEB sDB, DN := exm_two exEN isEN tyEN sDN, DD := exm_two exED isED tyED sDD
    MB := exm_two exEB isEB tyEB sMB, MN := exm_two exEN isEN tyEN sMN, MD := exm_two exED isED tyED sMD, MM := exm_two exEM isEM tyEM sMM }
  have F1 := fun_mk (st := sfits_name) l1 c1 k1
  have b1 := F1.binds (ps := Pfits_name) fun _ _ _ _ _ _ us hl => match us, hl with | [_], _ => rfl
  have m1 := PySem.W.mg_of X G a1
  have F2 := fun_mk (st := sfits_form) l2 c2 k2
  have b2 := F2.binds (ps := Pfits_form) fun _ _ _ _ _ _ us hl => match us, hl with | [_, _], _ => rfl
  have m2 := PySem.W.mg_of X G a2
  have F3 := fun_mk (st := sfits_ends) l3 c3 k3
  have b3 := F3.binds (ps := Pfits_ends) fun _ _ _ _ _ _ us hl => match us, hl with | [_], _ => rfl
  have m3 := PySem.W.mg_of X G a3
  have F4 := fun_mk (st := sis_leaf) l4 c4 k4
  have b4 := F4.binds (ps := Pis_leaf) fun _ _ _ _ _ _ us hl => match us, hl with | [_], _ => rfl
  have m4 := PySem.W.mg_of X G a4
  have F5 := fun_mk (st := sleaf_count) l5 c5 k5
  have b5 := F5.binds (ps := Pleaf_count) fun _ _ _ _ _ _ us hl => match us, hl with | [_], _ => rfl
  have m5 := PySem.W.mg_of X G a5
  have F6 := fun_mk (st := scheck_ends) l6 c6 k6
  have b6 := F6.binds (ps := Pcheck_ends) fun _ _ _ _ _ _ us hl => match us, hl with | [_], _ => rfl
  have m6 := PySem.W.mg_of X G a6
  have F7 := fun_mk (st := sleaves) l7 c7 k7
  have b7 := F7.binds (ps := Pleaves) fun _ _ _ _ _ _ us hl => match us, hl with | [_], _ => rfl
  have m7 := PySem.W.mg_of X G a7
  have F8 := fun_mk (st := sforks) l8 c8 k8
  have b8 := F8.binds (ps := Pforks) fun _ _ _ _ _ _ us hl => match us, hl with | [_], _ => rfl
  have m8 := PySem.W.mg_of X G a8
  have F9 := fun_mk (st := sleaf_ends) l9 c9 k9
  have b9 := F9.binds (ps := Pleaf_ends) fun _ _ _ _ _ _ us hl => match us, hl with | [_], _ => rfl
  have m9 := PySem.W.mg_of X G a9
  have F10 := fun_mk (st := sfork_ends) l10 c10 k10
  have b10 := F10.binds (ps := Pfork_ends) fun _ _ _ _ _ _ us hl => match us, hl with | [_], _ => rfl
  have m10 := PySem.W.mg_of X G a10
  have F11 := fun_mk (st := sabove_leaves) l11 c11 k11
  have b11 := F11.binds (ps := Pabove_leaves) fun _ _ _ _ _ _ us hl => match us, hl with | [_], _ => rfl
  have m11 := PySem.W.mg_of X G a11
  have F12 := fun_mk (st := sabove_forks) l12 c12 k12
  have b12 := F12.binds (ps := Pabove_forks) fun _ _ _ _ _ _ us hl => match us, hl with | [_], _ => rfl
  have m12 := PySem.W.mg_of X G a12
  have F13 := fun_mk (st := s_law_begin) l13 c13 k13
  have b13 := F13.binds (ps := P_law_begin) fun _ _ _ _ _ _ us hl => match us, hl with | [_], _ => rfl
  have m13 := PySem.W.mg_of X G a13
  have F14 := fun_mk (st := s_law_draw) l14 c14 k14
  have b14 := F14.binds (ps := P_law_draw) fun _ _ _ _ _ _ us hl => match us, hl with | [_, _], _ => rfl
  have m14 := PySem.W.mg_of X G a14
  have F15 := fun_mk (st := s_law_pick) l15 c15 k15
  have b15 := F15.binds (ps := P_law_pick) fun _ _ _ _ _ _ us hl => match us, hl with | [_, _], _ => rfl
  have m15 := PySem.W.mg_of X G a15
  have F16 := fun_mk (st := s_law_leaves) l16 c16 k16
  have b16 := F16.binds (ps := P_law_leaves) fun _ _ _ _ _ _ us hl => match us, hl with | [_], _ => rfl
  have m16 := PySem.W.mg_of X G a16
  have F17 := fun_mk (st := s_law_forks) l17 c17 k17
  have b17 := F17.binds (ps := P_law_forks) fun _ _ _ _ _ _ us hl => match us, hl with | [_], _ => rfl
  have m17 := PySem.W.mg_of X G a17
  have F18 := fun_mk (st := s_law_depth) l18 c18 k18
  have b18 := F18.binds (ps := P_law_depth) fun _ _ _ _ _ _ us hl => match us, hl with | [_], _ => rfl
  have m18 := PySem.W.mg_of X G a18
  have F19 := fun_mk (st := s_law_leaf_many) l19 c19 k19
  have b19 := F19.binds (ps := P_law_leaf_many) fun _ _ _ _ _ _ us hl => match us, hl with | [_], _ => rfl
  have m19 := PySem.W.mg_of X G a19
  have F20 := fun_mk (st := s_law_same) l20 c20 k20
  have b20 := F20.binds (ps := P_law_same) fun _ _ _ _ _ _ us hl => match us, hl with | [_, _], _ => rfl
  have m20 := PySem.W.mg_of X G a20
  have F21 := fun_mk (st := s_law_fault) l21 c21 k21
  have b21 := F21.binds (ps := P_law_fault) fun _ _ _ _ _ _ us hl => match us, hl with | [_], _ => rfl
  have m21 := PySem.W.mg_of X G a21
  have F22 := fun_mk (st := s_law_faults) l22 c22 k22
  have b22 := F22.binds (ps := P_law_faults) fun _ _ _ _ _ _ us hl => match us, hl with | [_, _], _ => rfl
  have m22 := PySem.W.mg_of X G a22
  have F23 := fun_mk (st := s_law_name) l23 c23 k23
  have b23 := F23.binds (ps := P_law_name) fun _ _ _ _ _ _ us hl => match us, hl with | [_], _ => rfl
  have m23 := PySem.W.mg_of X G a23
  have F24 := fun_mk (st := s_law_names) l24 c24 k24
  have b24 := F24.binds (ps := P_law_names) fun _ _ _ _ _ _ us hl => match us, hl with | [_, _], _ => rfl
  have m24 := PySem.W.mg_of X G a24
  have F25 := fun_mk (st := s_law_shape) l25 c25 k25
  have b25 := F25.binds (ps := P_law_shape) fun _ _ _ _ _ _ us hl => match us, hl with | [_, _, _, _], _ => rfl
  have m25 := PySem.W.mg_of X G a25
  have F26 := fun_mk (st := s_law_unforked) l26 c26 k26
  have b26 := F26.binds (ps := P_law_unforked) fun _ _ _ _ _ _ us hl => match us, hl with | [_, _], _ => rfl
  have m26 := PySem.W.mg_of X G a26
  have F27 := fun_mk (st := s_law_some_ends) l27 c27 k27
  have b27 := F27.binds (ps := P_law_some_ends) fun _ _ _ _ _ _ us hl => match us, hl with | [_, _, _], _ => rfl
  have m27 := PySem.W.mg_of X G a27
  have F28 := fun_mk (st := s_law_is_name) l28 c28 k28
  have b28 := F28.binds (ps := P_law_is_name) fun _ _ _ _ _ _ us hl => match us, hl with | [_], _ => rfl
  have m28 := PySem.W.mg_of X G a28
  have F29 := fun_mk (st := s_law_is_form) l29 c29 k29
  have b29 := F29.binds (ps := P_law_is_form) fun _ _ _ _ _ _ us hl => match us, hl with | [_, _], _ => rfl
  have m29 := PySem.W.mg_of X G a29
  have F30 := fun_mk (st := s_law_bent_name) l30 c30 k30
  have b30 := F30.binds (ps := P_law_bent_name) fun _ _ _ _ _ _ us hl => match us, hl with | [_, _], _ => rfl
  have m30 := PySem.W.mg_of X G a30
  have F31 := fun_mk (st := s_law_bent) l31 c31 k31
  have b31 := F31.binds (ps := P_law_bent) fun _ _ _ _ _ _ us hl => match us, hl with | [_, _], _ => rfl
  have m31 := PySem.W.mg_of X G a31
  have F32 := fun_mk (st := s_law_deeper) l32 c32 k32
  have b32 := F32.binds (ps := P_law_deeper) fun _ _ _ _ _ _ us hl => match us, hl with | [_, _], _ => rfl
  have m32 := PySem.W.mg_of X G a32
  have F33 := fun_mk (st := s_law_no_form) l33 c33 k33
  have b33 := F33.binds (ps := P_law_no_form) fun _ _ _ _ _ _ us hl => match us, hl with | [_, _], _ => rfl
  have m33 := PySem.W.mg_of X G a33
  have F34 := fun_mk (st := s_law_no_ends) l34 c34 k34
  have b34 := F34.binds (ps := P_law_no_ends) fun _ _ _ _ _ _ us hl => match us, hl with | [_, _], _ => rfl
  have m34 := PySem.W.mg_of X G a34
  have F35 := fun_mk (st := s_law_above) l35 c35 k35
  have b35 := F35.binds (ps := P_law_above) fun _ _ _ _ _ _ us hl => match us, hl with | [_, _, _, _, _], _ => rfl
  have m35 := PySem.W.mg_of X G a35
  have F36 := fun_mk (st := s_law_all_above) l36 c36 k36
  have b36 := F36.binds (ps := P_law_all_above) fun _ _ _ _ _ _ us hl => match us, hl with | [_], _ => rfl
  have m36 := PySem.W.mg_of X G a36
  have F37 := fun_mk (st := s_law_all_told) l37 c37 k37
  have b37 := F37.binds (ps := P_law_all_told) fun _ _ _ _ _ _ us hl => match us, hl with | [_], _ => rfl
  have m37 := PySem.W.mg_of X G a37
  have F38 := fun_mk (st := s_law_all_leaves) l38 c38 k38
  have b38 := F38.binds (ps := P_law_all_leaves) fun _ _ _ _ _ _ us hl => match us, hl with | [_], _ => rfl
  have m38 := PySem.W.mg_of X G a38
  have F39 := fun_mk (st := s_law_all_forks) l39 c39 k39
  have b39 := F39.binds (ps := P_law_all_forks) fun _ _ _ _ _ _ us hl => match us, hl with | [_], _ => rfl
  have m39 := PySem.W.mg_of X G a39
  have F40 : FunC K "_law_refuses" "_law_refuses" s_law_refuses f40 _ (.ref c) := ⟨oc40, od40, kV40, dc40, pm40, an40, ct40, sl40, rfl, l40, c40⟩
  have b40 := (fun_mk (st := s_law_refuses) l40 c40 k40).binds (ps := P_law_refuses) fun _ _ _ _ _ _ us hl => match us, hl with | [_, _], _ => rfl
  have m40 := PySem.W.mg_of X G a40
  have F41 := fun_mk (st := slaw) l41 c41 k41
  have F42 := fun_mk (st := sPlaceI) l42 c42 k42
  have b42 := F42.binds (ps := ["self", "form", "node", "above", "at"]) fun _ _ _ _ _ _ us hl => match us, hl with | [_, _, _, _, _], _ => rfl
  have F43 := fun_mk (st := sLayI) l43 c43 k43
  have b43 := F43.binds (ps := ["self", "ends"]) fun _ _ _ _ _ _ us hl => match us, hl with | [_, _], _ => rfl
  have F44 := fun_mk (st := slaid) l44 c44 k44
  have b44 := F44.binds (ps := ["self", "form", "node", "above"]) fun _ _ _ _ _ _ us hl => match us, hl with | [_, _, _, _], _ => rfl
  have F45 := fun_mk (st := (meth 2 0)) l45 c45 k45
  have b45 := F45.binds (ps := ["self", "value"]) fun _ _ _ _ _ _ us hl => match us, hl with | [_, _], _ => rfl
  have LA : LaTxt K mg CP CL f42 f44 := { pl := ⟨⟨pgCP, hdCP, poCP, saCP⟩, nP0, nP1, nP2, nP3, nP4, nP5, nP6⟩, mkP := ⟨mkCP, a42, i42, kpCP⟩, gP := PySem.W.mg_of X G gCP, cl := ⟨pgCL, hdCL, poCL, saCL⟩, nLeaves := nL0, nForks := nL1, nPlaces := nL2, nRoots := nL3, laid := ⟨a44, i44, k44⟩ }
  have LY : LyTxt K mg CL f43 := ⟨⟨mkCL, a43, i43, kpCL⟩, PySem.W.mg_of X G gCL⟩
  refine ⟨PySem.W.fnOf "law" "law" (defArgs slaw) (defBody slaw) (defScope slaw) .none kV41 dc41 pm41 an41 cd41 ct41, [(c, Pt)], spLaw K Pt, fun p hp => ?_, fun p hp => ?_, fun p hp => ?_, fun s v => .of_eq rfl, fun H a ns hl hb hH hS => ?_, fun base _ _ hTB => ?_⟩
  · rw [List.mem_singleton.mp hp]
    exact tP
  · rw [List.mem_singleton.mp hp]
    exact tN
  · rw [List.mem_singleton.mp hp]
    exact PySem.W.codeHd_of_K X tC
  · exact ⟨a, ns, rfl, hS, hl, fun p hp => by rw [List.mem_singleton.mp hp]; exact LamX.TabS.nil (hH (c, Pt) List.mem_cons_self), fun _ => rfl⟩
  have TB : LamX.TabB base mg c Pt := hTB (c, Pt) List.mem_cons_self
  have OE : OneE l.prog w K mg base "BadValue" "value" EB := { oex := ⟨⟨nm, q, N, bs, bm, sn, sub, ab, col, dd, mz0, mz1, mz2, mz3, mz5, xB, rB⟩, saB, exEB, tyEB, kB⟩, xf := TE.xB, no := noEB, g := PySem.W.mg_of X G gEB, fI := f45, fd := _, iC := a45, tI := i45, b := b45, F := ok_i2 EB F45 }
  have Cfits_name : Cal l.prog w K mg base "fits_name" 2 Pfits_name (spName K) := ⟨_, _, ok_fits_name T.toTxt F1, m1, k1, b1⟩
  have Cfits_form : Cal l.prog w K mg base "fits_form" 15 Pfits_form (spForm K 13) := ⟨_, _, all_fits_form T.toTxt F2 b2 m2 Cfits_name 13, m2, k2, b2⟩
  have Cis_leaf : Cal l.prog w K mg base "is_leaf" 1 Pis_leaf (spIsLeaf K) := ⟨_, _, okis_leaf T.toTxt F4, m4, k4, b4⟩
  have Cleaf_count : Cal l.prog w K mg base "leaf_count" 14 Pleaf_count (spLeafCount K 13) := ⟨_, _, all_leaf_count F5 b5 m5 Cis_leaf 13, m5, k5, b5⟩
  have Cfits_ends : Cal l.prog w K mg base "fits_ends" 16 Pfits_ends (spEnds K) := ⟨_, _, okfits_ends T F3 Cfits_form Cleaf_count, m3, k3, b3⟩
  have Ccheck_ends : CalX l.prog w K mg base "check_ends" 17 Pcheck_ends (spCheckEnds K EB) := ⟨_, _, okcheck_ends OE F6 Cfits_ends, m6, k6, b6⟩
  have GP := okPlaceI (P := l.prog) (w := w) (mg := mg) (base := base) LA.pl F42
  have GD := all_laid (P := l.prog) (w := w) (base := base) T LA F44 GP b42 Cis_leaf b44 13
  have GL := okLayI (P := l.prog) (w := w) (base := base) T LA F43 GD b44
  have Cleaves : CalX l.prog w K mg base "leaves" 18 Pleaves (spView K EB outleaves) := ⟨_, _, okleaves T LA LY GL b43 Ccheck_ends F7, m7, k7, b7⟩
  have Cforks : CalX l.prog w K mg base "forks" 18 Pforks (spView K EB outforks) := ⟨_, _, okforks T LA LY GL b43 Ccheck_ends F8, m8, k8, b8⟩
  have Cleaf_ends : CalX l.prog w K mg base "leaf_ends" 18 Pleaf_ends (spView K EB outleaf_ends) := ⟨_, _, okleaf_ends T LA LY GL b43 Ccheck_ends F9, m9, k9, b9⟩
  have Cfork_ends : CalX l.prog w K mg base "fork_ends" 18 Pfork_ends (spView K EB outfork_ends) := ⟨_, _, okfork_ends T LA LY GL b43 Ccheck_ends F10, m10, k10, b10⟩
  have Cabove_leaves : CalX l.prog w K mg base "above_leaves" 18 Pabove_leaves (spView K EB outabove_leaves) := ⟨_, _, okabove_leaves T LA LY GL b43 Ccheck_ends F11, m11, k11, b11⟩
  have Cabove_forks : CalX l.prog w K mg base "above_forks" 18 Pabove_forks (spView K EB outabove_forks) := ⟨_, _, okabove_forks T LA LY GL b43 Ccheck_ends F12, m12, k12, b12⟩
  have C_law_begin : Cal l.prog w K mg base "_law_begin" 1 P_law_begin (spBegin K) := ⟨_, _, ok_law_begin T.toTxt F13, m13, k13, b13⟩
  have C_law_draw : Cal l.prog w K mg base "_law_draw" 1 P_law_draw (spDraw K) := ⟨_, _, ok_law_draw T.toTxt F14, m14, k14, b14⟩
  have C_law_pick : Cal l.prog w K mg base "_law_pick" 2 P_law_pick (spPick K) := ⟨_, _, ok_law_pick T.toTxt F15 C_law_draw, m15, k15, b15⟩
  have C_law_leaves : Cal l.prog w K mg base "_law_leaves" 13 P_law_leaves (spLvs K 13) := ⟨_, _, all_law_leaves T F16 b16 m16 13, m16, k16, b16⟩
  have C_law_forks : Cal l.prog w K mg base "_law_forks" 13 P_law_forks (spWds K 13) := ⟨_, _, all_law_forks T F17 b17 m17 13, m17, k17, b17⟩
  have C_law_depth : Cal l.prog w K mg base "_law_depth" 13 P_law_depth (spDepth K 13) := ⟨_, _, all_law_depth T.toTxt F18 b18 m18 13, m18, k18, b18⟩
  have C_law_leaf_many : Cal l.prog w K mg base "_law_leaf_many" 14 P_law_leaf_many (spLeafMany K) := ⟨_, _, ok_law_leaf_many T (PySem.W.mg_none_of X G z15) F19 C_law_leaves, m19, k19, b19⟩
  have C_law_same : Cal l.prog w K mg base "_law_same" 67 P_law_same (spSame K 66) := ⟨_, _, all_law_same T.toTxt T.zip F20 b20 m20 66, m20, k20, b20⟩
  have C_law_fault : Cal l.prog w K mg base "_law_fault" 21 P_law_fault (spFault l.prog w K mg base TE 20) := ⟨_, _, ok_law_fault TE F21, m21, k21, b21⟩
  have C_law_faults : Cal l.prog w K mg base "_law_faults" 88 P_law_faults (spFaults l.prog w K mg base TE 20 66) := ⟨_, _, ok_law_faults (k := 20) (n := 66) TE F22 C_law_fault C_law_same, m22, k22, b22⟩
  have C_law_name : Cal l.prog w K mg base "_law_name" 3 P_law_name (spNameOf K) := ⟨_, _, ok_law_name T.toTxt F23 C_law_pick, m23, k23, b23⟩
  have C_law_names : Cal l.prog w K mg base "_law_names" 4 P_law_names (spNames K) := ⟨_, _, ok_law_names T.toTxt F24 C_law_draw C_law_name, m24, k24, b24⟩
  have C_law_shape : Cal l.prog w K mg base "_law_shape" 15 P_law_shape (spShape K 13) := ⟨_, _, all_law_shape T.toTxt F25 b25 m25 C_law_draw C_law_pick 13, m25, k25, b25⟩
  have C_law_unforked : Cal l.prog w K mg base "_law_unforked" 13 P_law_unforked (spUnforked K 13) := ⟨_, _, all_law_unforked T F26 b26 m26 13, m26, k26, b26⟩
  have C_law_some_ends : Cal l.prog w K mg base "_law_some_ends" 16 P_law_some_ends (spSomeEnds K) := ⟨_, _, ok_law_some_ends T F27 C_law_draw C_law_pick C_law_names C_law_shape C_law_unforked, m27, k27, b27⟩
  have C_law_is_name : Cal l.prog w K mg base "_law_is_name" 2 P_law_is_name (spName K) := ⟨_, _, ok_law_is_name T.toTxt F28, m28, k28, b28⟩
  have C_law_is_form : Cal l.prog w K mg base "_law_is_form" 15 P_law_is_form (spFormL K 13) := ⟨_, _, all_law_is_form T.toTxt F29 b29 m29 C_law_is_name 13, m29, k29, b29⟩
  have C_law_bent_name : Cal l.prog w K mg base "_law_bent_name" 3 P_law_bent_name (spBentName K) := ⟨_, _, ok_law_bent_name T.toTxt F30 C_law_draw C_law_pick, m30, k30, b30⟩
  have C_law_bent : Cal l.prog w K mg base "_law_bent" 16 P_law_bent (spBent K 13) := ⟨_, _, all_law_bent T.toTxt F31 b31 m31 C_law_draw C_law_pick C_law_bent_name 13, m31, k31, b31⟩
  have C_law_deeper : Cal l.prog w K mg base "_law_deeper" 14 P_law_deeper (spDeeper K) := ⟨_, _, ok_law_deeper T.toTxt F32 C_law_depth, m32, k32, b32⟩
  have C_law_deepL : Cal l.prog w K mg base "_law_deeper" 14 P_law_deeper (spDeepL K) := ⟨_, _, ok_law_deepL T.toTxt F32 C_law_depth, m32, k32, b32⟩
  have C_law_no_form : Cal l.prog w K mg base "_law_no_form" 17 P_law_no_form (spNoForm K) := ⟨_, _, ok_law_no_form T F33 C_law_pick C_law_bent C_law_is_form C_law_deeper, m33, k33, b33⟩
  have C_law_no_ends : Cal l.prog w K mg base "_law_no_ends" 18 P_law_no_ends (spNoEnds K) := ⟨_, _, ok_law_no_ends T F34 C_law_draw C_law_no_form C_law_leaf_many, m34, k34, b34⟩
  have C_law_above : Cal l.prog w K mg base "_law_above" 13 P_law_above (spAbove K 13) := ⟨_, _, all_law_above T F35 b35 m35 13, m35, k35, b35⟩
  have C_law_all_above : Cal l.prog w K mg base "_law_all_above" 14 P_law_all_above (spAllAbove K) := ⟨_, _, ok_law_all_above T F36 C_law_above, m36, k36, b36⟩
  have C_law_all_leaves : Cal l.prog w K mg base "_law_all_leaves" 14 P_law_all_leaves (spAllLvs K) := ⟨_, _, ok_law_all_leaves T F38 C_law_leaves, m38, k38, b38⟩
  have C_law_all_forks : Cal l.prog w K mg base "_law_all_forks" 14 P_law_all_forks (spAllWds K) := ⟨_, _, ok_law_all_forks T F39 C_law_forks, m39, k39, b39⟩
  have C_law_all_told : Cal l.prog w K mg base "_law_all_told" 68 P_law_all_told (spAllTold K) := ⟨_, _, ok_law_all_told T F37 C_law_same C_law_all_leaves C_law_all_forks C_law_leaves C_law_forks C_law_all_above Cleaves Cforks Cleaf_ends Cfork_ends Cabove_leaves Cabove_forks, m37, k37, b37⟩
  have C_law_refuses : Cal l.prog w K mg base "_law_refuses" 92 P_law_refuses (spRefuses K Pt) := ⟨_, _, ok_law_refuses (T := TE) TB F40 C_law_no_ends C_law_faults Cleaves Cforks Cleaf_ends Cfork_ends Cabove_leaves Cabove_forks, m40, k40, b40⟩
  exact ok_law T F41 C_law_begin C_law_some_ends C_law_deepL C_law_all_told C_law_refuses
theorem walk {l : PySem.W.OpenLaw} {q : Program} {loose : List Str} {XP : (Str → Option Value) → Heap → Prop} {YP : World → Heap → Prop} {d : DefRec} {K : Params → PySem.W.Frag} (hn : l.most = some 63) (hdf : d.params.defaults = [])
    (hY : ∀ (w : World) (h : Heap), YP w h → (K w.params).In h)
    (F : ∀ (w : World) (mg : Str → Option Value) (fa : Addr) (h : Heap), YP w h → (K w.params).In h → h.Ns mainGlobals mg → mg d.name = some (.ref fa) → LamX.LawAtS l w (K w.params) CX0 93 63 "_law_script" mg fa h) :
    PySem.W.WalkO q loose XP YP l.row.toRowW d [] (fun f vs => PySem.call f vs) :=
  LamX.walk_ofTs (n := 63) (k := 93) (x := "_law_script") (CX := fun _ => CX0) hn (by decide) hdf ⟨rfl, by decide, by decide⟩ hY F fun _ _ _ _ _ z => z
end My

set_option Elab.async false
set_option linter.all false
open PySem PySem.W PyProof.Rows
set_option maxRecDepth 100000 in
set_option maxHeartbeats 0 in
theorem PySem.Challenge.cw_alldeeds_k07_whole_leaves_and_forks_holds : PySem.Challenge.rw_alldeeds_k07_whole_leaves_and_forks.Holds := by
  w_on; o_law; k_head; (case hw => w_witness2)
  k_fill
  refine My.walk (l := PySem.Challenge.rw_alldeeds_k07_whole_leaves_and_forks) rfl rfl (fun w h Y => PySem.W.km_in_of Y) ?F
  case F =>
    intro w mg fa h Y KX G hmg
    have hT := PySem.W.km_tabs_of Y
    refine' My.all_mk KX G hmg ?tP ?a1 ?l1 ?c1 ?k1 ?a2 ?l2 ?c2 ?k2 ?a3 ?l3 ?c3 ?k3 ?a4 ?l4 ?c4 ?k4 ?a5 ?l5 ?c5 ?k5 ?a6 ?l6 ?c6 ?k6 ?a7 ?l7 ?c7 ?k7 ?a8 ?l8 ?c8 ?k8 ?a9 ?l9 ?c9 ?k9 ?a10 ?l10 ?c10 ?k10 ?a11 ?l11 ?c11 ?k11 ?a12 ?l12 ?c12 ?k12 ?a13 ?l13 ?c13 ?k13 ?a14 ?l14 ?c14 ?k14 ?a15 ?l15 ?c15 ?k15 ?a16 ?l16 ?c16 ?k16 ?a17 ?l17 ?c17 ?k17 ?a18 ?l18 ?c18 ?k18 ?a19 ?l19 ?c19 ?k19 ?a20 ?l20 ?c20 ?k20 ?a21 ?l21 ?c21 ?k21 ?a22 ?l22 ?c22 ?k22 ?a23 ?l23 ?c23 ?k23 ?a24 ?l24 ?c24 ?k24 ?a25 ?l25 ?c25 ?k25 ?a26 ?l26 ?c26 ?k26 ?a27 ?l27 ?c27 ?k27 ?a28 ?l28 ?c28 ?k28 ?a29 ?l29 ?c29 ?k29 ?a30 ?l30 ?c30 ?k30 ?a31 ?l31 ?c31 ?k31 ?a32 ?l32 ?c32 ?k32 ?a33 ?l33 ?c33 ?k33 ?a34 ?l34 ?c34 ?k34 ?a35 ?l35 ?c35 ?k35 ?a36 ?l36 ?c36 ?k36 ?a37 ?l37 ?c37 ?k37 ?a38 ?l38 ?c38 ?k38 ?a39 ?l39 ?c39 ?k39 ?a40 ?l40 ?c40 ?k40 ?a41 ?l41 ?c41 ?k41 ?tN ?tC ?gCP ?pgCP ?hdCP ?poCP ?saCP ?mkCP ?kpCP ?gCL ?pgCL ?hdCL ?poCL ?saCL ?mkCL ?kpCL ?nP0 ?nP1 ?nP2 ?nP3 ?nP4 ?nP5 ?nP6 ?nL0 ?nL1 ?nL2 ?nL3 ?gEB ?gaEB ?ggEB ?exEB ?hdEB ?noEB ?isEB ?tyEB ?gEN ?gaEN ?ggEN ?exEN ?hdEN ?noEN ?isEN ?tyEN ?gED ?gaED ?ggED ?exED ?hdED ?noED ?isED ?tyED ?gEM ?gaEM ?ggEM ?exEM ?hdEM ?noEM ?isEM ?tyEM ?sBB ?sNB ?sNN ?sDB ?sDN ?sDD ?sMB ?sMN ?sMD ?sMM ?xB ?rB ?saB ?kB ?a42 ?i42 ?l42 ?c42 ?k42 ?a43 ?i43 ?l43 ?c43 ?k43 ?a44 ?i44 ?l44 ?c44 ?k44 ?a45 ?i45 ?l45 ?c45 ?k45 ?z1 ?z2 ?z3 ?z4 ?z5 ?z6 ?z7 ?z8 ?z9 ?z10 ?z11 ?z12 ?z13 ?z14 ?z15 ?y1 ?y2 ?y3 ?y4 ?y5 ?y6 ?y7 ?y8 ?y9 ?y10 ?y11
    (case tP => exact hT _ (List.mem_cons_self))
    (case a1 => k_is)
    (case l1 => k_is)
    (case c1 => k_is)
    (case k1 => k_is)
    (case a2 => k_is)
    (case l2 => k_is)
    (case c2 => k_is)
    (case k2 => k_is)
    (case a3 => k_is)
    (case l3 => k_is)
    (case c3 => k_is)
    (case k3 => k_is)
    (case a4 => k_is)
    (case l4 => k_is)
    (case c4 => k_is)
    (case k4 => k_is)
    (case a5 => k_is)
    (case l5 => k_is)
    (case c5 => k_is)
    (case k5 => k_is)
    (case a6 => k_is)
    (case l6 => k_is)
    (case c6 => k_is)
    (case k6 => k_is)
    (case a7 => k_is)
    (case l7 => k_is)
    (case c7 => k_is)
    (case k7 => k_is)
    (case a8 => k_is)
    (case l8 => k_is)
    (case c8 => k_is)
    (case k8 => k_is)
    (case a9 => k_is)
    (case l9 => k_is)
    (case c9 => k_is)
    (case k9 => k_is)
    (case a10 => k_is)
    (case l10 => k_is)
    (case c10 => k_is)
    (case k10 => k_is)
    (case a11 => k_is)
    (case l11 => k_is)
    (case c11 => k_is)
    (case k11 => k_is)
    (case a12 => k_is)
    (case l12 => k_is)
    (case c12 => k_is)
    (case k12 => k_is)
    (case a13 => k_is)
    (case l13 => k_is)
    (case c13 => k_is)
    (case k13 => k_is)
    (case a14 => k_is)
    (case l14 => k_is)
    (case c14 => k_is)
    (case k14 => k_is)
    (case a15 => k_is)
    (case l15 => k_is)
    (case c15 => k_is)
    (case k15 => k_is)
    (case a16 => k_is)
    (case l16 => k_is)
    (case c16 => k_is)
    (case k16 => k_is)
    (case a17 => k_is)
    (case l17 => k_is)
    (case c17 => k_is)
    (case k17 => k_is)
    (case a18 => k_is)
    (case l18 => k_is)
    (case c18 => k_is)
    (case k18 => k_is)
    (case a19 => k_is)
    (case l19 => k_is)
    (case c19 => k_is)
    (case k19 => k_is)
    (case a20 => k_is)
    (case l20 => k_is)
    (case c20 => k_is)
    (case k20 => k_is)
    (case a21 => k_is)
    (case l21 => k_is)
    (case c21 => k_is)
    (case k21 => k_is)
    (case a22 => k_is)
    (case l22 => k_is)
    (case c22 => k_is)
    (case k22 => k_is)
    (case a23 => k_is)
    (case l23 => k_is)
    (case c23 => k_is)
    (case k23 => k_is)
    (case a24 => k_is)
    (case l24 => k_is)
    (case c24 => k_is)
    (case k24 => k_is)
    (case a25 => k_is)
    (case l25 => k_is)
    (case c25 => k_is)
    (case k25 => k_is)
    (case a26 => k_is)
    (case l26 => k_is)
    (case c26 => k_is)
    (case k26 => k_is)
    (case a27 => k_is)
    (case l27 => k_is)
    (case c27 => k_is)
    (case k27 => k_is)
    (case a28 => k_is)
    (case l28 => k_is)
    (case c28 => k_is)
    (case k28 => k_is)
    (case a29 => k_is)
    (case l29 => k_is)
    (case c29 => k_is)
    (case k29 => k_is)
    (case a30 => k_is)
    (case l30 => k_is)
    (case c30 => k_is)
    (case k30 => k_is)
    (case a31 => k_is)
    (case l31 => k_is)
    (case c31 => k_is)
    (case k31 => k_is)
    (case a32 => k_is)
    (case l32 => k_is)
    (case c32 => k_is)
    (case k32 => k_is)
    (case a33 => k_is)
    (case l33 => k_is)
    (case c33 => k_is)
    (case k33 => k_is)
    (case a34 => k_is)
    (case l34 => k_is)
    (case c34 => k_is)
    (case k34 => k_is)
    (case a35 => k_is)
    (case l35 => k_is)
    (case c35 => k_is)
    (case k35 => k_is)
    (case a36 => k_is)
    (case l36 => k_is)
    (case c36 => k_is)
    (case k36 => k_is)
    (case a37 => k_is)
    (case l37 => k_is)
    (case c37 => k_is)
    (case k37 => k_is)
    (case a38 => k_is)
    (case l38 => k_is)
    (case c38 => k_is)
    (case k38 => k_is)
    (case a39 => k_is)
    (case l39 => k_is)
    (case c39 => k_is)
    (case k39 => k_is)
    (case a40 => k_is)
    (case l40 => k_is)
    (case c40 => k_is)
    (case k40 => k_is)
    (case a41 => k_is)
    (case l41 => k_is)
    (case c41 => k_is)
    (case k41 => k_is)
    (case tN => kernel_rfl)
    (case tC => kernel_rfl)
    (case gCP => k_is)
    (case pgCP => k_is)
    (case hdCP => k_is)
    (case poCP => k_is)
    (case saCP => k_is)
    (case mkCP => k_is)
    (case kpCP => k_is)
    (case gCL => k_is)
    (case pgCL => k_is)
    (case hdCL => k_is)
    (case poCL => k_is)
    (case saCL => k_is)
    (case mkCL => k_is)
    (case kpCL => k_is)
    (case nP0 => k_is)
    (case nP1 => k_is)
    (case nP2 => k_is)
    (case nP3 => k_is)
    (case nP4 => k_is)
    (case nP5 => k_is)
    (case nP6 => k_is)
    (case nL0 => k_is)
    (case nL1 => k_is)
    (case nL2 => k_is)
    (case nL3 => k_is)
    (case gEB => k_is)
    (case gaEB => k_is)
    (case ggEB => k_is)
    (case exEB => k_is)
    (case hdEB => k_is)
    (case noEB => k_is)
    (case isEB => k_is)
    (case tyEB => k_is)
    (case gEN => k_is)
    (case gaEN => k_is)
    (case ggEN => k_is)
    (case exEN => k_is)
    (case hdEN => k_is)
    (case noEN => k_is)
    (case isEN => k_is)
    (case tyEN => k_is)
    (case gED => k_is)
    (case gaED => k_is)
    (case ggED => k_is)
    (case exED => k_is)
    (case hdED => k_is)
    (case noED => k_is)
    (case isED => k_is)
    (case tyED => k_is)
    (case gEM => k_is)
    (case gaEM => k_is)
    (case ggEM => k_is)
    (case exEM => k_is)
    (case hdEM => k_is)
    (case noEM => k_is)
    (case isEM => k_is)
    (case tyEM => k_is)
    (case sBB => first | rfl | k_is)
    (case sNB => first | rfl | k_is)
    (case sNN => first | rfl | k_is)
    (case sDB => first | rfl | k_is)
    (case sDN => first | rfl | k_is)
    (case sDD => first | rfl | k_is)
    (case sMB => first | rfl | k_is)
    (case sMN => first | rfl | k_is)
    (case sMD => first | rfl | k_is)
    (case sMM => first | rfl | k_is)
    (case xB => k_is)
    (case rB => first | decide +kernel | k_is)
    (case saB => k_is)
    (case kB => k_is)
    (case a42 => k_is)
    (case i42 => k_is)
    (case l42 => k_is)
    (case c42 => k_is)
    (case k42 => k_is)
    (case a43 => k_is)
    (case i43 => k_is)
    (case l43 => k_is)
    (case c43 => k_is)
    (case k43 => k_is)
    (case a44 => k_is)
    (case i44 => k_is)
    (case l44 => k_is)
    (case c44 => k_is)
    (case k44 => k_is)
    (case a45 => k_is)
    (case i45 => k_is)
    (case l45 => k_is)
    (case c45 => k_is)
    (case k45 => k_is)
    (case z1 => k_is)
    (case z2 => k_is)
    (case z3 => k_is)
    (case z4 => k_is)
    (case z5 => k_is)
    (case z6 => k_is)
    (case z7 => k_is)
    (case z8 => k_is)
    (case z9 => k_is)
    (case z10 => k_is)
    (case z11 => k_is)
    (case z12 => k_is)
    (case z13 => k_is)
    (case z14 => k_is)
    (case z15 => k_is)
    (case y1 => k_is)
    (case y2 => k_is)
    (case y3 => k_is)
    (case y4 => k_is)
    (case y5 => k_is)
    (case y6 => k_is)
    (case y7 => k_is)
    (case y8 => k_is)
    (case y9 => k_is)
    (case y10 => k_is)
    (case y11 => k_is)

